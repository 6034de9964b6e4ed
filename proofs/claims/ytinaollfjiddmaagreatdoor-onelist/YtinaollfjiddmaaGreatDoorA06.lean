import Derived.Test.YtinaollfjiddmaaGreatDoorA04
import Derived.Test.YtinaollfjiddmaaGreatDoorA05
set_option maxRecDepth 100000
set_option maxHeartbeats 8000000
set_option linter.all false
namespace Go.Proofs.YtinaollfjiddmaaGreatDoor
open Go.Value renaming int→I,slice→Y,string→Z,pointer→Zp
open Go.Ending renaming returned→Zr
open _root_.ByteArray renaming empty→Ze
open Go.IntKind renaming i64→J
open Option renaming none→O
open Go.RowKit
def fQ (P:Pm):ByteArray:=mJ P.kind++SP++dg P.frm++SP++iC P.lives++SP++dg P.epoch++SP++dg P.view++jm P.kind P.place P.ent P.commit P.normal P.life P.grp P.old P.log
structure PmW (P:Pm):Prop where
 lvl:P.lives.length≤1000
 gl:P.grp.length≤1000
 ol:P.old.length≤1000
 ll:P.log.length≤1000
 lb:∀ x∈P.lives,0≤x∧x≤999999999
 gb:∀ x∈P.grp,0≤x∧x≤999999999
 ob:∀ x∈P.old,0≤x∧x≤999999999
 eb:∀ x∈P.log,uJ x
 pl:0≤P.place∧P.place≤999999999
 co:0≤P.commit∧P.commit≤999999999
 no:0≤P.normal∧P.normal≤999999999
 li:0≤P.life∧P.life≤999999999
 en:uJ P.ent
 fr:0≤P.frm∧P.frm≤999999999
 ep:0≤P.epoch∧P.epoch≤999999999
 vi:0≤P.view∧P.view≤999999999
 kd:0≤P.kind∧P.kind<128
structure mV (w:World) (P:Pm) (vl vg vo vL:Value):Prop where
 lives:Ints w vl P.lives
 grp:Ints w vg P.grp
 old:Ints w vo P.old
 log:iw w vL P.log
theorem Ib {P:Pm} (h:PmW P):(jm P.kind P.place P.ent P.commit P.normal P.life P.grp P.old P.log).size≤20000000:=by
 have a:=gu _ h.pl.2;have b:=gu _ h.co.2;have c:=gu _ h.no.2;have d:=gu _ h.li.2;have e:=oV h.en;have f:=zL h.ll h.eb h.co.2;have g:=zK h.gl h.ol h.gb h.ob;have i:SP.size=1:=rfl
 have j:(⟨#[]⟩:ByteArray).size=0:=rfl
 unfold jm
 repeat' split
 all_goals (try simp only[ByteArray.size_append])
 all_goals omega
theorem J2 (c n:Int) (t:ByteArray) (w:World) (hT:Tab w) (hc:0≤c∧c≤999999999) (hn:0≤n∧n≤999999999) (ht:t.size≤1000000) :
  Calls Tryz.prog 75 #[I J c,I J n,Z t] w fun e w'=>e=Zr (Z (YS++dg c++SP++dg n++SP++t))∧Below w.heap.size w w':=by
 have j:Hid (YS++dg c++SP++dg n++SP++t=⟨#[121,32]⟩++dg c++⟨#[32]⟩++dg n++⟨#[32]⟩++t):=rfl
 have b:Hid (∀ w,Tab w→Calls Tryz.prog 121 #[I J c] w fun e w'=>e=Zr (Z (dg c))∧Below w.heap.size w w'):=fun w h=>iK c w h hc.1 (by have:=hc.2;omega)
 have d:Hid (∀ w,Tab w→Calls Tryz.prog 121 #[I J n] w fun e w'=>e=Zr (Z (dg n))∧Below w.heap.size w w'):=fun w h=>iK n w h hn.1 (by have:=hn.2;omega)
 have k:=gu c hc.2;have l:=gu n hn.2;generalize YS++dg c++SP++dg n++SP++t=r at *;generalize dg c=dc at *;generalize dg n=f at *;have m:¬9223372036854775807<2+dc.size:=by omega
 have o:¬9223372036854775807<2+dc.size+1:=by omega
 have p:¬9223372036854775807<2+dc.size+1+f.size:=by omega
 have q:¬9223372036854775807<2+dc.size+1+f.size+1:=by omega
 have s:¬9223372036854775807<2+dc.size+1+f.size+1+t.size:=by omega
 go_enter Tryz.func75,Tryz.ntmps75;go_wp2_with fail;refine (b.out _ hT).mono ?_;rintro e u ⟨rfl,a⟩;have g:=hT.below a;go_wp2_with fail;refine (d.out _ g).mono ?_;rintro e v ⟨rfl,i⟩;go_wp2;go_ret;exact⟨by rw[j.out];rfl,a.trans (i.mono a.size)⟩
theorem J3 (P:Pm) (vl vg vo vL:Value) (w:World) (hT:Tab w) (hW:PmW P) (hR:mV w P vl vg vo vL):Calls Tryz.prog 139 #[.agg (pmC P vl vg vo vL)] w fun e w'=>e=Zr (Z (fQ P))∧Below w.heap.size w w':=by
 obtain⟨s,t,rfl,_,_⟩:=hR.lives.shape
 obtain⟨ag,y,rfl,_,_⟩:=hR.grp.shape
 obtain⟨z,j,rfl,_,_⟩:=hR.old.shape
 obtain⟨A,B,rfl,_,_⟩:=hR.log.shape
 have aa:Hid (∀ w,Tab w→mV w P (Y s P.lives.length t) (Y ag P.grp.length y) (Y z P.old.length j) (Y A P.log.length B)→Calls Tryz.prog 160 #[.agg (pmC P (Y s P.lives.length t) (Y ag P.grp.length y) (Y z P.old.length j) (Y A P.log.length B))] w fun e w'=>e=Zr (Z (jm P.kind P.place P.ent P.commit P.normal P.life P.grp P.old P.log))∧Below w.heap.size w w'):=fun w h hR=>Ma P.kind P.frm P.epoch P.view P.place P.ent.1 P.ent.2.1 P.commit P.normal P.life P.ent.2.2 s ag z A _ _ _ _ t y j B w h P.lives P.grp P.old P.log hR.lives hR.grp hR.old hR.log hW.lvl hW.gl hW.ol hW.ll hW.lb hW.gb hW.ob hW.eb hW.pl hW.co hW.no hW.li hW.en hW.fr hW.ep hW.vi hW.kd
 have ab:Hid (∀ w,Tab w→Ints w (Y s P.lives.length t) P.lives→Calls Tryz.prog 159 #[Y s P.lives.length t] w fun e w'=>e=Zr (Z (iC P.lives))∧Below w.heap.size w w'):=fun w h hv=>Bj _ P.lives w h hv hW.lvl hW.lb
 have HE:Hid (fQ P=⟨#[UInt8.ofNat P.kind.toNat]⟩++⟨#[32]⟩++dg P.frm++⟨#[32]⟩++iC P.lives++⟨#[32]⟩++dg P.epoch++⟨#[32]⟩++dg P.view++jm P.kind P.place P.ent P.commit P.normal P.life P.grp P.old P.log):=rfl
 have s0:=enc1 hW.kd.1 hW.kd.2;rw[← s0] at HE;have z0:(Utf8.encode P.kind).size=1:=by rw[s0];rfl
 clear s0;have s1:=gu _ hW.fr.2;have s2:=gu _ hW.ep.2;have s3:=gu _ hW.vi.2;have s4:=JU hW.lvl hW.lb;have s5:=Ib hW;have ac:Hid (∀ w,Tab w→Calls Tryz.prog 121 #[I J P.frm] w fun e w'=>e=Zr (Z (dg P.frm))∧Below w.heap.size w w'):=fun w h=>iK P.frm w h hW.fr.1 (by have:=hW.fr.2;omega)
 have M:Hid (∀ w,Tab w→Calls Tryz.prog 121 #[I J P.epoch] w fun e w'=>e=Zr (Z (dg P.epoch))∧Below w.heap.size w w'):=fun w h=>iK P.epoch w h hW.ep.1 (by have:=hW.ep.2;omega)
 have N:Hid (∀ w,Tab w→Calls Tryz.prog 121 #[I J P.view] w fun e w'=>e=Zr (Z (dg P.view))∧Below w.heap.size w w'):=fun w h=>iK P.view w h hW.vi.1 (by have:=hW.vi.2;omega)
 have ar:=hW.kd.1;have av:=hW.kd.2;clear hW;obtain⟨kd,fr,Q,ep,R,U,⟨V,W,X⟩,co,no,li,g,o,l⟩:=P
 simp only[pmC] at *;generalize fQ _=r at *;generalize jm _ _ _ _ _ _ _ _ _=tr at *;generalize iC Q=L at *;generalize dg fr=v at *;generalize dg ep=de at *;generalize dg R=dv at *;obtain⟨m,ad⟩:∃ m,Utf8.encode kd=m:=⟨_,rfl⟩
 rw[ad] at HE z0;have aw:m.size≤1:=by omega
 clear z0;have k:Below w.heap.size w (w.alloc (.cells #[I .u8 kd,I J fr,Y s Q.length t,I J ep,I J R,I J U,I J V,I J W,Z X,I J co,I J no,I J li,Y ag g.length y,Y z o.length j,Y A l.length B] 68)):=(Below.refl _ w).alloc (Nat.le_refl _) _
 have a:=heap_alloc_new w (.cells #[I .u8 kd,I J fr,Y s Q.length t,I J ep,I J R,I J U,I J V,I J W,Z X,I J co,I J no,I J li,Y ag g.length y,Y z o.length j,Y A l.length B] 68);have n:=hT.below k;have p:mV _ _ _ _ _ _:=⟨hR.lives.below k,hR.grp.below k,hR.old.below k,hR.log.below k⟩
 go_enter Tryz.func139,Tryz.ntmps139;go_wp2_with fail;generalize (w.alloc (.cells #[I .u8 kd,I J fr,Y s Q.length t,I J ep,I J R,I J U,I J V,I J W,Z X,I J co,I J no,I J li,Y ag g.length y,Y z o.length j,Y A l.length B] 68))=c at *;have k0:=cell_regrown (show c.cell? ⟨w.heap.size,0,O⟩=some (I .u8 kd) by simp[World.cell?,a])
 have k1:=cell_regrown (show c.cell? ⟨w.heap.size,1,O⟩=some (I J fr) by simp[World.cell?,a])
 have k2:=cell_regrown (show c.cell? ⟨w.heap.size,2,O⟩=some (Y s Q.length t) by simp[World.cell?,a])
 have k3:=cell_regrown (show c.cell? ⟨w.heap.size,3,O⟩=some (I J ep) by simp[World.cell?,a])
 have k4:=cell_regrown (show c.cell? ⟨w.heap.size,4,O⟩=some (I J R) by simp[World.cell?,a])
 have k5:=cell_regrown (show c.cell? ⟨w.heap.size,5,O⟩=some (I J U) by simp[World.cell?,a])
 have k6:=cell_regrown (show c.cell? ⟨w.heap.size,6,O⟩=some (I J V) by simp[World.cell?,a])
 have k7:=cell_regrown (show c.cell? ⟨w.heap.size,7,O⟩=some (I J W) by simp[World.cell?,a])
 have k8:=cell_regrown (show c.cell? ⟨w.heap.size,8,O⟩=some (Z X) by simp[World.cell?,a])
 have k9:=cell_regrown (show c.cell? ⟨w.heap.size,9,O⟩=some (I J co) by simp[World.cell?,a])
 have C:=cell_regrown (show c.cell? ⟨w.heap.size,10,O⟩=some (I J no) by simp[World.cell?,a])
 have D:=cell_regrown (show c.cell? ⟨w.heap.size,11,O⟩=some (I J li) by simp[World.cell?,a])
 have E:=cell_regrown (show c.cell? ⟨w.heap.size,12,O⟩=some (Y ag g.length y) by simp[World.cell?,a])
 have F:=cell_regrown (show c.cell? ⟨w.heap.size,13,O⟩=some (Y z o.length j) by simp[World.cell?,a])
 have G:=cell_regrown (show c.cell? ⟨w.heap.size,14,O⟩=some (Y A l.length B) by simp[World.cell?,a])
 have ae:c.heap.size=c.heap.size:=rfl
 have cF:=fun d f=>Calls.regrown_of (ac.out _ (n.below (below_regrown c d f)))
 have cE:=fun d f=>Calls.regrown_of (M.out _ (n.below (below_regrown c d f)))
 have cV:=fun d f=>Calls.regrown_of (N.out _ (n.below (below_regrown c d f)))
 have S:=fun d f=>Calls.regrown_of (ab.out _ (n.below (below_regrown c d f)) (p.lives.below (below_regrown c d f)))
 have z1:¬9223372036854775807<m.size+1:=by omega
 have z2:¬9223372036854775807<m.size+1+v.size:=by omega
 have z3:¬9223372036854775807<m.size+1+v.size+1:=by omega
 have z4:¬9223372036854775807<m.size+1+v.size+1+L.size:=by omega
 have z5:¬9223372036854775807<m.size+1+v.size+1+L.size+1:=by omega
 have z6:¬9223372036854775807<m.size+1+v.size+1+L.size+1+de.size:=by omega
 have z7:¬9223372036854775807<m.size+1+v.size+1+L.size+1+de.size+1:=by omega
 have z8:¬9223372036854775807<m.size+1+v.size+1+L.size+1+de.size+1+dv.size:=by omega
 have z9:¬9223372036854775807<m.size+1+v.size+1+L.size+1+de.size+1+dv.size+tr.size:=by omega
 clear hR ae;have ax:IntKind.i32.wrap kd=kd:=by rw[IntKind.wrap_i32];omega
 refine wp_region_quiet_below (by kernel_rfl) (by kernel_rfl) ?_
 repeat (quiet_step (first|exact cF _ _|exact S _ _))
 refine wpQuiet_nil ?_;intro _ hw';obtain⟨⟨i,b⟩,q⟩:=hw'
 subst q;have H:=below_regrown c i b;have m0:=k0 i b;have m1:=k1 i b;have m2:=k2 i b;have m3:=k3 i b;have m4:=k4 i b;have m5:=k5 i b;have m6:=k6 i b;have m7:=k7 i b;have m8:=k8 i b;have m9:=k9 i b;have af:=C i b;have ai:=D i b;have ak:=E i b;have am:=F i b;have an:=G i b;have K:=n.below H;have u:mV _ _ _ _ _ _:=⟨p.lives.below H,p.grp.below H,p.old.below H,p.log.below H⟩
 clear k0 k1 k2 k3 k4 k5 k6 k7 k8 k9 C D E F G cF cE cV S a;generalize Sort.grow (redrawn c i) b=x at *;go_wp2_with fail;have k0:=cell_regrown m0;have k1:=cell_regrown m1;have k2:=cell_regrown m2;have k3:=cell_regrown m3;have k4:=cell_regrown m4;have k5:=cell_regrown m5;have k6:=cell_regrown m6;have k7:=cell_regrown m7;have k8:=cell_regrown m8;have k9:=cell_regrown m9;have C:=cell_regrown af;have D:=cell_regrown ai;have E:=cell_regrown ak;have F:=cell_regrown am;have G:=cell_regrown an;have cE:=fun d f=>Calls.regrown_of (M.out _ (K.below (below_regrown x d f)))
 have cV:=fun d f=>Calls.regrown_of (N.out _ (K.below (below_regrown x d f)))
 have cR:=fun d f=>Calls.regrown_of (aa.out _ (K.below (below_regrown x d f)) ⟨u.lives.below (below_regrown x d f),u.grp.below (below_regrown x d f),u.old.below (below_regrown x d f),u.log.below (below_regrown x d f)⟩)
 refine wp_region_quiet_below (by kernel_rfl) (by kernel_rfl) ?_
 repeat (quiet_step (first|exact cE _ _|exact cV _ _|exact cR _ _))
 refine wpQuiet_nil ?_;intro _ hw';obtain⟨⟨ap,T⟩,q⟩:=hw'
 subst q;have aq:=below_regrown x ap T;go_wp2;go_ret;exact⟨by rw[HE.out];rfl,k.trans ((H.trans (aq.mono H.size)).mono k.size)⟩
abbrev En:=Int×Int×ByteArray
structure Rp where
 id:Int
 n:Int
 lives:List Int
 status:Int
 epoch:Int
 view:Int
 normal:Int
 grp:List Int
 old:List Int
 log:List En
 decided:Nat
 sv:Sv
 acks:List Int
 aI:List Pm
 answers:List Pm
 started:List Bool
 out:List (Int×ByteArray)
def sv0:Sv:=⟨List.replicate 26 0,List.replicate 9 (0,⟨#[]⟩)⟩
def jW:List Int:=List.replicate 7 0
def st0:List Bool:=List.replicate 7 false
def gW (g:List Int) (x:Int):Bool:=g.any (fun y=>y==x)
def fJ (g:List Int) (v:Int):Int:=if g.length=0∨v<0 then -1 else g.getD (v % (g.length:Int)).toNat 0
def eP (g:List Int):Int:=((g.length:Int)-1).tdiv 2
def fA (e:En):Bool:=jk e.2.2
def regs (l:List En):Nat:=l.countP fA
def CK (l:List En) (e:Int):Nat:=match (List.range l.length).find? (fun i=>fA (l.getD i (0,0,⟨#[]⟩))&&((regs (l.take (i+1)):Int)==e)) with
 | some i=>i+1
 | none=>l.length
def dP (l:List En) (e:Int):List En:=l.take (CK l e)
def l8 (S:Sv) (e:En):Sv:=zh S e.1 e.2.1 e.2.2
def svF (l:List En):Sv:=l.foldl l8 sv0
def cK (l:List Int):Int:=l.foldl (fun g x=>if g<x then x else g) 0
def jT (v b:Pm):Bool:=if v.normal=b.normal then decide (b.log.length<v.log.length) else decide (b.normal<v.normal)
def pm0:Pm:=⟨0,0,[],0,0,0,(0,0,⟨#[]⟩),0,0,0,[],[],[]⟩
def qK (b:Option Pm) (v:Pm):Option Pm:=match b with
 | none=>some v
 | some b=>if jT v b then some v else some b
def ji (l:List Pm):Option Pm:=l.foldl qK O
def aK (l:List Pm) (m:Pm):List Pm:=if l.any (fun x=>x.frm==m.frm) then l.map (fun x=>if x.frm==m.frm then m else x) else l++[m]
def gT (l:List Pm) (lives:List Int):List Pm:=l.filter (fun m=>decide (lives.getD m.frm.toNat 0≤m.lives.getD m.frm.toNat 0))
def iV (l:List Pm) (e:Int):List Int:=match l.reverse.find? (fun m=>m.epoch==e) with
 | some m=>m.grp
 | none=>[]
def eH (l:List Pm) (e:Int) (g:List Int):List Pm:=l.filter (fun m=>(m.epoch==e)&&gW g m.frm)
def IL (c:List Pm) (g:List Int):Option Pm :=
 if (c.length:Int)≤eP g then O
 else c.find? (fun m=>(m.frm==fJ g (cK (c.map (·.view))))&&(m.view==cK (c.map (·.view))))
def fI (l:List Pm):Option Pm:=IL (eH l (cK (l.map (·.epoch))) (iV l (cK (l.map (·.epoch))))) (iV l (cK (l.map (·.epoch))))
namespace Rp
def mem (r:Rp) (x:Int):Bool:=gW r.grp x
def gZ (r:Rp):Int:=fJ r.grp r.view
def dG (r:Rp):Bool:=r.gZ==r.id
def leads (r:Rp):Bool:=(r.status==1)&&r.dG
def carries (r:Rp):Bool:=(r.status==1)||(r.status==2)
def closing (r:Rp):Bool:=decide (r.epoch<(regs r.log:Int))
def put (r:Rp) (qt:Int) (t:ByteArray):Rp:={ r with out:=r.out++[(qt,t)] }
def send (r:Rp) (qt:Int) (P:Pm):Rp:=r.put qt (fQ P)
def eZ (r:Rp) (g:List Int) (P:Pm):Rp:={ r with out:=r.out++(g.filter (fun x=>x != r.id)).map (fun x=>(x,fQ P)) }
def head (r:Rp) (k:Int):Pm:={ pm0 with kind:=k,frm:=r.id,lives:=r.lives,epoch:=r.epoch,view:=r.view }
def bare (r:Rp) (qt k:Int):Rp:=r.send qt (r.head k)
def dA (r:Rp) (place:Int):Pm:={ r.head 112 with place:=place,ent:=r.log.getD (place-1).toNat (0,0,⟨#[]⟩),commit:=r.decided }
def aQ (r:Rp) (place:Int):Rp:=if place<1∨(r.log.length:Int)<place then r else r.eZ r.grp (r.dA place)
def ack (r:Rp) (qt:Int):Rp:=r.send qt { r.head 107 with place:=r.log.length }
def reply (r:Rp) (c m:Int) (t:ByteArray):Rp:=r.put (-c) (YS++dg c++SP++dg m++SP++t)
def aC (r:Rp):Pm:={ r.head 115 with grp:=r.grp,old:=r.old,commit:=r.decided,log:=r.log }
def tell (r:Rp) (qt:Int):Rp:=r.send qt r.aC
def bF (r:Rp):Rp:=r.eZ r.grp r.aC
def dz (r:Rp):Rp:=r.eZ r.old (r.head 116)
def iA (r:Rp):Pm:={ r.aC with view:=0,log:=dP r.log r.epoch,commit:=(dP r.log r.epoch).length }
def jL (r:Rp) (qt:Int):Rp:=r.send qt r.iA
def begin_ (r:Rp) (v:Int):Rp:={ r with view:=v,normal:=v,status:=1,acks:=jW,aI:=[] }
def over (r:Rp) (l:List En):Rp:={ r with log:=l,decided:=min r.decided l.length,sv:=svF (l.take (min r.decided l.length)) }
def turn (r:Rp) (g:List Int):Rp :=
 let r3:={ ({ r with old:=r.grp,grp:=g,epoch:=r.epoch+1 }:Rp).begin_ 0 with started:=st0 }
 if gW g r.id then (r3.bF).dz else ({ r3 with status:=5 }:Rp).bF
def l6 (r:Rp) (e:En):Rp:={ r with sv:=l8 r.sv e,decided:=r.decided+1 }
def carried (r:Rp) (e:En):Rp:=if (r.l6 e).leads then (r.l6 e).reply e.1 e.2.1 (doS r.sv.vals e.2.2).2 else r.l6 e
def turns (r:Rp) (e:En):Bool:=fA e&&decide (r.epoch<(regs (r.log.take r.decided):Int))
def qE (e:En) (n:Int):List Int:=gJ (e.2.2.extract 1 e.2.2.size) n
def dZ:Nat→Rp→Int→Rp
 | 0,r,_=>r
 | f+1,r,place =>
  if (r.decided:Int)<place∧r.decided<r.log.length then
   let e:=r.log.getD r.decided (0,0,⟨#[]⟩)
   if (r.carried e).turns e then (r.carried e).turn (qE e r.n) else dZ f (r.carried e) place
  else r
def aV (r:Rp) (place:Int):Rp:=dZ (r.log.length-r.decided) r place
def call (r:Rp):Rp:=r.eZ r.grp (r.head 104)
def dw (r:Rp):Pm:={ r.head 118 with normal:=r.normal,commit:=r.decided,log:=r.log }
def kN (r:Rp):Rp:=if r.dG then { r with aI:=aK r.aI r.dw } else r.send r.gZ r.dw
def dJ (r:Rp):Rp:=if r.dG then r else r.kN
def jH (r:Rp) (v:Int):Rp:={ r with normal:=if r.status==1 then r.view else r.normal,view:=v,status:=2,acks:=jW,aI:=[] }
def want (r:Rp) (v:Int):Rp:=(r.jH v).call.kN
def counted (r:Rp) (best:Pm) (c:Int):Rp:=((r.over best.log).begin_ r.view).bF.aV c
def count (r:Rp) (m:Pm):Rp :=
 let r1:={ r with aI:=aK r.aI m }
 if (r1.aI.length:Int)≤eP r.grp then r1 else r1.counted ((ji r1.aI).getD pm0) (cK (r1.aI.map (·.commit)))
def qW (m:Pm):Bool:=(m.kind==104)||(m.kind==118)
def bR (r:Rp) (m:Pm):Rp :=
 if r.mem m.frm then (if (m.kind==118)&&(r.want m.view).dG then (r.want m.view).count m else r.want m.view) else r
def aT (r:Rp) (m:Pm):Rp :=
 if r.mem m.frm then
  (if m.kind=112∨m.kind=99 then r.bare m.frm 103 else if m.kind=104 then r.dJ else if m.kind=118∧r.dG=true then r.count m else r)
 else r
def bY (r:Rp) (c:Int):Rp:=(if r.dG then r else r.ack r.gZ).aV c
def enter (r:Rp) (m:Pm):Rp:=({ r with epoch:=m.epoch,grp:=m.grp,old:=m.old }:Rp).begin_ m.view
def bP (r:Rp) (m:Pm):Rp :=
 if r.status==1 then r.tell m.frm else if m.epoch<r.epoch then r.jL m.frm else if qW m&&r.mem m.frm then r.bare m.frm 104 else r
def aF (r:Rp) (m:Pm):Rp :=
 if r.view<m.view∨(m.view=r.view∧r.status=2) then ((r.begin_ m.view).over m.log).bY m.commit
 else if m.view<r.view then (if r.status==1 then r.tell m.frm else r)
 else if r.dG=false∧r.log.length<m.log.length then (r.over m.log).bY m.commit
 else if r.mem m.frm then r else r.bare m.frm 116
def jP (r:Rp) (m:Pm):Bool:=r.carries&&(m.epoch==r.epoch+1)&&gW m.old r.id
def leave0 (r:Rp):Rp:={ r with status:=5,view:=0,normal:=0,started:=st0 }
def leave (r:Rp) (m:Pm):Rp:=((r.leave0.over (dP m.log r.epoch)).aV m.commit).bF
def bI (r:Rp) (m:Pm):Rp :=
 if (r.enter m).mem r.id then (((r.enter m).over m.log).dz).bY m.commit
 else if r.jP m then (r.enter m).leave m else { r.enter m with status:=4 }
def dQ (r:Rp) (m:Pm):Rp :=
 if r.epoch<m.epoch then r.bI m else if r.carries then (if m.epoch<r.epoch then r.bP m else r.aF m) else r
def starters (l:List Bool):Nat:=l.countP (fun x=>x)
def dV (r:Rp) (m:Pm):Rp :=
  if (r.status==5)&&(m.epoch==r.epoch)&&r.mem m.frm then
    (let r1:={ r with started:=r.started.set m.frm.toNat true }
     if eP r.grp<(starters r1.started:Int) then { r1 with status:=4 } else r1)
  else r
def answer (r:Rp) (m:Pm):Rp:=if r.status==1 then r.send m.frm { r.aC with kind:=97,life:=m.lives.getD m.frm.toNat 0 } else r
def bZ (r:Rp) (m:Pm):Rp :=
 if r.epoch<m.epoch then r.bare m.frm 103 else if (m.kind==103)&&(r.status==5)&&r.mem m.frm then r.tell m.frm else r
def resume (r:Rp) (a:Pm):Rp :=
 let r1:={ r.enter a with answers:=[] }
 if r1.mem r.id then (let r2:=r1.over a.log;(if r2.dG then r2 else r2.ack a.frm).aV a.commit) else { r1 with status:=4 }
def dH (r:Rp) (m:Pm):Rp :=
  if m.life=r.lives.getD r.id.toNat 0 then
    (let r1:={ r with answers:=aK r.answers m }
     match fI r1.answers with
     | some a=>if (regs a.log:Int)≤a.epoch then r1.resume a else r1
     | none=>r1)
  else r
def dI (r:Rp) (m:Pm):Rp :=
  if m.frm=r.gZ then
    (if (r.log.length:Int)+1<m.place then r.bare m.frm 103
     else if m.place=(r.log.length:Int)+1 then
       (if r.closing then r else (({ r with log:=r.log++[m.ent] }:Rp).ack m.frm).aV m.commit)
     else (r.ack m.frm).aV m.commit)
  else r
def dL (r:Rp) (m:Pm):Rp :=
 if m.frm=r.gZ then (if (r.log.length:Int)<m.commit then r.bare m.frm 103 else r.aV m.commit) else r
def kE (r:Rp) (place:Int):Nat:=r.grp.countP (fun x=>(x != r.id)&&decide (place≤r.acks.getD x.toNat 0))
def kC (r:Rp):Nat→Int
 | 0=>0
 | k+1=>if eP r.grp≤(r.kE ((k:Int)+1):Int) then (k:Int)+1 else kC r k
def oO (r:Rp):Int:=r.kC r.log.length
def fq (r:Rp) (q:Nat) (p:Int):Rp:=if r.acks.getD q 0<p then { r with acks:=r.acks.set q p } else r
def fZ (r:Rp) (m:Pm):Rp :=
 if r.leads=true∧m.place≤(r.log.length:Int) then (r.fq m.frm.toNat m.place).aV (r.fq m.frm.toNat m.place).oO else r
def bS (r:Rp) (m:Pm):Rp :=
 if m.kind=103 then r.tell m.frm
 else if r.mem m.frm then
  (if m.kind=112 then r.dI m else if m.kind=99 then r.dL m else if m.kind=107 then r.fZ m else if m.kind=104∨m.kind=118 then r.tell m.frm else r)
 else r
def bH (r:Rp) (m:Pm):Rp :=
 if m.epoch=r.epoch∧m.view=r.view then (if r.status=2 then r.aT m else r.bS m)
 else if m.epoch=r.epoch∧r.view<m.view then (if qW m then r.bR m else r.bare m.frm 103)
 else if r.epoch<m.epoch then r.bare m.frm 103 else r.bP m
def aU (r:Rp) (m:Pm):Rp :=
 if r.status=3 then (if m.kind=97 then r.dH m else r)
 else if m.kind=115 then r.dQ m
 else if m.kind=114 then r.answer m
 else if m.kind=116 then r.dV m
 else if m.kind=97 then r
 else if r.status=4∨r.status=5 then r.bZ m
 else r.bH m
def alive (r:Rp) (m:Pm):Bool:=(m.frm != r.id)&&decide (r.lives.getD m.frm.toNat 0≤m.lives.getD m.frm.toNat 0)
def gY (l:List Int) (r:Rp) (i:Nat):Rp :=
 if ((i:Int) != r.id)&&decide (r.lives.getD i 0<l.getD i 0) then { r with lives:=r.lives.set i (l.getD i 0),acks:=r.acks.set i 0 } else r
def learn (r:Rp) (l:List Int):Rp:=(List.range r.n.toNat).foldl (gY l) r
def pruned (r:Rp):Rp:={ r with aI:=gT r.aI r.lives,answers:=gT r.answers r.lives }
def nW (l:List En) (c:Int):Nat→Int
 | 0=>0
 | k+1=>if (l.getD k (0,0,⟨#[]⟩)).1=c then (l.getD k (0,0,⟨#[]⟩)).2.1 else nW l c k
def iQ (r:Rp) (c:Int):Int:=nW r.log c r.log.length
def eU (r:Rp) (e:En):Rp:=if (kr r.sv e.1).1=e.2.1 then r.reply e.1 e.2.1 (kr r.sv e.1).2 else r
def propose (r:Rp) (e:En):Rp :=
 if r.closing=true∨10≤r.log.length then r else ({ r with log:=r.log++[e] }:Rp).aQ ((r.log.length:Int)+1)
def fu (e:En) (n:Int):Bool:=!(fA e&&bK (e.2.2.extract 1 e.2.2.size).data.toList n)
def bQ (r:Rp) (m:Pm):Rp :=
  if r.leads then
    (if m.ent.2.1<r.iQ m.ent.1 then r
     else if m.ent.2.1=r.iQ m.ent.1 then r.eU m.ent
     else if m.kind=109∧r.epoch<m.epoch then r
     else if m.kind=109∧(m.epoch<r.epoch∨fu m.ent r.n=true) then r.reply m.ent.1 m.ent.2.1 ⟨#[98,97,100]⟩
     else r.propose m.ent)
  else r
def take (r:Rp) (m:Pm):Rp :=
 if m.kind=113∨m.kind=109 then r.bQ m
 else if r.alive m then ((r.learn m.lives).pruned).aU m else r
def jU:Nat→Rp→Int→Rp
 | 0,r,_=>r
 | k+1,r,p=>jU k (r.aQ p) (p+1)
def iD (r:Rp):Rp :=
 if r.decided=r.log.length then r.eZ r.grp { r.head 99 with commit:=r.decided }
 else jU (r.log.length-r.decided) r ((r.decided:Int)+1)
def oF (r:Rp) (i:Nat):Rp:=if (i:Int) != r.id then r.bare i 114 else r
def ask (r:Rp):Rp:=(List.range r.n.toNat).foldl oF r
def lu (r:Rp):Rp :=
 if r.leads then r.iD else if r.status=2 then r.call.dJ else if r.status=3 then r.ask else if r.status=5 then r.bF else r
def suspect (r:Rp):Rp:=if r.carries=true∧r.view<999 then r.want (r.view+1) else r
end Rp
def Rws {α:Type} (C:α→List Value→Prop):List α→List Value→Prop
 | [],xs=>xs=[]
 | m :: ms,xs=>∃ cs rest,xs=cs++rest∧C m cs∧Rws C ms rest
section
variable {α:Type} {C D:α→List Value→Prop}
theorem Rws.mono (h:∀ m cs,C m cs→D m cs):∀ {ms:List α} {xs:List Value},Rws C ms xs→Rws D ms xs
 | [],_,q=>q
 | _ :: _,_,⟨cs,rest,h1,h2,h3⟩=>⟨cs,rest,h1,h _ _ h2,Rws.mono h h3⟩
theorem Rws.app:∀ {ms ns:List α} {xs ys:List Value},Rws C ms xs→Rws C ns ys→Rws C (ms++ns) (xs++ys)
 | [],_,_,_,h,k=>by rw[h];exact k
 | _ :: _,_,_,ys,⟨cs,rest,h1,h2,h3⟩,k=>⟨cs,rest++ys,by rw[h1,List.append_assoc],h2,h3.app k⟩
theorem Rws.one {m:α} {cs:List Value} (h:C m cs):Rws C [m] cs:=⟨cs,[],by simp,h,rfl⟩
theorem Rws.get {s:Nat} (h:∀ m cs,C m cs→cs.length=s):∀ {ms:List α} {xs:List Value},Rws C ms xs→∀ k (hk:k<ms.length),∃ cs,C ms[k] cs∧∀ j u,cs[j]? = some u→xs[k*s+j]? = some u
 | [],_,_,k,hk=>by simp at hk
 | m :: ms,_,⟨cs,rest,h1,h2,h3⟩,0,_=>⟨cs,h2,fun j u hj=>by
   rw[h1,Nat.zero_mul,Nat.zero_add,List.getElem?_append_left (List.getElem?_eq_some_iff.1 hj).1];exact hj⟩
 | m :: ms,_,⟨cs,rest,h1,h2,h3⟩,k+1,hk=>by
   obtain⟨ds,e1,e2⟩:=Rws.get h h3 k (by simpa using hk)
   refine⟨ds,by simpa using e1,fun j u hj=>?_⟩
   have hl:=h _ _ h2;rw[h1,List.getElem?_append_right (by rw[hl,Nat.add_mul];omega),show (k+1)*s+j-cs.length=k*s+j from by rw[hl,Nat.add_mul];omega]
   exact e2 j u hj
end
def In (F:List Nat) (v:Value):Prop:=∀ k,v.ownBlock=some k→k∈F
theorem In.nil (F:List Nat) (n c:Nat):In F (Y O n c):=by intro k hk;simp[Value.ownBlock] at hk
theorem In.sub {F F':List Nat} {v:Value} (h:In F v) (hs:∀ x∈F,x∈F'):In F' v:=fun k hk=>hs k (h k hk)
structure Sl (W F:List Nat) (v:Value):Prop where
 fr:Fr W v
 inn:In F v
theorem Sl.nil (W F:List Nat):Sl W F (Y O 0 0):=⟨Fr.nil _ _ _,In.nil _ _ _⟩
structure dX (w:World) (W F:List Nat) (P:Pm) (vl vg vo vL:Value):Prop where
 lives:Ints w vl P.lives
 grp:Ints w vg P.grp
 old:Ints w vo P.old
 log:iw w vL P.log
 sl:Sl W F vl
 sg:Sl W F vg
 so:Sl W F vo
 sL:Sl W F vL
theorem iw.kp {w w':World} {v:Value} {l:List En} {S S':List Nat} (h:iw w v l) (k:Kp S w w') (hf:Fr S' v) (hsub:∀ x∈S,x∈S':=by first|exact fun _ h=>h|exact sub3|(intro x hx;simp at hx;simp[hx])):iw w' v l:=Rd.kp h k hf hsub
structure Mv (w:World) (W F W' F':List Nat):Prop where
 m:∀ x∈W',x∈W∨w.heap.size≤x
 f:∀ x∈F,x∈F'
 g:∀ x∈F',x∈F∨w.heap.size≤x
theorem Mv.refl (w:World) (W F:List Nat):Mv w W F W F:=⟨fun _ h=>.inl h,fun _ h=>h,fun _ h=>.inl h⟩
theorem Mv.trans {w w1:World} {W F W1 F1 W2 F2:List Nat} (h:Mv w W F W1 F1) (k:Mv w1 W1 F1 W2 F2) (hs:w.heap.size≤w1.heap.size):Mv w W F W2 F2 :=
  ⟨fun x hx => by rcases k.m x hx with h1 | h1
                  · exact h.m x h1
                  · right;omega,
   fun x hx=>k.f x (h.f x hx),
   fun x hx => by rcases k.g x hx with h1 | h1
                  · exact h.g x h1
                  · right;omega⟩
theorem Sl.mv {w:World} {W F W' F':List Nat} {size n:Nat} {v:Value} {xs:List Value} (h:Sl W F v) (hr:Rd w size v n xs) (m:Mv w W F W' F'):Sl W' F' v :=
 ⟨Fr.swap hr h.fr m.m,h.inn.sub m.f⟩
theorem dX.mv {w w':World} {W F W' F':List Nat} {P:Pm} {vl vg vo vL:Value} (h:dX w W F P vl vg vo vL) (k:Kp W w w') (m:Mv w W F W' F'):dX w' W' F' P vl vg vo vL :=
 ⟨h.lives.kp k h.sl.fr,h.grp.kp k h.sg.fr,h.old.kp k h.so.fr,h.log.kp k h.sL.fr,h.sl.mv h.lives m,h.sg.mv h.grp m,h.so.mv h.old m,h.sL.mv h.log m⟩
theorem dX.kp {w w':World} {W F:List Nat} {P:Pm} {vl vg vo vL:Value} (h:dX w W F P vl vg vo vL) (k:Kp W w w'):dX w' W F P vl vg vo vL:=h.mv k (Mv.refl _ _ _)
theorem dX.below {w w':World} {W F:List Nat} {P:Pm} {vl vg vo vL:Value} (h:dX w W F P vl vg vo vL) (k:Below w.heap.size w w'):dX w' W F P vl vg vo vL:=h.kp (Kp.of_below k)
theorem dX.rd {w:World} {W F:List Nat} {P:Pm} {vl vg vo vL:Value} (h:dX w W F P vl vg vo vL):mV w P vl vg vo vL:=⟨h.lives,h.grp,h.old,h.log⟩
def ig (w:World) (W F:List Nat) (P:Pm) (cs:List Value):Prop:=∃ vl vg vo vL,cs=(pmC P vl vg vo vL).toList∧dX w W F P vl vg vo vL
theorem ig.len {w:World} {W F:List Nat} (P:Pm) (cs:List Value) (h:ig w W F P cs):cs.length=15:=by
 obtain⟨vl,vg,vo,vL,rfl,_⟩:=h;rfl
theorem ig.mv {w w':World} {W F W' F':List Nat} {P:Pm} {cs:List Value} (h:ig w W F P cs) (k:Kp W w w') (m:Mv w W F W' F'):ig w' W' F' P cs:=by
 obtain⟨vl,vg,vo,vL,rfl,h⟩:=h;exact⟨vl,vg,vo,vL,rfl,h.mv k m⟩
theorem Kg {w:World} {W F:List Nat} {P:Pm} {vl vg vo vL:Value} (h:dX w W F P vl vg vo vL):∀ u∈(pmC P vl vg vo vL).toList,u.oneCell'=true:=by
 obtain⟨a,c1,rfl,_⟩:=h.lives.shape
 obtain⟨b,c2,rfl,_⟩:=h.grp.shape
 obtain⟨c,c3,rfl,_⟩:=h.old.shape
 obtain⟨d,c4,rfl,_⟩:=h.log.shape
 intro u hu;simp[pmC] at hu;rcases hu with rfl|rfl|rfl|rfl|rfl|rfl|rfl|rfl|rfl|rfl|rfl|rfl|rfl|rfl|rfl <;> rfl
structure Pms (w:World) (W F:List Nat) (v:Value) (l:List Pm):Prop where
 sl:Sl W F v
 rd:∃ xs,Rd w 15 v l.length xs∧Rws (ig w W F) l xs
theorem Pms.mv {w w':World} {W F W' F':List Nat} {v:Value} {l:List Pm} (h:Pms w W F v l) (k:Kp W w w') (m:Mv w W F W' F'):Pms w' W' F' v l:=by
 obtain⟨h1,xs,h2,h3⟩:=h
 exact⟨h1.mv h2 m,xs,h2.kp k h1.fr,h3.mono fun P cs q=>q.mv k m⟩
theorem Pms.kp {w w':World} {W F:List Nat} {v:Value} {l:List Pm} (h:Pms w W F v l) (k:Kp W w w'):Pms w' W F v l:=h.mv k (Mv.refl _ _ _)
theorem Pms.below {w w':World} {W F:List Nat} {v:Value} {l:List Pm} (h:Pms w W F v l) (k:Below w.heap.size w w'):Pms w' W F v l:=h.kp (Kp.of_below k)
theorem Pms.nil (w:World) (W F:List Nat):Pms w W F (Y O 0 0) []:=⟨Sl.nil _ _,[],⟨rfl,.inl ⟨rfl,rfl⟩⟩,rfl⟩
theorem Pms.shape {w:World} {W F:List Nat} {v:Value} {l:List Pm} (h:Pms w W F v l):∃ a cap,v=Y a l.length cap∧l.length≤cap∧cap≤9223372036854775807:=by
 obtain⟨xs,h2,_⟩:=h.rd
 obtain⟨a,cap,rfl,hn,hm,_⟩:=Rd.form h2
 exact⟨a,cap,rfl,hn,by unfold maxLen at hm;omega⟩
theorem Pms.get {w:World} {W F:List Nat} {a:Option Addr} {n cap:Nat} {l:List Pm} (h:Pms w W F (Y a n cap) l) (k:Nat) (hk:k<l.length) :
  ∃ b off vl vg vo vL,a=some ⟨b,off,O⟩∧b<w.heap.size∧dX w W F l[k] vl vg vo vL∧∀ j u,(pmC l[k] vl vg vo vL)[j]? = some u→w.cell? ⟨b,off+k*15+j,O⟩=some u:=by
 obtain⟨q,r,d,f⟩:=h
 obtain⟨s,⟨vl,vg,vo,vL,rfl,g⟩,i⟩:=Rws.get ig.len f k hk
 rcases d.2 with ⟨e,t⟩|⟨b,off,c,e,_,_,m,o⟩
 ·omega
 ·simp only[Value.slice.injEq] at e;obtain⟨rfl,rfl,rfl⟩:=e
  refine⟨b,off,vl,vg,vo,vL,rfl,m,g,fun j u p=>?_⟩
  have:=o _ _ (i j u (by rw[Array.getElem?_toList];exact p))
  rwa [← Nat.add_assoc] at this
structure Rv where
 vl:Value
 vg:Value
 vo:Value
 vL:Value
 vv:Value
 va:Value
 vt:Value
def kM (R:Rp) (V:Rv):List Value:=[I J R.id,I J R.n,V.vl,I J R.status,I J R.epoch,I J R.view,I J R.normal,V.vg,V.vo,V.vL,I J (R.decided:Int)]
def gM (R:Rp) (V:Rv):List Value:=R.acks.map (Value.int .i64)++([V.vv,V.va]++(R.started.map Value.bool++[V.vt]))
theorem fF {w w':World} {base:Nat} {e:TypeId} {size:Nat} {v:Value} {n:Nat} {xs:List Value} {S:List Nat} (h:w.ownsRow base e size v n xs) (k:Kp S w w') (hS:Fr S v):w'.ownsRow base e size v n xs:=by
 refine⟨h.1,?_⟩
 rcases h.2 with d|⟨g,a,b,rfl,f,c,i⟩
 ·exact .inl d
 ·exact .inr ⟨g,a,b,rfl,f,(k.block g (lt_of_block c) (hS g rfl)).trans c,i⟩
theorem Fr.iR {w:World} {base:Nat} {e t:TypeId} {size:Nat} {v:Value} {n:Nat} {xs:List Value} {b:Nat} {c:Array Value} {z:Nat×Nat} (h:w.ownsRow base e size v n xs) (hb:w.heap[b]? = some (.cells c t z)) (hne:t≠e):Fr [b] v:=by
 intro k hk hc;simp at hc;subst hc;rcases h.2 with ⟨rfl,_⟩|⟨g,d,f,rfl,i,a,j⟩
 ·simp[Value.ownBlock] at hk
 ·simp[Value.ownBlock] at hk;subst hk;rw[hb] at a;simp at a;exact hne a.2.1
theorem Fr.sub {S S':List Nat} {v:Value} (h:Fr S v) (hs:∀ x∈S',x∈S):Fr S' v:=fun x hx hc=>h x hx (hs x hc)
structure au (w:World) (b bl:Nat) (W F:List Nat) (R:Rp) (V:Rv):Prop where
 sv:iy w b (kM R V) (gM R V) 63 R.sv
 ak:R.acks.length=7
 st:R.started.length=7
 lives:oM w V.vl bl R.lives
 log:w.ownsRow 0 66 3 V.vL R.log.length (aA R.log)
 out:mU w 0 V.vt R.out
 grp:Ints w V.vg R.grp
 old:Ints w V.vo R.old
 aI:Pms w W F V.vv R.aI
 answers:Pms w W F V.va R.answers
 sg:Sl W F V.vg
 so:Sl W F V.vo
 wb:b∈W
 wl:bl∈W
 wL:In W V.vL
 wt:In W V.vt
 wf:∀ x∈W,x∈F
 fl:∀ x∈F,x<w.heap.size
 tab:Tab w
 t0:0∉F
section
variable {w w':World} {b bl:Nat} {W F:List Nat} {R R':Rp} {V V':Rv}
theorem au.block (h:au w b bl W F R V):w.heap[b]? = some (.cells (kM R V++(svC R.sv++gM R V)).toArray 63 (0,0)):=h.sv.block
theorem au.lb (h:au w b bl W F R V):b<w.heap.size:=lt_of_block h.block
theorem au.ents (h:au w b bl W F R V):iw w V.vL R.log:=Rd.bX h.log
theorem au.wlt (h:au w b bl W F R V):∀ x∈W,x<w.heap.size:=fun x hx=>h.fl x (h.wf x hx)
theorem au.free (h:au w b bl W F R V) (j:Nat):w.frozen? ⟨b,j,O⟩=false:=h.sv.free j
theorem au.cell (h:au w b bl W F R V) (j:Nat):w.cell? ⟨b,j,O⟩=(kM R V++(svC R.sv++gM R V))[j]?:=by
 simp[World.cell?,h.block]
theorem au.pre (h:au w b bl W F R V) (j:Nat) (hj:j<11):w.cell? ⟨b,j,O⟩=(kM R V)[j]?:=by
 rw[h.cell,List.getElem?_append_left (by simpa [kM] using hj)]
theorem au.post (h:au w b bl W F R V) (j:Nat):w.cell? ⟨b,55+j,O⟩=(gM R V)[j]?:=by
 have c:=h.sv.v26;have d:=h.sv.s9;have a:(svC R.sv).length=44:=by rw[qB];omega
 rw[h.cell,List.getElem?_append_right (by simp[kM];omega),List.getElem?_append_right (by simp[kM,a];omega)]
 congr 1;simp[kM,a];omega
theorem au.c0 (h:au w b bl W F R V):w.cell? ⟨b,0,O⟩=some (I J R.id):=h.pre 0 (by omega)
theorem au.c1 (h:au w b bl W F R V):w.cell? ⟨b,1,O⟩=some (I J R.n):=h.pre 1 (by omega)
theorem au.c2 (h:au w b bl W F R V):w.cell? ⟨b,2,O⟩=some V.vl:=h.pre 2 (by omega)
theorem au.c3 (h:au w b bl W F R V):w.cell? ⟨b,3,O⟩=some (I J R.status):=h.pre 3 (by omega)
theorem au.c4 (h:au w b bl W F R V):w.cell? ⟨b,4,O⟩=some (I J R.epoch):=h.pre 4 (by omega)
theorem au.c5 (h:au w b bl W F R V):w.cell? ⟨b,5,O⟩=some (I J R.view):=h.pre 5 (by omega)
theorem au.c6 (h:au w b bl W F R V):w.cell? ⟨b,6,O⟩=some (I J R.normal):=h.pre 6 (by omega)
theorem au.c7 (h:au w b bl W F R V):w.cell? ⟨b,7,O⟩=some V.vg:=h.pre 7 (by omega)
theorem au.c8 (h:au w b bl W F R V):w.cell? ⟨b,8,O⟩=some V.vo:=h.pre 8 (by omega)
theorem au.c9 (h:au w b bl W F R V):w.cell? ⟨b,9,O⟩=some V.vL:=h.pre 9 (by omega)
theorem au.c10 (h:au w b bl W F R V):w.cell? ⟨b,10,O⟩=some (I J (R.decided:Int)):=h.pre 10 (by omega)
theorem au.sS (h:au w b bl W F R V) (j:Nat) (hj:j<7):w.cell? ⟨b,55+j,O⟩=some (I J (R.acks[j]'(by rw[h.ak];exact hj))):=by
 have:=h.ak
 rw[h.post,gM,List.getElem?_append_left (by simp;omega),List.getElem?_map,List.getElem?_eq_getElem (by omega)];rfl
theorem au.c62 (h:au w b bl W F R V):w.cell? ⟨b,62,O⟩=some V.vv:=by
 have:=h.ak
 rw[show (62:Nat)=55+7 from rfl,h.post,gM,List.getElem?_append_right (by simp;omega)];simp[this]
theorem au.c63 (h:au w b bl W F R V):w.cell? ⟨b,63,O⟩=some V.va:=by
 have:=h.ak
 rw[show (63:Nat)=55+8 from rfl,h.post,gM,List.getElem?_append_right (by simp;omega)];simp[this]
theorem au.cst (h:au w b bl W F R V) (j:Nat) (hj:j<7):w.cell? ⟨b,64+j,O⟩=some (.bool (R.started[j]'(by rw[h.st];exact hj))):=by
 have a:=h.ak;have c:=h.st;rw[show 64+j=55+(9+j) by omega,h.post,gM,List.getElem?_append_right (by simp;omega),List.getElem?_append_right (by simp;omega),List.getElem?_append_left (by simp;omega),List.getElem?_map]
 simp[a,show 9+j-7-2=j by omega,c,hj]
theorem au.c71 (h:au w b bl W F R V):w.cell? ⟨b,71,O⟩=some V.vt:=by
 have a:=h.ak;have c:=h.st;rw[show (71:Nat)=55+16 from rfl,h.post,gM,List.getElem?_append_right (by simp;omega),List.getElem?_append_right (by simp;omega),List.getElem?_append_right (by simp;omega)];simp[a,c]
theorem au.g7 (h:au w b bl W F R V):∃ a cap,V.vg=Y a R.grp.length cap:=by obtain⟨a,cap,q,_⟩:=h.grp.shape;exact⟨a,cap,q⟩
theorem au.g8 (h:au w b bl W F R V):∃ a cap,V.vo=Y a R.old.length cap:=by obtain⟨a,cap,q,_⟩:=h.old.shape;exact⟨a,cap,q⟩
theorem au.g9 (h:au w b bl W F R V):∃ a cap,V.vL=Y a R.log.length cap:=by obtain⟨a,cap,q,_⟩:=h.ents.shape;exact⟨a,cap,q⟩
theorem au.g2 (h:au w b bl W F R V):∃ cap,V.vl=Y (some ⟨bl,0,O⟩) R.lives.length cap:=h.lives.2
theorem au.g62 (h:au w b bl W F R V):∃ a cap,V.vv=Y a R.aI.length cap:=by obtain⟨a,cap,q,_⟩:=h.aI.shape;exact⟨a,cap,q⟩
theorem au.g63 (h:au w b bl W F R V):∃ a cap,V.va=Y a R.answers.length cap:=by obtain⟨a,cap,q,_⟩:=h.answers.shape;exact⟨a,cap,q⟩
theorem au.g71 (h:au w b bl W F R V):∃ a cap,V.vt=Y a R.out.length cap:=by obtain⟨a,cap,q,_⟩:=Rd.form (Rd.bX h.out);exact⟨a,cap,q⟩
theorem lU {l:List Int} {v:Value} (h:oM w v bl l):∃ c z,w.heap[bl]? = some (.cells c 3 z):=by
 obtain⟨b,d,rfl⟩:=h
 rcases b.2 with ⟨f,_⟩|⟨g,a,i,e,k,j,m⟩
 ·simp at f
 ·simp at e;obtain⟨rfl,_⟩:=e;exact⟨_,_,j⟩
theorem au.d1 (h:au w b bl W F R V):b≠bl:=by
 obtain⟨c,z,q⟩:=lU h.lives
 intro e;have:=h.block
 rw[e,q] at this;simp at this
theorem In.fr {S F:List Nat} {v:Value} (h:In F v) (hS:∀ x∈S,x∉F):Fr S v:=fun k hk hc=>hS k hc (h k hk)
theorem dX.far {S:List Nat} {P:Pm} {vl vg vo vL:Value} (h:dX w W F P vl vg vo vL) (k:Kp S w w') (hS:∀ x∈S,x∉F):dX w' W F P vl vg vo vL :=
 ⟨h.lives.kp k (h.sl.inn.fr hS),h.grp.kp k (h.sg.inn.fr hS),h.old.kp k (h.so.inn.fr hS),h.log.kp k (h.sL.inn.fr hS),h.sl,h.sg,h.so,h.sL⟩
theorem Pms.far {S:List Nat} {v:Value} {l:List Pm} (h:Pms w W F v l) (k:Kp S w w') (hS:∀ x∈S,x∉F):Pms w' W F v l:=by
 obtain⟨a,b,c,d⟩:=h
 exact⟨a,b,c.kp k (a.inn.fr hS),d.mono fun P j q=>by obtain⟨e,f,g,i,rfl,q⟩:=q;exact⟨e,f,g,i,rfl,q.far k hS⟩⟩
theorem au.far (h:au w b bl W F R V) {S:List Nat} (k:Kp S w w') (hS:∀ x∈S,x∉F) (h0:0∉S):au w' b bl W F R V :=
  ⟨h.sv.kp k (fun a=>hS b a (h.wf b h.wb)),h.ak,h.st,h.lives.kp k (fun a=>hS bl a (h.wf bl h.wl)),fF h.log k ((h.wL.sub h.wf).fr hS),fF h.out k ((h.wt.sub h.wf).fr hS),
   h.grp.kp k (h.sg.inn.fr hS),h.old.kp k (h.so.inn.fr hS),h.aI.far k hS,h.answers.far k hS,h.sg,h.so,h.wb,h.wl,h.wL,h.wt,h.wf,fun x c=>Nat.lt_of_lt_of_le (h.fl x c) k.size,h.tab.kp k h0,h.t0⟩
theorem au.below (h:au w b bl W F R V) (k:Below w.heap.size w w'):au w' b bl W F R V :=
 h.far (S:=[]) (Kp.of_below k) (by simp) (by simp)
theorem Sl.more {F':List Nat} {v:Value} (h:Sl W F v) (hf:∀ x∈F,x∈F'):Sl W F' v:=⟨h.fr,h.inn.sub hf⟩
theorem dX.more {F':List Nat} {P:Pm} {vl vg vo vL:Value} (h:dX w W F P vl vg vo vL) (hf:∀ x∈F,x∈F'):dX w W F' P vl vg vo vL :=
 ⟨h.lives,h.grp,h.old,h.log,h.sl.more hf,h.sg.more hf,h.so.more hf,h.sL.more hf⟩
theorem Pms.more {F':List Nat} {v:Value} {l:List Pm} (h:Pms w W F v l) (hf:∀ x∈F,x∈F'):Pms w W F' v l:=by
 obtain⟨a,b,c,d⟩:=h
 exact⟨a.more hf,b,c,d.mono fun P j q=>by obtain⟨e,f,g,i,rfl,q⟩:=q;exact⟨e,f,g,i,rfl,q.more hf⟩⟩
theorem au.more (h:au w b bl W F R V) {F':List Nat} (hf:∀ x∈F,x∈F') (hl:∀ x∈F',x<w.heap.size) (h0:0∉F'):au w b bl W F' R V :=
 ⟨h.sv,h.ak,h.st,h.lives,h.log,h.out,h.grp,h.old,h.aI.more hf,h.answers.more hf,h.sg.more hf,h.so.more hf,h.wb,h.wl,h.wL,h.wt,fun x a=>hf x (h.wf x a),hl,h.tab,h0⟩
theorem au.kW (_h:au w b bl W F R V) (k:Kp [b] w w'):Kp W w w':=k.wid (by intro x hx;simp at hx;subst hx;exact _h.wb)
theorem au.re (h:au w b bl W F R V) (k:Kp [b] w w') (hsv:iy w' b (kM R' V') (gM R' V') 63 R'.sv) (ak:R'.acks.length=7) (st:R'.started.length=7)
  (hl:R'.lives=R.lives) (hvl:V'.vl=V.vl) (hL:w.ownsRow 0 66 3 V'.vL R'.log.length (aA R'.log)) (hwL:In W V'.vL) (ho:mU w 0 V'.vt R'.out) (hwt:In W V'.vt)
  (hg:Ints w V'.vg R'.grp) (hsg:Sl W F V'.vg) (hold:Ints w V'.vo R'.old) (hso:Sl W F V'.vo) (hv:Pms w W F V'.vv R'.aI) (ha:Pms w W F V'.va R'.answers):au w' b bl W F R' V':=by
 have kW:=h.kW k;refine⟨hsv,ak,st,?_,fF hL k (Fr.iR hL h.block (by decide)),fF ho k (Fr.iR ho h.block (by decide)),hg.kp kW hsg.fr,hold.kp kW hso.fr,hv.kp kW,ha.kp kW,hsg,hso,h.wb,h.wl,hwL,hwt,h.wf,fun x c=>Nat.lt_of_lt_of_le (h.fl x c) k.size,h.tab.kp kW (fun a=>h.t0 (h.wf 0 a)),h.t0⟩
 rw[hl,hvl];exact h.lives.kp k (by simp;exact fun a=>h.d1 a.symm)
theorem iy.qj {pre post:List Value} {t:TypeId} {S:Sv} (h:iy w b pre post t S) (j:Nat) (v:Value) (hj:j<pre.length):iy (w.setCell ⟨b,j,O⟩ v) b (pre.set j v) post t S:=by
 refine⟨?_,h.v26,h.s9,h.small⟩
 rw[heap_setCell_same w b _ _ _ v h.block]
 congr 2
 rw[List.setIfInBounds_toArray,List.set_append,if_pos hj]
theorem iy.sI {pre post:List Value} {t:TypeId} {S:Sv} (h:iy w b pre post t S) (j:Nat) (v:Value):iy (w.setCell ⟨b,pre.length+44+j,O⟩ v) b pre (post.set j v) t S:=by
 have a:(svC S).length=44:=by rw[qB,h.v26,h.s9]
 refine⟨?_,h.v26,h.s9,h.small⟩
 rw[heap_setCell_same w b _ _ _ v h.block]
 congr 2
 rw[List.setIfInBounds_toArray,List.set_append,if_neg (by omega),List.set_append,if_neg (by omega)]
 congr 5;omega
theorem au.qI (h:au w b bl W F R V) (j:Nat) (v:Value):Kp W w (w.setCell ⟨b,j,O⟩ v):=(Kp.refl _ _).set b j v (.inl h.wb)
theorem au.k1 (_h:au w b bl W F R V) (j:Nat) (v:Value):Kp [b] w (w.setCell ⟨b,j,O⟩ v):=(Kp.refl _ _).set b j v (.inl (by simp))
theorem au.jq (h:au w b bl W F R V) (x:Int):au (w.setCell ⟨b,3,O⟩ (I J x)) b bl W F { R with status:=x } V :=
 h.re (h.k1 _ _) (h.sv.qj 3 _ (by simp[kM])) h.ak h.st rfl rfl h.log h.wL h.out h.wt h.grp h.sg h.old h.so h.aI h.answers
theorem au.AL (h:au w b bl W F R V) (x:Int):au (w.setCell ⟨b,4,O⟩ (I J x)) b bl W F { R with epoch:=x } V :=
 h.re (h.k1 _ _) (h.sv.qj 4 _ (by simp[kM])) h.ak h.st rfl rfl h.log h.wL h.out h.wt h.grp h.sg h.old h.so h.aI h.answers
theorem au.yS (h:au w b bl W F R V) (x:Int):au (w.setCell ⟨b,5,O⟩ (I J x)) b bl W F { R with view:=x } V :=
 h.re (h.k1 _ _) (h.sv.qj 5 _ (by simp[kM])) h.ak h.st rfl rfl h.log h.wL h.out h.wt h.grp h.sg h.old h.so h.aI h.answers
theorem au.xU (h:au w b bl W F R V) (x:Int):au (w.setCell ⟨b,6,O⟩ (I J x)) b bl W F { R with normal:=x } V :=
 h.re (h.k1 _ _) (h.sv.qj 6 _ (by simp[kM])) h.ak h.st rfl rfl h.log h.wL h.out h.wt h.grp h.sg h.old h.so h.aI h.answers
theorem au.MQ (h:au w b bl W F R V) (v:Value) (g:List Int) (hg:Ints w v g) (hs:Sl W F v):au (w.setCell ⟨b,7,O⟩ v) b bl W F { R with grp:=g } { V with vg:=v } :=
 h.re (h.k1 _ _) (h.sv.qj 7 _ (by simp[kM])) h.ak h.st rfl rfl h.log h.wL h.out h.wt hg hs h.old h.so h.aI h.answers
theorem au.MR (h:au w b bl W F R V) (v:Value) (g:List Int) (hg:Ints w v g) (hs:Sl W F v):au (w.setCell ⟨b,8,O⟩ v) b bl W F { R with old:=g } { V with vo:=v } :=
 h.re (h.k1 _ _) (h.sv.qj 8 _ (by simp[kM])) h.ak h.st rfl rfl h.log h.wL h.out h.wt h.grp h.sg hg hs h.aI h.answers
theorem au.uH (h:au w b bl W F R V) (x:Nat):au (w.setCell ⟨b,10,O⟩ (I J (x:Int))) b bl W F { R with decided:=x } V :=
 h.re (h.k1 _ _) (h.sv.qj 10 _ (by simp[kM])) h.ak h.st rfl rfl h.log h.wL h.out h.wt h.grp h.sg h.old h.so h.aI h.answers
theorem Ic (h:R.acks.length=7) (v:Value):(gM R V).set 7 v=gM R { V with vv:=v }:=by
 unfold gM;rw[List.set_append,if_neg (by simp[h])];simp[h]
theorem Ie (h:R.acks.length=7) (v:Value):(gM R V).set 8 v=gM R { V with va:=v }:=by
 unfold gM;rw[List.set_append,if_neg (by simp[h])];simp[h]
theorem yu (h:R.acks.length=7) (hs:R.started.length=7) (v:Value):(gM R V).set 16 v=gM R { V with vt:=v }:=by
 unfold gM;rw[List.set_append,if_neg (by simp[h]),List.set_append,if_neg (by simp[h]),List.set_append,if_neg (by simp[h,hs])];simp[h,hs]
theorem DK (h:R.acks.length=7) (j:Nat) (hj:j<7) (x:Int):(gM R V).set j (I J x)=gM { R with acks:=R.acks.set j x } V:=by
 unfold gM;rw[List.set_append,if_pos (by simp[h,hj]),List.map_set]
theorem Fu (h:R.acks.length=7) (hs:R.started.length=7) (j:Nat) (hj:j<7) (x:Bool):(gM R V).set (9+j) (.bool x)=gM { R with started:=R.started.set j x } V:=by
 unfold gM;rw[List.set_append,if_neg (by simp[h];omega),List.set_append,if_neg (by simp[h];omega),List.set_append,if_pos (by simp[h,hs];omega),List.map_set]
 simp[h,show 9+j-7-2=j by omega]
theorem au.pJ (h:au w b bl W F R V) (v:Value) (l:List Pm) (hl:Pms w W F v l):au (w.setCell ⟨b,62,O⟩ v) b bl W F { R with aI:=l } { V with vv:=v } :=
 h.re (h.k1 _ _) (by have:=h.sv.sI 7 v;rw[Ic h.ak] at this;exact this) h.ak h.st rfl rfl h.log h.wL h.out h.wt h.grp h.sg h.old h.so hl h.answers
theorem au.qy (h:au w b bl W F R V) (v:Value) (l:List Pm) (hl:Pms w W F v l):au (w.setCell ⟨b,63,O⟩ v) b bl W F { R with answers:=l } { V with va:=v } :=
 h.re (h.k1 _ _) (by have:=h.sv.sI 8 v;rw[Ie h.ak] at this;exact this) h.ak h.st rfl rfl h.log h.wL h.out h.wt h.grp h.sg h.old h.so h.aI hl
theorem au.fq (h:au w b bl W F R V) (j:Nat) (hj:j<7) (x:Int):au (w.setCell ⟨b,55+j,O⟩ (I J x)) b bl W F { R with acks:=R.acks.set j x } V :=
 h.re (h.k1 _ _) (by have:=h.sv.sI j (I J x);rw[DK h.ak j hj] at this;exact this) (by simpa using h.ak) h.st rfl rfl h.log h.wL h.out h.wt h.grp h.sg h.old h.so h.aI h.answers
theorem au.setSt (h:au w b bl W F R V) (j:Nat) (hj:j<7) (x:Bool):au (w.setCell ⟨b,64+j,O⟩ (.bool x)) b bl W F { R with started:=R.started.set j x } V :=
 h.re (h.k1 _ _) (by have:=h.sv.sI (9+j) (.bool x);rw[Fu h.ak h.st j hj,show (kM R V).length+44+(9+j)=64+j by simp[kM];omega] at this;exact this) h.ak (by simpa using h.st) rfl rfl h.log h.wL h.out h.wt h.grp h.sg h.old h.so h.aI h.answers
theorem au.Jg (h:au w b bl W F R V) (j:Nat) (x:Int):au (w.setCell ⟨bl,j,O⟩ (I J x)) b bl W F { R with lives:=R.lives.set j x } V:=by
 have k:Kp [bl] w (w.setCell ⟨bl,j,O⟩ (I J x)):=(Kp.refl _ _).set bl j _ (.inl (by simp))
 have kW:Kp W w (w.setCell ⟨bl,j,O⟩ (I J x)):=(Kp.refl _ _).set bl j _ (.inl h.wl)
 obtain⟨c,z,q⟩:=lU h.lives
 have a:=h.d1;refine⟨h.sv.kp k (by simpa using a),h.ak,h.st,h.lives.put j x,fF h.log k (Fr.iR h.log q (by decide)),fF h.out k (Fr.iR h.out q (by decide)),h.grp.kp kW h.sg.fr,h.old.kp kW h.so.fr,h.aI.kp kW,h.answers.kp kW,h.sg,h.so,h.wb,h.wl,h.wL,h.wt,h.wf,fun x d=>Nat.lt_of_lt_of_le (h.fl x d) k.size,h.tab.kp kW (fun e=>h.t0 (h.wf 0 e)),h.t0⟩
theorem lend {v:Value} {g:Nat} {W:List Nat} (h:In W v) (hat:v.ownBlock=some g∨w.heap.size≤g):g∈W∨w.heap.size≤g:=hat.imp (h g) id
theorem Kp.grown {v:Value} {W:List Nat} (hg:w.grownBy w' v.ownBlock) (h:In W v):Kp W w w' :=
 ⟨hg.os,hg.tape,hg.output,hg.size,fun k hk hn=>hg.block k hk (fun hc=>hn (h k hc.symm))⟩
theorem au.Md {w1:World} {g cap:Nat} {l:List En} (h:au w b bl W F R V) (k:Kp W w w1) (kb:w1.heap[b]? = w.heap[b]?) (kl:w1.heap[bl]? = w.heap[bl]?) (ko:mU w1 0 V.vt R.out)
  (hown:w1.ownsRow 0 66 3 (Y (some ⟨g,0,O⟩) l.length cap) l.length (aA l)) (hat:g∈W∨w.heap.size≤g) :
  au (w1.setCell ⟨b,9,O⟩ (Y (some ⟨g,0,O⟩) l.length cap)) b bl (g :: W) (g :: F) { R with log:=l } { V with vL:=Y (some ⟨g,0,O⟩) l.length cap }∧Mv w W F (g :: W) (g :: F)∧Kp W w (w1.setCell ⟨b,9,O⟩ (Y (some ⟨g,0,O⟩) l.length cap)):=by
 have m:Mv w W F (g :: W) (g :: F):=⟨fun x d=>by simp at d;rcases d with rfl|d;exact hat;exact .inl d,fun x d=>by simp[d],fun x d=>by simp at d;rcases d with rfl|d;exact hat.imp (h.wf x) id;exact .inl d⟩
 have y:g<w1.heap.size:=(hown.lt g rfl).2
 have r:g≠0:=by
  rintro rfl;rcases hat with q|q
  ·exact h.t0 (h.wf 0 q)
  ·have:=h.lb;omega
 have n:iy w1 b (kM R V) (gM R V) 63 R.sv:=⟨kb.trans h.block,h.sv.v26,h.sv.s9,h.sv.small⟩
 have j:Kp [b] w1 (w1.setCell ⟨b,9,O⟩ (Y (some ⟨g,0,O⟩) l.length cap)):=(Kp.refl _ _).set b 9 _ (.inl (by simp))
 have z:Kp (g :: W) w1 (w1.setCell ⟨b,9,O⟩ (Y (some ⟨g,0,O⟩) l.length cap)):=j.wid (by intro x d;simp at d;subst d;simp[h.wb])
 have f:Kp W w (w1.setCell ⟨b,9,O⟩ (Y (some ⟨g,0,O⟩) l.length cap)):=k.trans' (j.wid (by intro x d;simp at d;subst d;exact h.wb))
 have o:w1.heap[b]? = some (.cells (kM R V++(svC R.sv++gM R V)).toArray 63 (0,0)):=kb.trans h.block
 have s:∀ x∈g :: F,x<(w1.setCell ⟨b,9,O⟩ (Y (some ⟨g,0,O⟩) l.length cap)).heap.size:=fun x d=>by
  simp at d;have:=j.size
  rcases d with rfl|d
  ·omega
  ·have:=h.fl x d
   have:=k.size
   omega
 have t:oM w1 V.vl bl R.lives:=by
  obtain⟨v,c,i⟩:=h.lives
  refine⟨⟨v.1,?_⟩,c,i⟩
  rcases v.2 with A|⟨B,p,u,e,C,D,E⟩
  ·exact .inl A
  ·have:B=bl:=by rw[i] at e;simp at e;exact e.1.symm
   subst this;exact .inr ⟨_,p,u,e,C,kl.trans D,E⟩
 refine⟨⟨n.qj 9 _ (by simp[kM]),h.ak,h.st,t.kp j (by simp;exact fun i=>h.d1 i.symm),fF hown j (Fr.iR hown o (by decide)),fF ko j (Fr.iR ko o (by decide)),
  ?_,?_,?_,?_,?_,?_,by simp[h.wb],by simp[h.wl],?_,h.wt.sub (by simp;intro a ha;exact .inr ha),fun x d=>by simp at d ⊢;exact d.imp id (h.wf x),s,?_,by simp;exact⟨fun i=>r i.symm,h.t0⟩⟩,m,f⟩
 ·exact h.grp.kp f h.sg.fr
 ·exact h.old.kp f h.so.fr
 ·exact h.aI.mv f m
 ·exact h.answers.mv f m
 ·exact h.sg.mv h.grp m
 ·exact h.so.mv h.old m
 ·intro x d;simp[Value.ownBlock] at d;simp[d]
 ·exact h.tab.kp f (fun i=>h.t0 (h.wf 0 i))
theorem au.Qm {w1:World} {g cap:Nat} {l:List (Int×ByteArray)} (h:au w b bl W F R V) (k:Kp W w w1) (kb:w1.heap[b]? = w.heap[b]?) (kl:w1.heap[bl]? = w.heap[bl]?) (ko:w1.ownsRow 0 66 3 V.vL R.log.length (aA R.log))
  (hown:mU w1 0 (Y (some ⟨g,0,O⟩) l.length cap) l) (hat:g∈W∨w.heap.size≤g) :
  au (w1.setCell ⟨b,71,O⟩ (Y (some ⟨g,0,O⟩) l.length cap)) b bl (g :: W) (g :: F) { R with out:=l } { V with vt:=Y (some ⟨g,0,O⟩) l.length cap }∧Mv w W F (g :: W) (g :: F)∧Kp W w (w1.setCell ⟨b,71,O⟩ (Y (some ⟨g,0,O⟩) l.length cap)):=by
 have m:Mv w W F (g :: W) (g :: F):=⟨fun x d=>by simp at d;rcases d with rfl|d;exact hat;exact .inl d,fun x d=>by simp[d],fun x d=>by simp at d;rcases d with rfl|d;exact hat.imp (h.wf x) id;exact .inl d⟩
 have y:g<w1.heap.size:=(hown.lt g rfl).2
 have r:g≠0:=by
  rintro rfl;rcases hat with q|q
  ·exact h.t0 (h.wf 0 q)
  ·have:=h.lb;omega
 have n:iy w1 b (kM R V) (gM R V) 63 R.sv:=⟨kb.trans h.block,h.sv.v26,h.sv.s9,h.sv.small⟩
 have j:Kp [b] w1 (w1.setCell ⟨b,71,O⟩ (Y (some ⟨g,0,O⟩) l.length cap)):=(Kp.refl _ _).set b 71 _ (.inl (by simp))
 have z:Kp (g :: W) w1 (w1.setCell ⟨b,71,O⟩ (Y (some ⟨g,0,O⟩) l.length cap)):=j.wid (by intro x d;simp at d;subst d;simp[h.wb])
 have f:Kp W w (w1.setCell ⟨b,71,O⟩ (Y (some ⟨g,0,O⟩) l.length cap)):=k.trans' (j.wid (by intro x d;simp at d;subst d;exact h.wb))
 have o:w1.heap[b]? = some (.cells (kM R V++(svC R.sv++gM R V)).toArray 63 (0,0)):=kb.trans h.block
 have s:∀ x∈g :: F,x<(w1.setCell ⟨b,71,O⟩ (Y (some ⟨g,0,O⟩) l.length cap)).heap.size:=fun x d=>by
  simp at d;have:=j.size
  rcases d with rfl|d
  ·omega
  ·have:=h.fl x d
   have:=k.size
   omega
 have t:oM w1 V.vl bl R.lives:=by
  obtain⟨v,c,i⟩:=h.lives
  refine⟨⟨v.1,?_⟩,c,i⟩
  rcases v.2 with A|⟨B,p,u,e,C,D,E⟩
  ·exact .inl A
  ·have:B=bl:=by rw[i] at e;simp at e;exact e.1.symm
   subst this;exact .inr ⟨_,p,u,e,C,kl.trans D,E⟩
 refine⟨⟨by have q:=n.sI 16 (Y (some ⟨g,0,O⟩) l.length cap);rw[yu h.ak h.st] at q;exact q,h.ak,h.st,t.kp j (by simp;exact fun i=>h.d1 i.symm),fF ko j (Fr.iR ko o (by decide)),fF hown j (Fr.iR hown o (by decide)),
  ?_,?_,?_,?_,?_,?_,by simp[h.wb],by simp[h.wl],h.wL.sub (by simp;intro a ha;exact .inr ha),?_,fun x d=>by simp at d ⊢;exact d.imp id (h.wf x),s,?_,by simp;exact⟨fun i=>r i.symm,h.t0⟩⟩,m,f⟩
 ·exact h.grp.kp f h.sg.fr
 ·exact h.old.kp f h.so.fr
 ·exact h.aI.mv f m
 ·exact h.answers.mv f m
 ·exact h.sg.mv h.grp m
 ·exact h.so.mv h.old m
 ·intro x d;simp[Value.ownBlock] at d;simp[d]
 ·exact h.tab.kp f (fun i=>h.t0 (h.wf 0 i))
theorem au.AJ (h:au w b bl W F R V):au (jD w b 55 [I J 0,I J 0,I J 0,I J 0,I J 0,I J 0,I J 0]) b bl W F { R with acks:=jW } V:=by
 have q:=((((((h.fq 0 (by omega) 0).fq 1 (by omega) 0).fq 2 (by omega) 0).fq 3 (by omega) 0).fq 4 (by omega) 0).fq 5 (by omega) 0).fq 6 (by omega) 0
 have e:((((((R.acks.set 0 0).set 1 0).set 2 0).set 3 0).set 4 0).set 5 0).set 6 0=jW:=by
  have:=h.ak
  match hR:R.acks,this with
  | [_,_,_,_,_,_,_],_=>rfl
 simp only[e] at q;exact q
theorem au.Qx (h:au w b bl W F R V):au (jD w b 64 [.bool false,.bool false,.bool false,.bool false,.bool false,.bool false,.bool false]) b bl W F { R with started:=st0 } V:=by
 have q:=((((((h.setSt 0 (by omega) false).setSt 1 (by omega) false).setSt 2 (by omega) false).setSt 3 (by omega) false).setSt 4 (by omega) false).setSt 5 (by omega) false).setSt 6 (by omega) false
 have e:((((((R.started.set 0 false).set 1 false).set 2 false).set 3 false).set 4 false).set 5 false).set 6 false=st0:=by
  have:=h.st
  match hR:R.started,this with
  | [_,_,_,_,_,_,_],_=>rfl
 simp only[e] at q;exact q
theorem ze {t:TypeId}:∀ (vs A B C:List Value) (w:World),w.heap[b]? = some (.cells (A++(B++C)).toArray t (0,0))→B.length=vs.length→(jD w b A.length vs).heap[b]? = some (.cells (A++(vs++C)).toArray t (0,0))
 | [],A,B,C,w,h,hl=>by
  obtain rfl:B=[]:=List.length_eq_zero_iff.1 (by simpa using hl)
  exact h
 | v :: vs,A,x :: B,C,w,h,hl=>by
  have a:=heap_setCell_same w b A.length _ _ v h;rw[List.setIfInBounds_toArray,List.set_append,if_neg (by omega),Nat.sub_self] at a
  have c:=ze (t:=t) vs (A++[v]) B C (w.setCell ⟨b,A.length,O⟩ v) (by rw[a];simp) (by simpa using hl)
  rw[show (A++[v]).length=A.length+1 by simp] at c
  show (jD (w.setCell ⟨b,A.length,O⟩ v) b (A.length+1) vs).heap[b]? = _
  rw[c];simp
theorem pF:∀ (l:List Value) (j:Nat) (w a:World),Kp [b] a w→Kp [b] a (jD w b j l)
 | [],_,_,_,h=>h
 | v :: l,j,w,a,h=>pF l (j+1) (w.setCell ⟨b,j,O⟩ v) a (h.set b j v (.inl (by simp)))
theorem OV:(svC sv0).length=44:=rfl
theorem au.Qy (h:au w b bl W F R V):au (jD w b 11 (svC sv0)) b bl W F { R with sv:=sv0 } V:=by
 have a:(svC R.sv).length=44:=by rw[qB,h.sv.v26,h.sv.s9]
 have q:=ze (svC sv0) (kM R V) (svC R.sv) (gM R V) w h.block (by rw[a,OV])
 refine h.re (pF _ _ _ _ (Kp.refl _ _)) ⟨q,rfl,rfl,?_⟩ h.ak h.st rfl rfl h.log h.wL h.out h.wt h.grp h.sg h.old h.so h.aI h.answers;intro x hx;have:=List.eq_of_mem_replicate hx
 omega
theorem au.MV {S:Sv} (h:au w b bl W F R V) (hs:iy w' b (kM R V) (gM R V) 63 S) (k:Kp [b] w w'):au w' b bl W F { R with sv:=S } V :=
 h.re k hs h.ak h.st rfl rfl h.log h.wL h.out h.wt h.grp h.sg h.old h.so h.aI h.answers
def Rst (w w':World) (b bl:Nat) (W F:List Nat) (R':Rp):Prop:=∃ W' F' V',au w' b bl W' F' R' V'∧Kp W w w'∧Mv w W F W' F'
theorem Rst.of (h:au w' b bl W F R' V') (k:Kp W w w'):Rst w w' b bl W F R':=⟨W,F,V',h,k,Mv.refl _ _ _⟩
theorem Rst.refl (h:au w b bl W F R V):Rst w w b bl W F R:=Rst.of h (Kp.refl _ _)
theorem Kp.mv {W W' F F':List Nat} {w w1 w2:World} (k:Kp W w w1) (m:Mv w W F W' F') (k2:Kp W' w1 w2):Kp W w w2 :=
 k.trans k2 fun x hx hlt=>by
  rcases m.m x hx with q|q
  ·exact q
  ·omega
theorem Rst.step {w1:World} {W1 F1:List Nat} (k:Kp W w w1) (m:Mv w W F W1 F1) (h:Rst w1 w' b bl W1 F1 R'):Rst w w' b bl W F R':=by
 obtain⟨W2,F2,V2,h1,k2,m2⟩:=h
 exact⟨W2,F2,V2,h1,k.mv m k2,m.trans m2 k.size⟩
theorem Rst.pre {w1:World} (k:Kp W w w1) (h:Rst w1 w' b bl W F R'):Rst w w' b bl W F R':=Rst.step k (Mv.refl _ _ _) h
theorem Rst.below {w1:World} (h:Rst w w1 b bl W F R') (k:Below w1.heap.size w1 w'):Rst w w' b bl W F R':=by
 obtain⟨W2,F2,V2,h1,k2,m2⟩:=h
 exact⟨W2,F2,V2,h1.below k,k2.aS k,m2⟩
end
def iZ (n:Int) (e:En):Prop:=1≤e.1∧e.1≤9∧1≤e.2.1∧e.2.1≤999∧jX e.2.2.data.toList n=true∧e.2.2.size≤10
def fG (n:Int) (g:List Int):Prop:=g.length≤5∧∀ x∈g,0≤x∧x<n
structure dF (n:Int) (P:Pm):Prop where
 k0:0≤P.kind
 k1:P.kind<128
 f0:0≤P.frm
 f1:P.frm<n
 ll:(P.lives.length:Int)=n
 lb:∀ x∈P.lives,0≤x∧x≤999
 e0:0≤P.epoch
 e1:P.epoch≤10
 v0:0≤P.view
 v1:P.view≤999
 pl:P.kind=112∨P.kind=107→0≤P.place∧P.place≤10
 en:P.kind=112→iZ n P.ent
 co:P.kind=112∨P.kind=99→0≤P.commit∧P.commit≤10
 no:P.kind=118→0≤P.normal∧P.normal≤999
 li:P.kind=97→0≤P.life∧P.life≤999
 hc:P.kind=118∨P.kind=115∨P.kind=97→0≤P.commit∧P.commit≤P.log.length
 lg:P.kind=118∨P.kind=115∨P.kind=97→P.log.length≤10∧∀ e∈P.log,iZ n e
 g:P.kind=115∨P.kind=97→fG n P.grp∧fG n P.old
structure OkF (id n:Int) (lives:List Int) (status epoch view normal:Int) (grp old:List Int) (log:List En) (decided:Nat) (aI answers:List Pm):Prop where
 n3:3≤n
 n7:n≤7
 i0:0≤id
 i1:id<n
 ll:(lives.length:Int)=n
 lb:∀ x∈lives,0≤x∧x≤999
 st:1≤status∧status≤5
 ep:0≤epoch∧epoch≤10
 vi:0≤view∧view≤999
 no:0≤normal∧normal≤999
 g:fG n grp
 o:fG n old
 lg:log.length≤10
 le:∀ e∈log,iZ n e
 dc:decided≤log.length
 vo:∀ m∈aI,m.kind=118∧dF n m
 vn:(aI.map (·.frm)).Nodup
 an:∀ m∈answers,m.kind=97∧dF n m
 nn:(answers.map (·.frm)).Nodup
abbrev Ok (R:Rp):Prop:=OkF R.id R.n R.lives R.status R.epoch R.view R.normal R.grp R.old R.log R.decided R.aI R.answers
theorem iZ.w {n:Int} {e:En} (h:iZ n e):uJ e:=by
 obtain⟨h1,h2,h3,h4,_,h6⟩:=h
 exact⟨by omega,by omega,by omega,by omega,by omega⟩
theorem iZ.small {n:Int} {e:En} (h:iZ n e):∀ k,2≤k→bN e.2.2 k<128:=fun k hk=>Mw h.2.2.2.2.1 k hk
theorem tZ:uJ (0,0,⟨#[]⟩):=⟨by decide,by decide,by decide,by decide,by decide⟩
theorem fG.nil (n:Int):fG n []:=⟨by simp,by simp⟩
theorem P9 {l:List UInt8} {n:Int} {k:Nat} (h:gAt l n k=true) (hk:k<l.length):0≤aH [l[k]]∧aH [l[k]]<n:=by
 have e:l.getD k 0=l[k]:=by simp[List.getD,hk]
 unfold gAt at h;rw[e,Bool.and_eq_true,Bool.and_eq_true] at h;exact⟨by simpa using h.1.1,by simpa using h.1.2⟩
theorem rZ (s:ByteArray) (n:Int):fG n (gJ s n):=by
 unfold gJ
 split
 ·rename_i h;unfold bK at h;rw[Bool.and_eq_true,Bool.or_eq_true] at h;refine⟨by rw[kF,← nP];rcases h.2 with q|q <;> (have:=eq_of_beq q;omega),fun x a=>?_⟩
  unfold dN at a;obtain⟨c,d,rfl⟩:=List.mem_map.1 a
  obtain⟨k,b,rfl⟩:=List.getElem_of_mem d
  have:=h.1
  unfold gTo at this;rw[List.all_eq_true] at this;exact P9 (this k (by simpa using b)) b
 ·exact fG.nil n
theorem vQ (l:List En):regs l≤l.length:=List.countP_le_length
theorem Pt {α:Type} {l:List α} {k:Nat} {d:α} (h:k<l.length):l.getD k d∈l:=by
 rw[List.getD_eq_getElem?_getD,List.getElem?_eq_getElem h];exact List.getElem_mem _
theorem CO (l:List En) (e:Int):(dP l e).length≤l.length:=by unfold dP;simp;omega
theorem KE {l:List En} {e:Int} {x:En} (h:x∈dP l e):x∈l:=List.mem_of_mem_take h
theorem qV (l:List Int) (x:Int):cK (l++[x])=if cK l<x then x else cK l:=by unfold cK;simp
theorem JG (b:Int) (hb:0≤b):∀ (l:List Int),(∀ x∈l,x≤b)→0≤cK l∧cK l≤b:=by
 intro l;unfold cK
 suffices h:∀ (l:List Int) (g:Int),0≤g→g≤b→(∀ x∈l,x≤b)→0≤l.foldl (fun g x=>if g<x then x else g) g∧l.foldl (fun g x=>if g<x then x else g) g≤b from h l 0 (by omega) hb
 intro l
 induction l with
 | nil=>intro g h1 h2 _;exact⟨h1,h2⟩
 | cons x l ih =>
  intro g h1 h2 h3;simp only[List.foldl_cons];have:=h3 x (by simp)
  apply ih
  ·split <;> omega
  ·split <;> omega
  ·exact fun y a=>h3 y (by simp[a])
theorem BM:∀ (l:List Pm),l≠[]→∃ m∈l,ji l=some m:=by
 intro l
 suffices h:∀ (l:List Pm) (b:Option Pm),(∃ m,b=some m)∨l≠[]→∃ m,l.foldl qK b=some m∧(m∈l∨b=some m) by
  intro hl;obtain⟨m,g,c⟩:=h l O (.inr hl)
  rcases c with c|c
  ·exact⟨m,c,g⟩
  ·cases c
 intro l
 induction l with
 | nil =>
  intro b h;rcases h with ⟨m,rfl⟩|h
  ·exact⟨m,rfl,.inr rfl⟩
  ·exact absurd rfl h
 | cons x l ih =>
  intro b _;simp only[List.foldl_cons];have i:∃ m,qK b x=some m∧(m=x∨b=some m):=by
   unfold qK;cases b with
   | none=>exact⟨x,rfl,.inl rfl⟩
   | some b =>
    dsimp only
    split
    ·exact⟨x,rfl,.inl rfl⟩
    ·exact⟨b,rfl,.inr rfl⟩
  obtain⟨m,e,d⟩:=i
  obtain⟨f,j,a⟩:=ih (qK b x) (.inl ⟨m,e⟩)
  refine⟨f,j,?_⟩
  rcases a with a|a
  ·exact .inl (List.mem_cons_of_mem _ a)
  ·rw[e] at a;obtain rfl:m=f:=by simpa using a
   rcases d with rfl|d
   ·exact .inl (List.mem_cons_self ..)
   ·exact .inr d
theorem iH {l:List Pm} {m x:Pm} (h:x∈aK l m):x=m∨x∈l:=by
 unfold aK at h
 split at h
 ·obtain⟨y,a,rfl⟩:=List.mem_map.1 h
  split
  ·exact .inl rfl
  ·exact .inr a
 ·simp at h;exact h.symm
theorem tF {l:List Pm} (m:Pm) (h:(l.map (·.frm)).Nodup):((aK l m).map (·.frm)).Nodup:=by
 unfold aK
 split
 ·have:(l.map (fun x=>if x.frm==m.frm then m else x)).map (·.frm)=l.map (·.frm):=by
   rw[List.map_map];apply List.map_congr_left
   intro x _;simp only[Function.comp]
   split
   ·rename_i q;simp at q;exact q.symm
   ·rfl
  rw[this];exact h
 ·rename_i q;simp at q;rw[List.map_append,List.nodup_append];refine⟨h,by simp,?_⟩
  intro a ha b hb;simp at hb;subst hb;obtain⟨x,c,rfl⟩:=List.mem_map.1 ha
  exact q x c
theorem nE {l:List Pm} {n:Int} (hn:n≤7) (h:(l.map (·.frm)).Nodup) (hb:∀ m∈l,0≤m.frm∧m.frm<n):l.length≤7:=by
 have:=yj 7 (l.map (·.frm)) h (fun x a=>by
  obtain⟨y,b,rfl⟩:=List.mem_map.1 a
  have:=hb y b
  exact⟨this.1,by have:=this.2;show y.frm<7;omega⟩)
 simpa using this
theorem nG {l:List Pm} {lv:List Int} {x:Pm} (h:x∈gT l lv):x∈l:=(List.mem_filter.1 h).1
theorem qc {l:List Pm} {lv:List Int} (h:(l.map (·.frm)).Nodup):((gT l lv).map (·.frm)).Nodup :=
 List.Nodup.sublist (List.Sublist.map _ List.filter_sublist) h
structure Gd (r r':Rp) (c:Nat):Prop where
 ok:Ok r'
 n:r'.n=r.n
 id:r'.id=r.id
 out:r'.out.length≤r.out.length+c
theorem Gd.refl {r:Rp} (h:Ok r):Gd r r 0:=⟨h,rfl,rfl,Nat.le_refl _⟩
theorem Gd.refl' {r:Rp} (h:Ok r) (c:Nat):Gd r r c:=⟨h,rfl,rfl,by omega⟩
theorem Gd.trans {r r1 r2:Rp} {c d:Nat} (h:Gd r r1 c) (k:Gd r1 r2 d):Gd r r2 (c+d):=⟨k.ok,k.n.trans h.n,k.id.trans h.id,by have:=h.out;have:=k.out;omega⟩
theorem Gd.le {r r1:Rp} {c d:Nat} (h:Gd r r1 c) (k:c≤d):Gd r r1 d:=⟨h.ok,h.n,h.id,by have:=h.out;omega⟩
def oD (n:Int) (l:List En):Prop:=l.length≤10∧∀ e∈l,iZ n e
theorem Ok.log {r:Rp} (h:Ok r):oD r.n r.log:=⟨h.lg,h.le⟩
theorem oD.upto {n:Int} {l:List En} (h:oD n l) (e:Int):oD n (dP l e):=⟨Nat.le_trans (CO l e) h.1,fun x hx=>h.2 x (KE hx)⟩
namespace Rp
variable {r:Rp}
theorem LG (h:Ok r) (qt:Int) (t:ByteArray):Gd r (r.put qt t) 1:=⟨h,rfl,rfl,by simp[put]⟩
theorem rY (h:Ok r) (qt:Int) (P:Pm):Gd r (r.send qt P) 1:=LG h _ _
theorem zF (h:Ok r) (c m:Int) (t:ByteArray):Gd r (r.reply c m t) 1:=LG h _ _
theorem qR (h:Ok r) (g:List Int) (hg:g.length≤5) (P:Pm):Gd r (r.eZ g P) 5:=⟨h,rfl,rfl,by
 have:=List.length_filter_le (fun x=>x != r.id) g
 simp[eZ];omega⟩
theorem mE (h:Ok r) (qt k:Int):Gd r (r.bare qt k) 1:=rY h _ _
theorem l9 (h:Ok r) (qt:Int):Gd r (r.ack qt) 1:=rY h _ _
theorem uX (h:Ok r) (qt:Int):Gd r (r.tell qt) 1:=rY h _ _
theorem Gm (h:Ok r) (qt:Int):Gd r (r.jL qt) 1:=rY h _ _
theorem gU (h:Ok r):Gd r r.bF 5:=qR h _ h.g.1 _
theorem mG (h:Ok r):Gd r r.dz 5:=qR h _ h.o.1 _
theorem yO (h:Ok r):Gd r r.call 5:=qR h _ h.g.1 _
theorem mF (h:Ok r) (p:Int):Gd r (r.aQ p) 5:=by
 unfold aQ
 split
 ·exact Gd.refl' h 5
 ·exact qR h _ h.g.1 _
theorem jO (h:Ok r) {v:Int} (hv:0≤v∧v≤999):Gd r (r.begin_ v) 0 :=
 ⟨⟨h.n3,h.n7,h.i0,h.i1,h.ll,h.lb,by simp[begin_],h.ep,hv,hv,h.g,h.o,h.lg,h.le,h.dc,by simp[begin_],by simp[begin_],h.an,h.nn⟩,rfl,rfl,Nat.le_refl _⟩
theorem eu (h:Ok r) {l:List En} (hl:oD r.n l):Gd r (r.over l) 0 :=
 ⟨⟨h.n3,h.n7,h.i0,h.i1,h.ll,h.lb,h.st,h.ep,h.vi,h.no,h.g,h.o,hl.1,hl.2,by simp[over];omega,h.vo,h.vn,h.an,h.nn⟩,rfl,rfl,Nat.le_refl _⟩
theorem fM (h:Ok r) {s:Int} (hs:1≤s∧s≤5):Gd r { r with status:=s } 0 :=
 ⟨⟨h.n3,h.n7,h.i0,h.i1,h.ll,h.lb,hs,h.ep,h.vi,h.no,h.g,h.o,h.lg,h.le,h.dc,h.vo,h.vn,h.an,h.nn⟩,rfl,rfl,Nat.le_refl _⟩
theorem vK (h:Ok r) (he:r.epoch+1≤10) {g:List Int} (hg:fG r.n g):Ok { ({ r with old:=r.grp,grp:=g,epoch:=r.epoch+1 }:Rp).begin_ 0 with started:=st0 } :=
 ⟨h.n3,h.n7,h.i0,h.i1,h.ll,h.lb,by simp[begin_],⟨by have:=h.ep.1;simp[begin_];omega,by simp[begin_];omega⟩,by simp[begin_],by simp[begin_],hg,h.g,h.lg,h.le,h.dc,by simp[begin_],by simp[begin_],h.an,h.nn⟩
theorem NZ (h:Ok r) (he:r.epoch+1≤10) {g:List Int} (hg:fG r.n g):Gd r (r.turn g) 10:=by
 have a:=vK h he hg;unfold turn;dsimp only
 split
 ·have k1:=gU a;have b:=mG k1.ok;exact⟨b.ok,rfl,rfl,by have:=k1.out;have:=b.out;simp only[begin_] at *;omega⟩
 ·have c:=fM a (s:=5) (by decide)
  have k1:=gU c.ok;exact⟨k1.ok,rfl,rfl,by have:=k1.out;have:=c.out;simp only[begin_] at *;omega⟩
theorem xg (h:Ok r) (hd:r.decided<r.log.length) (e:En):Gd r (r.l6 e) 0 :=
 ⟨⟨h.n3,h.n7,h.i0,h.i1,h.ll,h.lb,h.st,h.ep,h.vi,h.no,h.g,h.o,h.lg,h.le,hd,h.vo,h.vn,h.an,h.nn⟩,rfl,rfl,Nat.le_refl _⟩
theorem lD (h:Ok r) (hd:r.decided<r.log.length) (e:En):Gd r (r.carried e) 1:=by
 have k:=xg h hd e;unfold carried
 split
 ·exact (k.trans (zF k.ok _ _ _)).le (by omega)
 ·exact k.le (by omega)
theorem lQ (e:En):(r.carried e).log=r.log:=by unfold carried;split <;> rfl
theorem iF (e:En):(r.carried e).decided=r.decided+1:=by unfold carried;split <;> rfl
theorem iL (e:En):(r.carried e).epoch=r.epoch:=by unfold carried;split <;> rfl
theorem wK (h:Ok r) {e:En} (ht:r.turns e=true):r.epoch+1≤10:=by
 unfold turns at ht;simp at ht;have a:=vQ (r.log.take r.decided);have b:=h.lg;have c:(r.log.take r.decided).length≤r.log.length:=by simp;omega
 omega
theorem ug:∀ (f:Nat) (r:Rp) (p:Int),Ok r→Gd r (dZ f r p) (f+10)
 | 0,r,_,h=>Gd.refl' h _
 | f+1,r,p,h=>by
  unfold dZ
  split
  ·rename_i q;dsimp only;have k:=lD h q.2 (r.log.getD r.decided (0,0,⟨#[]⟩))
   split
   ·rename_i ht;exact (k.trans (NZ k.ok (wK k.ok ht) (by rw[k.n];exact rZ _ _))).le (by omega)
   ·exact (k.trans (ug f _ p k.ok)).le (by omega)
  ·exact Gd.refl' h _
theorem iU (h:Ok r) (p:Int):Gd r (r.aV p) 20:=(ug _ _ p h).le (by have:=h.lg;omega)
theorem rC (h:Ok r):dF r.n r.dw :=
  ⟨by simp [dw, head], by simp [dw, head], h.i0, h.i1, h.ll, h.lb, h.ep.1, h.ep.2, h.vi.1, h.vi.2, by simp [dw, head], by simp [dw, head], by simp [dw, head], fun _ => h.no, by simp [dw, head],
   fun _ => ⟨by simp [dw], by have := h.dc; simp [dw]; omega⟩, fun _ => ⟨h.lg, h.le⟩, by simp [dw, head]⟩
theorem EU (h:Ok r) {l:List Pm} (h1:∀ m∈l,m.kind=118∧dF r.n m) (h2:(l.map (·.frm)).Nodup):Ok { r with aI:=l } :=
 ⟨h.n3,h.n7,h.i0,h.i1,h.ll,h.lb,h.st,h.ep,h.vi,h.no,h.g,h.o,h.lg,h.le,h.dc,h1,h2,h.an,h.nn⟩
theorem lG (h:Ok r) {l:List Pm} (h1:∀ m∈l,m.kind=97∧dF r.n m) (h2:(l.map (·.frm)).Nodup):Ok { r with answers:=l } :=
 ⟨h.n3,h.n7,h.i0,h.i1,h.ll,h.lb,h.st,h.ep,h.vi,h.no,h.g,h.o,h.lg,h.le,h.dc,h.vo,h.vn,h1,h2⟩
theorem lV (h:Ok r) {m:Pm} (hk:m.kind=118) (hm:dF r.n m):Ok { r with aI:=aK r.aI m } :=
 EU h (fun x hx=>by rcases iH hx with rfl|hx;exact⟨hk,hm⟩;exact h.vo x hx) (tF m h.vn)
theorem rz (h:Ok r) {m:Pm} (hk:m.kind=97) (hm:dF r.n m):Ok { r with answers:=aK r.answers m } :=
 lG h (fun x hx=>by rcases iH hx with rfl|hx;exact⟨hk,hm⟩;exact h.an x hx) (tF m h.nn)
theorem IC (h:Ok r):Gd r r.kN 1:=by
 unfold kN
 split
 ·exact⟨lV h rfl (rC h),rfl,rfl,by simp⟩
 ·exact rY h _ _
theorem uY (h:Ok r):Gd r r.dJ 1:=by
 unfold dJ
 split
 ·exact Gd.refl' h 1
 ·exact IC h
theorem vM (h:Ok r) {v:Int} (hv:0≤v∧v≤999):Ok (r.jH v) :=
 ⟨h.n3,h.n7,h.i0,h.i1,h.ll,h.lb,by simp[jH],h.ep,hv,by have:=h.no;have:=h.vi;simp only[jH];split <;> assumption,h.g,h.o,h.lg,h.le,h.dc,by simp[jH],by simp[jH],h.an,h.nn⟩
theorem uZ (h:Ok r) {v:Int} (hv:0≤v∧v≤999):Gd r (r.want v) 6:=by
 have a:Gd r (r.jH v) 0:=⟨vM h hv,rfl,rfl,Nat.le_refl _⟩
 have k1:=yO a.ok;exact ((a.trans k1).trans (IC k1.ok)).le (by omega)
theorem Gg (h:Ok r) {best:Pm} (hb:oD r.n best.log) (c:Int):Gd r (r.counted best c) 25:=by
 have k1:=eu h hb;have a:=jO k1.ok (v:=r.view) h.vi;have b:=gU a.ok;exact (((k1.trans a).trans b).trans (iU b.ok c)).le (by omega)
theorem za (h:Ok r):oD r.n ((ji r.aI).getD pm0).log:=by
 by_cases a:r.aI=[]
 ·rw[a];exact⟨by simp[ji,pm0],by simp[ji,pm0]⟩
 ·obtain⟨m,b,e⟩:=BM r.aI a
  rw[e];exact (h.vo m b).2.lg (.inl (h.vo m b).1)
theorem Eo (h:Ok r) {m:Pm} (hk:m.kind=118) (hm:dF r.n m):Gd r (r.count m) 25:=by
 have a:=lV h hk hm;unfold count;dsimp only
 split
 ·exact⟨a,rfl,rfl,by simp⟩
 ·have k:=Gg a (za a) (cK ((aK r.aI m).map (·.commit)))
  exact⟨k.ok,k.n,k.id,k.out⟩
theorem xq (h:Ok r) {m:Pm} (hm:dF r.n m):Gd r (r.bR m) 31:=by
 have k:=uZ h ⟨hm.v0,hm.v1⟩;unfold bR
 split
 ·split
  ·rename_i q;simp at q;exact (k.trans (Eo k.ok q.1 (by rw[k.n];exact hm))).le (by omega)
  ·exact k.le (by omega)
 ·exact Gd.refl' h _
theorem yD (h:Ok r) {m:Pm} (hm:dF r.n m):Gd r (r.aT m) 25:=by
 unfold aT
 split
 ·split
  ·exact (mE h _ _).le (by omega)
  ·split
   ·exact (uY h).le (by omega)
   ·split
    ·rename_i q;exact Eo h q.1 hm
    ·exact Gd.refl' h _
 ·exact Gd.refl' h _
theorem mW (h:Ok r) (c:Int):Gd r (r.bY c) 21:=by
 unfold bY
 split
 ·exact (iU h c).le (by omega)
 ·have k:=l9 h r.gZ;exact (k.trans (iU k.ok c)).le (by omega)
theorem iW (h:Ok r) {m:Pm} (hk:m.kind=115∨m.kind=97) (hm:dF r.n m):Ok (r.enter m) :=
 ⟨h.n3,h.n7,h.i0,h.i1,h.ll,h.lb,by simp[enter,begin_],⟨hm.e0,hm.e1⟩,⟨hm.v0,hm.v1⟩,⟨hm.v0,hm.v1⟩,(hm.g hk).1,(hm.g hk).2,h.lg,h.le,h.dc,by simp[enter,begin_],by simp[enter,begin_],h.an,h.nn⟩
theorem qU (h:Ok r) (m:Pm):Gd r (r.bP m) 1:=by
 unfold bP
 split
 ·exact uX h _
 ·split
  ·exact Gm h _
  ·split
   ·exact mE h _ _
   ·exact Gd.refl' h _
theorem jN {n:Int} {m:Pm} (hm:dF n m) (hk:m.kind=118∨m.kind=115∨m.kind=97):oD n m.log:=hm.lg hk
theorem sU (h:Ok r) {m:Pm} (hk:m.kind=115) (hm:dF r.n m):Gd r (r.aF m) 21:=by
 have b:=jN hm (.inr (.inl hk));unfold aF
 split
 ·have k1:=jO h ⟨hm.v0,hm.v1⟩;have a:=eu k1.ok (l:=m.log) b;exact ((k1.trans a).trans (mW a.ok _)).le (by omega)
 ·split
  ·split
   ·exact (uX h _).le (by omega)
   ·exact Gd.refl' h _
  ·split
   ·have a:=eu h (l:=m.log) b;exact (a.trans (mW a.ok _)).le (by omega)
   ·split
    ·exact Gd.refl' h _
    ·exact (mE h _ _).le (by omega)
theorem Ep (h:Ok r) {m:Pm} (hl:oD r.n m.log):Gd r (r.leave m) 25:=by
 have a:Gd r r.leave0 0:=⟨⟨h.n3,h.n7,h.i0,h.i1,h.ll,h.lb,by simp[leave0],h.ep,by simp[leave0],by simp[leave0],h.g,h.o,h.lg,h.le,h.dc,h.vo,h.vn,h.an,h.nn⟩,rfl,rfl,Nat.le_refl _⟩
 have k1:=eu a.ok (l:=dP m.log r.epoch) (hl.upto _);have b:=iU k1.ok m.commit;exact (((a.trans k1).trans b).trans (gU b.ok)).le (by omega)
theorem uW (h:Ok r) {m:Pm} (hk:m.kind=115) (hm:dF r.n m):Gd r (r.bI m) 26:=by
 have b:=jN hm (.inr (.inl hk));have a:Gd r (r.enter m) 0:=⟨iW h (.inl hk) hm,rfl,rfl,Nat.le_refl _⟩
 unfold bI
 split
 ·have k1:=eu a.ok (l:=m.log) b;have c:=mG k1.ok;exact (((a.trans k1).trans c).trans (mW c.ok _)).le (by omega)
 ·split
  ·exact (a.trans (Ep a.ok b)).le (by omega)
  ·exact (a.trans (fM a.ok (s:=4) (by decide))).le (by omega)
theorem Df (h:Ok r) {m:Pm} (hk:m.kind=115) (hm:dF r.n m):Gd r (r.dQ m) 26:=by
 unfold dQ
 split
 ·exact uW h hk hm
 ·split
  ·split
   ·exact (qU h m).le (by omega)
   ·exact (sU h hk hm).le (by omega)
  ·exact Gd.refl' h _
theorem Db (h:Ok r) (m:Pm):Gd r (r.dV m) 0:=by
 unfold dV
 split
 ·dsimp only
  split
  ·have k:=fM h (s:=4) (by decide)
   exact⟨k.ok,rfl,rfl,Nat.le_refl _⟩
  ·exact⟨h,rfl,rfl,Nat.le_refl _⟩
 ·exact Gd.refl h
theorem JC (h:Ok r) (m:Pm):Gd r (r.answer m) 1:=by
 unfold answer
 split
 ·exact rY h _ _
 ·exact Gd.refl' h _
theorem zG (h:Ok r) (m:Pm):Gd r (r.bZ m) 1:=by
 unfold bZ
 split
 ·exact mE h _ _
 ·split
  ·exact uX h _
  ·exact Gd.refl' h _
theorem JF (h:Ok r) {m:Pm} (hk:m.kind=97) (hm:dF r.n m):Gd r (r.resume m) 21:=by
 have c:=jN hm (.inr (.inr hk));have e:=iW h (.inr hk) hm;have a:Gd r { r.enter m with answers:=[] } 0:=⟨lG e (by simp) (by simp),rfl,rfl,Nat.le_refl _⟩
 unfold resume;dsimp only
 split
 ·have k1:=eu a.ok (l:=m.log) c
  split
  ·exact ((a.trans k1).trans (iU k1.ok _)).le (by omega)
  ·have b:=l9 k1.ok m.frm;exact (((a.trans k1).trans b).trans (iU b.ok _)).le (by omega)
 ·exact (a.trans (fM a.ok (s:=4) (by decide))).le (by omega)
theorem nX {l:List Pm} {a:Pm} (h:fI l=some a):a∈l:=by
 unfold fI IL at h
 split at h
 ·cases h
 ·have:=List.mem_of_find?_eq_some h
  unfold eH at this;exact (List.mem_filter.1 this).1
theorem A9 (h:Ok r) {m:Pm} (hk:m.kind=97) (hm:dF r.n m):Gd r (r.dH m) 21:=by
 unfold dH
 split
 ·dsimp only;have b:=rz h hk hm
  split
  ·rename_i a ha;have c:=nX ha
   split
   ·have q:=b.an a c;have k:=JF b q.1 q.2;exact⟨k.ok,k.n,k.id,k.out⟩
   ·exact⟨b,rfl,rfl,by simp⟩
  ·exact⟨b,rfl,rfl,by simp⟩
 ·exact Gd.refl' h _
theorem qd (h:Ok r) {e:En} (he:iZ r.n e) (hl:r.log.length<10):Ok { r with log:=r.log++[e] } :=
 ⟨h.n3,h.n7,h.i0,h.i1,h.ll,h.lb,h.st,h.ep,h.vi,h.no,h.g,h.o,by simp;omega,fun x a=>by simp at a;rcases a with a|rfl;exact h.le x a;exact he,by have:=h.dc;simp;omega,h.vo,h.vn,h.an,h.nn⟩
theorem Da (h:Ok r) {m:Pm} (hk:m.kind=112) (hm:dF r.n m):Gd r (r.dI m) 21:=by
 unfold dI
 split
 ·split
  ·exact (mE h _ _).le (by omega)
  ·split
   ·split
    ·exact Gd.refl' h _
    ·rename_i q _;have c:=hm.pl (.inl hk);have b:=qd h (hm.en hk) (by omega)
     have k1:=l9 b m.frm;have a:=iU k1.ok m.commit;exact⟨a.ok,a.n.trans k1.n,a.id.trans k1.id,by have:=k1.out;have:=a.out;simp only at *;omega⟩
   ·have k1:=l9 h m.frm;exact (k1.trans (iU k1.ok _)).le (by omega)
 ·exact Gd.refl' h _
theorem Bb (h:Ok r) (m:Pm):Gd r (r.dL m) 20:=by
 unfold dL
 split
 ·split
  ·exact (mE h _ _).le (by omega)
  ·exact iU h _
 ·exact Gd.refl' h _
theorem oZ (h:Ok r) (q:Nat) (p:Int):Gd r (r.fq q p) 0:=by
 unfold fq
 split
 ·exact⟨h,rfl,rfl,Nat.le_refl _⟩
 ·exact Gd.refl h
theorem Gj (h:Ok r) (m:Pm):Gd r (r.fZ m) 20:=by
 unfold fZ
 split
 ·have k:=oZ h m.frm.toNat m.place;exact (k.trans (iU k.ok _)).le (by omega)
 ·exact Gd.refl' h _
theorem Bd (h:Ok r) {m:Pm} (hm:dF r.n m):Gd r (r.bS m) 21:=by
 unfold bS
 split
 ·exact (uX h _).le (by omega)
 ·split
  ·split
   ·rename_i q;exact Da h q hm
   ·split
    ·exact (Bb h m).le (by omega)
    ·split
     ·exact (Gj h m).le (by omega)
     ·split
      ·exact (uX h _).le (by omega)
      ·exact Gd.refl' h _
  ·exact Gd.refl' h _
theorem Bc (h:Ok r) {m:Pm} (hm:dF r.n m):Gd r (r.bH m) 31:=by
 unfold bH
 split
 ·split
  ·exact (yD h hm).le (by omega)
  ·exact (Bd h hm).le (by omega)
 ·split
  ·split
   ·exact xq h hm
   ·exact (mE h _ _).le (by omega)
  ·split
   ·exact (mE h _ _).le (by omega)
   ·exact (qU h m).le (by omega)
theorem xu (h:Ok r) {m:Pm} (hm:dF r.n m):Gd r (r.aU m) 31:=by
 unfold aU
 split
 ·split
  ·rename_i q;exact (A9 h q hm).le (by omega)
  ·exact Gd.refl' h _
 ·split
  ·rename_i q;exact (Df h q hm).le (by omega)
  ·split
   ·exact (JC h m).le (by omega)
   ·split
    ·exact (Db h m).le (by omega)
    ·split
     ·exact Gd.refl' h _
     ·split
      ·exact (zG h m).le (by omega)
      ·exact Bc h hm
theorem JD {l:List Int} (hb:∀ x∈l,0≤x∧x≤999) (h:Ok r) (i:Nat):Gd r (gY l r i) 0:=by
 unfold gY
 split
 ·refine⟨⟨h.n3,h.n7,h.i0,h.i1,by simpa using h.ll,fun x a=>?_,h.st,h.ep,h.vi,h.no,h.g,h.o,h.lg,h.le,h.dc,h.vo,h.vn,h.an,h.nn⟩,rfl,rfl,Nat.le_refl _⟩
  rcases List.mem_or_eq_of_mem_set a with a|rfl
  ·exact h.lb x a
  ·by_cases b:i<l.length
   ·exact hb _ (Pt b)
   ·simp[List.getD,b]
 ·exact Gd.refl h
theorem BX {l:List Int} (hb:∀ x∈l,0≤x∧x≤999):∀ (is:List Nat) (r:Rp),Ok r→Gd r (is.foldl (gY l) r) 0
 | [],_,h=>Gd.refl h
 | i :: is,r,h=>by
  have k:=JD hb h i;exact k.trans (BX hb is _ k.ok)
theorem qQ (h:Ok r) {l:List Int} (hb:∀ x∈l,0≤x∧x≤999):Gd r (r.learn l) 0:=BX hb _ _ h
theorem oW (h:Ok r):Gd r r.pruned 0 :=
 ⟨⟨h.n3,h.n7,h.i0,h.i1,h.ll,h.lb,h.st,h.ep,h.vi,h.no,h.g,h.o,h.lg,h.le,h.dc,fun x a=>h.vo x (nG a),qc h.vn,fun x a=>h.an x (nG a),qc h.nn⟩,rfl,rfl,Nat.le_refl _⟩
theorem A8 (h:Ok r) (e:En):Gd r (r.eU e) 1:=by
 unfold eU
 split
 ·exact zF h _ _ _
 ·exact Gd.refl' h _
theorem Gh (h:Ok r) {e:En} (he:iZ r.n e):Gd r (r.propose e) 5:=by
 unfold propose
 split
 ·exact Gd.refl' h _
 ·rename_i q;have a:=qd h he (by omega)
  have k:=mF a ((r.log.length:Int)+1);exact⟨k.ok,k.n,k.id,k.out⟩
structure FU (m:Pm):Prop where
 c:1≤m.ent.1∧m.ent.1≤9
 n:1≤m.ent.2.1∧m.ent.2.1≤999
 s:m.ent.2.2.size≤10
 q:m.kind=113→eF m.ent.2.2.data.toList=true
theorem yY {m:Pm} {n:Int} (hm:FU m) (hk:m.kind=113∨m.kind=109) (h:¬(m.kind=109∧fu m.ent n=true)):iZ n m.ent:=by
 refine⟨hm.c.1,hm.c.2,hm.n.1,hm.n.2,?_,hm.s⟩
 rw[yN];rcases hk with hk|hk
 ·rw[hm.q hk];rfl
 ·have:fu m.ent n=false:=by
   cases q:fu m.ent n
   ·rfl
   ·exact absurd ⟨hk,q⟩ h
  unfold fu fA at this;simp at this;simp[this]
theorem zH (h:Ok r) {m:Pm} (hm:FU m) (hk:m.kind=113∨m.kind=109):Gd r (r.bQ m) 5:=by
 unfold bQ
 split
 ·split
  ·exact Gd.refl' h _
  ·split
   ·exact (A8 h _).le (by omega)
   ·split
    ·exact Gd.refl' h _
    ·split
     ·exact (zF h _ _ _).le (by omega)
     ·rename_i q;exact Gh h (yY hm hk (fun c=>q ⟨c.1,.inr c.2⟩))
 ·exact Gd.refl' h _
def MOk (n:Int) (m:Pm):Prop:=((m.kind=113∨m.kind=109)→FU m)∧(¬(m.kind=113∨m.kind=109)→dF n m)
theorem NY (h:Ok r) {m:Pm} (hm:MOk r.n m):Gd r (r.take m) 31:=by
 unfold take
 split
 ·rename_i q;exact (zH h (hm.1 q) q).le (by omega)
 ·rename_i q;have a:=hm.2 q
  split
  ·have k1:=qQ h a.lb;have b:=oW k1.ok;have c:=k1.trans b;exact (c.trans (xu b.ok (by rw[c.n];exact a))).le (by omega)
  ·exact Gd.refl' h _
theorem zD:∀ (k:Nat) (r:Rp) (p:Int),Ok r→Gd r (jU k r p) (5*k)
 | 0,r,_,h=>Gd.refl h
 | k+1,r,p,h=>by
  have q:=mF h p;exact (q.trans (zD k _ (p+1) q.ok)).le (by omega)
theorem JE (h:Ok r):Gd r r.iD 50:=by
 unfold iD
 split
 ·exact (qR h _ h.g.1 _).le (by omega)
 ·exact (zD _ _ _ h).le (by have:=h.lg;omega)
theorem C9:∀ (is:List Nat) (r:Rp),Ok r→Gd r (is.foldl oF r) is.length
 | [],_,h=>Gd.refl h
 | i :: is,r,h=>by
  have k:Gd r (oF r i) 1:=by
   unfold oF
   split
   ·exact mE h _ _
   ·exact Gd.refl' h _
  exact (k.trans (C9 is _ k.ok)).le (by simp;omega)
theorem Qa (h:Ok r):Gd r r.ask 7:=(C9 _ _ h).le (by have:=h.n7;simp;omega)
theorem NW (h:Ok r):Gd r r.lu 50:=by
 unfold lu
 split
 ·exact JE h
 ·split
  ·have k:=yO h;exact (k.trans (uY k.ok)).le (by omega)
  ·split
   ·exact (Qa h).le (by omega)
   ·split
    ·exact (gU h).le (by omega)
    ·exact Gd.refl' h _
theorem Gi (h:Ok r):Gd r r.suspect 6:=by
 unfold suspect
 split
 ·have:=h.vi;exact uZ h (by omega)
 ·exact Gd.refl' h _
end Rp
end Go.Proofs.YtinaollfjiddmaaGreatDoor
