import Derived.Test.YtbnihoahhomooaaGreatDoorA04
import Derived.Test.YtbnihoahhomooaaGreatDoorA03
set_option maxRecDepth 100000
set_option maxHeartbeats 8000000
set_option linter.all false
namespace Go.Proofs.YtbnihoahhomooaaGreatDoor
open Go.Value renaming int→I,slice→Y,string→Z,pointer→Zp
open Go.Ending renaming returned→Zr
open _root_.ByteArray renaming empty→Ze
open Go.IntKind renaming i64→J
open Option renaming none→O
open Go.RowKit
def gB (P:Pm):ByteArray:=jG P.kind++SP++dg P.frm++SP++gQ P.lives++SP++dg P.epoch++SP++dg P.view++gU P.kind P.place P.ent P.commit P.normal P.life P.grp P.old P.log
structure PmW (P:Pm):Prop where
 lvl:P.lives.length≤1000
 gl:P.grp.length≤1000
 ol:P.old.length≤1000
 ll:P.log.length≤1000
 lb:∀ x∈P.lives,0≤x∧x≤999999999
 gb:∀ x∈P.grp,0≤x∧x≤999999999
 ob:∀ x∈P.old,0≤x∧x≤999999999
 eb:∀ x∈P.log,tY x
 pl:0≤P.place∧P.place≤999999999
 co:0≤P.commit∧P.commit≤999999999
 no:0≤P.normal∧P.normal≤999999999
 li:0≤P.life∧P.life≤999999999
 en:tY P.ent
 fr:0≤P.frm∧P.frm≤999999999
 ep:0≤P.epoch∧P.epoch≤999999999
 vi:0≤P.view∧P.view≤999999999
 kd:0≤P.kind∧P.kind<128
structure mg (w:World) (P:Pm) (vl vg vo vL:Value):Prop where
 lives:Ints w vl P.lives
 grp:Ints w vg P.grp
 old:Ints w vo P.old
 log:gW w vL P.log
theorem GX {P:Pm} (h:PmW P):(gU P.kind P.place P.ent P.commit P.normal P.life P.grp P.old P.log).size≤20000000:=by
 have s1:=fO _ h.pl.2;have s2:=fO _ h.co.2;have s3:=fO _ h.no.2;have s4:=fO _ h.li.2;have s5:=oF h.en;have s6:=zy h.ll h.eb h.co.2;have s7:=zx h.gl h.ol h.gb h.ob;have hs:SP.size=1:=rfl
 have he:(⟨#[]⟩:ByteArray).size=0:=rfl
 unfold gU
 repeat' split
 all_goals (try simp only[ByteArray.size_append])
 all_goals omega
theorem Jz (c n:Int) (t:ByteArray) (w:World) (hT:Tab w) (hc:0≤c∧c≤999999999) (hn:0≤n∧n≤999999999) (ht:t.size≤1000000) :
  Calls Tryz.prog 76 #[I J c,I J n,Z t] w fun e w'=>e=Zr (Z (YS++dg c++SP++dg n++SP++t))∧Below w.heap.size w w':=by
 have HE:Hid (YS++dg c++SP++dg n++SP++t=⟨#[121,32]⟩++dg c++⟨#[32]⟩++dg n++⟨#[32]⟩++t):=rfl
 have HIc:Hid (∀ w,Tab w→Calls Tryz.prog 122 #[I J c] w fun e w'=>e=Zr (Z (dg c))∧Below w.heap.size w w'):=fun w h=>iq c w h hc.1 (by have:=hc.2;omega)
 have HIn:Hid (∀ w,Tab w→Calls Tryz.prog 122 #[I J n] w fun e w'=>e=Zr (Z (dg n))∧Below w.heap.size w w'):=fun w h=>iq n w h hn.1 (by have:=hn.2;omega)
 have s1:=fO c hc.2;have s2:=fO n hn.2;generalize YS++dg c++SP++dg n++SP++t=r at *;generalize dg c=dc at *;generalize dg n=dn at *;have z1:¬9223372036854775807<2+dc.size:=by omega
 have z2:¬9223372036854775807<2+dc.size+1:=by omega
 have z3:¬9223372036854775807<2+dc.size+1+dn.size:=by omega
 have z4:¬9223372036854775807<2+dc.size+1+dn.size+1:=by omega
 have z5:¬9223372036854775807<2+dc.size+1+dn.size+1+t.size:=by omega
 go_enter Tryz.func76,Tryz.ntmps76;go_wp2_with fail;refine (HIc.out _ hT).mono ?_;rintro e w1 ⟨rfl,hb1⟩;have hT1:=hT.below hb1;go_wp2_with fail;refine (HIn.out _ hT1).mono ?_;rintro e w2 ⟨rfl,hb2⟩;go_wp2;go_ret;exact⟨by rw[HE.out];rfl,hb1.trans (hb2.mono hb1.size)⟩
theorem JA (P:Pm) (vl vg vo vL:Value) (w:World) (hT:Tab w) (hW:PmW P) (hR:mg w P vl vg vo vL):Calls Tryz.prog 140 #[.agg (pmC P vl vg vo vL)] w fun e w'=>e=Zr (Z (gB P))∧Below w.heap.size w w':=by
 obtain⟨al,cl,rfl,_,_⟩:=hR.lives.shape
 obtain⟨ag,cg,rfl,_,_⟩:=hR.grp.shape
 obtain⟨ao,co2,rfl,_,_⟩:=hR.old.shape
 obtain⟨aL,cL,rfl,_,_⟩:=hR.log.shape
 have HRe:Hid (∀ w,Tab w→mg w P (Y al P.lives.length cl) (Y ag P.grp.length cg) (Y ao P.old.length co2) (Y aL P.log.length cL)→Calls Tryz.prog 161 #[.agg (pmC P (Y al P.lives.length cl) (Y ag P.grp.length cg) (Y ao P.old.length co2) (Y aL P.log.length cL))] w fun e w'=>e=Zr (Z (gU P.kind P.place P.ent P.commit P.normal P.life P.grp P.old P.log))∧Below w.heap.size w w'):=fun w h hR=>Lh P.kind P.frm P.epoch P.view P.place P.ent.1 P.ent.2.1 P.commit P.normal P.life P.ent.2.2 al ag ao aL _ _ _ _ cl cg co2 cL w h P.lives P.grp P.old P.log hR.lives hR.grp hR.old hR.log hW.lvl hW.gl hW.ol hW.ll hW.lb hW.gb hW.ob hW.eb hW.pl hW.co hW.no hW.li hW.en hW.fr hW.ep hW.vi hW.kd
 have HLi:Hid (∀ w,Tab w→Ints w (Y al P.lives.length cl) P.lives→Calls Tryz.prog 160 #[Y al P.lives.length cl] w fun e w'=>e=Zr (Z (gQ P.lives))∧Below w.heap.size w w'):=fun w h hv=>A8 _ P.lives w h hv hW.lvl hW.lb
 have HE:Hid (gB P=⟨#[UInt8.ofNat P.kind.toNat]⟩++⟨#[32]⟩++dg P.frm++⟨#[32]⟩++gQ P.lives++⟨#[32]⟩++dg P.epoch++⟨#[32]⟩++dg P.view++gU P.kind P.place P.ent P.commit P.normal P.life P.grp P.old P.log):=rfl
 have s0:=enc1 hW.kd.1 hW.kd.2;rw[← s0] at HE;have z0:(Utf8.encode P.kind).size=1:=by rw[s0];rfl
 clear s0;have s1:=fO _ hW.fr.2;have s2:=fO _ hW.ep.2;have s3:=fO _ hW.vi.2;have s4:=Jr hW.lvl hW.lb;have s5:=GX hW;have HIf:Hid (∀ w,Tab w→Calls Tryz.prog 122 #[I J P.frm] w fun e w'=>e=Zr (Z (dg P.frm))∧Below w.heap.size w w'):=fun w h=>iq P.frm w h hW.fr.1 (by have:=hW.fr.2;omega)
 have HIe:Hid (∀ w,Tab w→Calls Tryz.prog 122 #[I J P.epoch] w fun e w'=>e=Zr (Z (dg P.epoch))∧Below w.heap.size w w'):=fun w h=>iq P.epoch w h hW.ep.1 (by have:=hW.ep.2;omega)
 have HIv:Hid (∀ w,Tab w→Calls Tryz.prog 122 #[I J P.view] w fun e w'=>e=Zr (Z (dg P.view))∧Below w.heap.size w w'):=fun w h=>iq P.view w h hW.vi.1 (by have:=hW.vi.2;omega)
 have hk1:=hW.kd.1;have hk2:=hW.kd.2;clear hW;obtain⟨kd,fr,lv,ep,vi,pl,⟨ec,en,eo⟩,co,no,li,g,o,l⟩:=P
 simp only[pmC] at *;generalize gB _=r at *;generalize gU _ _ _ _ _ _ _ _ _=tr at *;generalize gQ lv=tl at *;generalize dg fr=df at *;generalize dg ep=de at *;generalize dg vi=dv at *;obtain⟨tk,htk⟩:∃ tk,Utf8.encode kd=tk:=⟨_,rfl⟩
 rw[htk] at HE z0;have z0b:tk.size≤1:=by omega
 clear z0;have hbA:Below w.heap.size w (w.alloc (.cells #[I .u8 kd,I J fr,Y al lv.length cl,I J ep,I J vi,I J pl,I J ec,I J en,Z eo,I J co,I J no,I J li,Y ag g.length cg,Y ao o.length co2,Y aL l.length cL] 68)):=(Below.refl _ w).alloc (Nat.le_refl _) _
 have hnew:=heap_alloc_new w (.cells #[I .u8 kd,I J fr,Y al lv.length cl,I J ep,I J vi,I J pl,I J ec,I J en,Z eo,I J co,I J no,I J li,Y ag g.length cg,Y ao o.length co2,Y aL l.length cL] 68);have hTA:=hT.below hbA;have hRA:mg _ _ _ _ _ _:=⟨hR.lives.below hbA,hR.grp.below hbA,hR.old.below hbA,hR.log.below hbA⟩
 go_enter Tryz.func140,Tryz.ntmps140;go_wp2_with fail;generalize (w.alloc (.cells #[I .u8 kd,I J fr,Y al lv.length cl,I J ep,I J vi,I J pl,I J ec,I J en,Z eo,I J co,I J no,I J li,Y ag g.length cg,Y ao o.length co2,Y aL l.length cL] 68))=wA at *;have k0:=cell_regrown (show wA.cell? ⟨w.heap.size,0,O⟩=some (I .u8 kd) by simp[World.cell?,hnew])
 have k1:=cell_regrown (show wA.cell? ⟨w.heap.size,1,O⟩=some (I J fr) by simp[World.cell?,hnew])
 have k2:=cell_regrown (show wA.cell? ⟨w.heap.size,2,O⟩=some (Y al lv.length cl) by simp[World.cell?,hnew])
 have k3:=cell_regrown (show wA.cell? ⟨w.heap.size,3,O⟩=some (I J ep) by simp[World.cell?,hnew])
 have k4:=cell_regrown (show wA.cell? ⟨w.heap.size,4,O⟩=some (I J vi) by simp[World.cell?,hnew])
 have k5:=cell_regrown (show wA.cell? ⟨w.heap.size,5,O⟩=some (I J pl) by simp[World.cell?,hnew])
 have k6:=cell_regrown (show wA.cell? ⟨w.heap.size,6,O⟩=some (I J ec) by simp[World.cell?,hnew])
 have k7:=cell_regrown (show wA.cell? ⟨w.heap.size,7,O⟩=some (I J en) by simp[World.cell?,hnew])
 have k8:=cell_regrown (show wA.cell? ⟨w.heap.size,8,O⟩=some (Z eo) by simp[World.cell?,hnew])
 have k9:=cell_regrown (show wA.cell? ⟨w.heap.size,9,O⟩=some (I J co) by simp[World.cell?,hnew])
 have k10:=cell_regrown (show wA.cell? ⟨w.heap.size,10,O⟩=some (I J no) by simp[World.cell?,hnew])
 have k11:=cell_regrown (show wA.cell? ⟨w.heap.size,11,O⟩=some (I J li) by simp[World.cell?,hnew])
 have k12:=cell_regrown (show wA.cell? ⟨w.heap.size,12,O⟩=some (Y ag g.length cg) by simp[World.cell?,hnew])
 have k13:=cell_regrown (show wA.cell? ⟨w.heap.size,13,O⟩=some (Y ao o.length co2) by simp[World.cell?,hnew])
 have k14:=cell_regrown (show wA.cell? ⟨w.heap.size,14,O⟩=some (Y aL l.length cL) by simp[World.cell?,hnew])
 have hsz:wA.heap.size=wA.heap.size:=rfl
 have cF:=fun d os=>Calls.regrown_of (HIf.out _ (hTA.below (below_regrown wA d os)))
 have cE:=fun d os=>Calls.regrown_of (HIe.out _ (hTA.below (below_regrown wA d os)))
 have cV:=fun d os=>Calls.regrown_of (HIv.out _ (hTA.below (below_regrown wA d os)))
 have cL':=fun d os=>Calls.regrown_of (HLi.out _ (hTA.below (below_regrown wA d os)) (hRA.lives.below (below_regrown wA d os)))
 have z1:¬9223372036854775807<tk.size+1:=by omega
 have z2:¬9223372036854775807<tk.size+1+df.size:=by omega
 have z3:¬9223372036854775807<tk.size+1+df.size+1:=by omega
 have z4:¬9223372036854775807<tk.size+1+df.size+1+tl.size:=by omega
 have z5:¬9223372036854775807<tk.size+1+df.size+1+tl.size+1:=by omega
 have z6:¬9223372036854775807<tk.size+1+df.size+1+tl.size+1+de.size:=by omega
 have z7:¬9223372036854775807<tk.size+1+df.size+1+tl.size+1+de.size+1:=by omega
 have z8:¬9223372036854775807<tk.size+1+df.size+1+tl.size+1+de.size+1+dv.size:=by omega
 have z9:¬9223372036854775807<tk.size+1+df.size+1+tl.size+1+de.size+1+dv.size+tr.size:=by omega
 clear hR hsz;have hkw:IntKind.i32.wrap kd=kd:=by rw[IntKind.wrap_i32];omega
 refine wp_region_quiet_below (by kernel_rfl) (by kernel_rfl) ?_
 repeat (quiet_step (first|exact cF _ _|exact cL' _ _))
 refine wpQuiet_nil ?_;intro _ hw';obtain⟨⟨dq,osq⟩,hw''⟩:=hw'
 subst hw'';have hq:=below_regrown wA dq osq;have m0:=k0 dq osq;have m1:=k1 dq osq;have m2:=k2 dq osq;have m3:=k3 dq osq;have m4:=k4 dq osq;have m5:=k5 dq osq;have m6:=k6 dq osq;have m7:=k7 dq osq;have m8:=k8 dq osq;have m9:=k9 dq osq;have m10:=k10 dq osq;have m11:=k11 dq osq;have m12:=k12 dq osq;have m13:=k13 dq osq;have m14:=k14 dq osq;have hT2:=hTA.below hq;have hR2:mg _ _ _ _ _ _:=⟨hRA.lives.below hq,hRA.grp.below hq,hRA.old.below hq,hRA.log.below hq⟩
 clear k0 k1 k2 k3 k4 k5 k6 k7 k8 k9 k10 k11 k12 k13 k14 cF cE cV cL' hnew;generalize Sort.grow (redrawn wA dq) osq=wB at *;go_wp2_with fail;have k0:=cell_regrown m0;have k1:=cell_regrown m1;have k2:=cell_regrown m2;have k3:=cell_regrown m3;have k4:=cell_regrown m4;have k5:=cell_regrown m5;have k6:=cell_regrown m6;have k7:=cell_regrown m7;have k8:=cell_regrown m8;have k9:=cell_regrown m9;have k10:=cell_regrown m10;have k11:=cell_regrown m11;have k12:=cell_regrown m12;have k13:=cell_regrown m13;have k14:=cell_regrown m14;have cE:=fun d os=>Calls.regrown_of (HIe.out _ (hT2.below (below_regrown wB d os)))
 have cV:=fun d os=>Calls.regrown_of (HIv.out _ (hT2.below (below_regrown wB d os)))
 have cR:=fun d os=>Calls.regrown_of (HRe.out _ (hT2.below (below_regrown wB d os)) ⟨hR2.lives.below (below_regrown wB d os),hR2.grp.below (below_regrown wB d os),hR2.old.below (below_regrown wB d os),hR2.log.below (below_regrown wB d os)⟩)
 refine wp_region_quiet_below (by kernel_rfl) (by kernel_rfl) ?_
 repeat (quiet_step (first|exact cE _ _|exact cV _ _|exact cR _ _))
 refine wpQuiet_nil ?_;intro _ hw';obtain⟨⟨dq2,osq2⟩,hw''⟩:=hw'
 subst hw'';have hq2:=below_regrown wB dq2 osq2;go_wp2;go_ret;exact⟨by rw[HE.out];rfl,hbA.trans ((hq.trans (hq2.mono hq.size)).mono hbA.size)⟩
abbrev En:=Int×Int×ByteArray
structure Rp where
 id:Int
 n:Int
 lives:List Int
 status:Int
 epoch:Int
 view:Int
 normal:Int
 grp:List Int
 old:List Int
 log:List En
 decided:Nat
 sv:Sv
 acks:List Int
 aI:List Pm
 answers:List Pm
 started:List Bool
 out:List (Int×ByteArray)
def sv0:Sv:=⟨List.replicate 26 0,List.replicate 9 (0,⟨#[]⟩)⟩
def yH:List Int:=List.replicate 7 0
def st0:List Bool:=List.replicate 7 false
def iQ (g:List Int) (x:Int):Bool:=g.any (fun y=>y==x)
def oL (g:List Int) (v:Int):Int:=if g.length=0∨v<0 then -1 else g.getD (v % (g.length:Int)).toNat 0
def eZ (g:List Int):Int:=((g.length:Int)-1).tdiv 2
def eT (e:En):Bool:=iU e.2.2
def regs (l:List En):Nat:=l.countP eT
def Ct (l:List En) (e:Int):Nat:=match (List.range l.length).find? (fun i=>eT (l.getD i (0,0,⟨#[]⟩))&&((regs (l.take (i+1)):Int)==e)) with
 | some i=>i+1
 | none=>l.length
def dW (l:List En) (e:Int):List En:=l.take (Ct l e)
def lG (S:Sv) (e:En):Sv:=yP S e.1 e.2.1 e.2.2
def svF (l:List En):Sv:=l.foldl lG sv0
def cZ (l:List Int):Int:=l.foldl (fun g x=>if g<x then x else g) 0
def kE (v b:Pm):Bool:=if v.normal=b.normal then decide (b.log.length<v.log.length) else decide (b.normal<v.normal)
def pm0:Pm:=⟨0,0,[],0,0,0,(0,0,⟨#[]⟩),0,0,0,[],[],[]⟩
def yM (b:Option Pm) (v:Pm):Option Pm:=match b with
 | none=>some v
 | some b=>if kE v b then some v else some b
def je (l:List Pm):Option Pm:=l.foldl yM O
def aQ (l:List Pm) (m:Pm):List Pm:=if l.any (fun x=>x.frm==m.frm) then l.map (fun x=>if x.frm==m.frm then m else x) else l++[m]
def gJ (l:List Pm) (lives:List Int):List Pm:=l.filter (fun m=>decide (lives.getD m.frm.toNat 0≤m.lives.getD m.frm.toNat 0))
def jf (l:List Pm) (e:Int):List Int:=match l.reverse.find? (fun m=>m.epoch==e) with
 | some m=>m.grp
 | none=>[]
def gT (l:List Pm) (e:Int) (g:List Int):List Pm:=l.filter (fun m=>(m.epoch==e)&&iQ g m.frm)
def KY (c:List Pm) (g:List Int):Option Pm :=
 if (c.length:Int)≤eZ g then O
 else c.find? (fun m=>(m.frm==oL g (cZ (c.map (·.view))))&&(m.view==cZ (c.map (·.view))))
def gP (l:List Pm):Option Pm:=KY (gT l (cZ (l.map (·.epoch))) (jf l (cZ (l.map (·.epoch))))) (jf l (cZ (l.map (·.epoch))))
namespace Rp
def mem (r:Rp) (x:Int):Bool:=iQ r.grp x
def iB (r:Rp):Int:=oL r.grp r.view
def dG (r:Rp):Bool:=r.iB==r.id
def leads (r:Rp):Bool:=(r.status==1)&&r.dG
def carries (r:Rp):Bool:=(r.status==1)||(r.status==2)
def closing (r:Rp):Bool:=decide (r.epoch<(regs r.log:Int))
def put (r:Rp) (qt:Int) (t:ByteArray):Rp:={ r with out:=r.out++[(qt,t)] }
def send (r:Rp) (qt:Int) (P:Pm):Rp:=r.put qt (gB P)
def fI (r:Rp) (g:List Int) (P:Pm):Rp:={ r with out:=r.out++(g.filter (fun x=>x != r.id)).map (fun x=>(x,gB P)) }
def head (r:Rp) (k:Int):Pm:={ pm0 with kind:=k,frm:=r.id,lives:=r.lives,epoch:=r.epoch,view:=r.view }
def bare (r:Rp) (qt k:Int):Rp:=r.send qt (r.head k)
def eP (r:Rp) (place:Int):Pm:={ r.head 112 with place:=place,ent:=r.log.getD (place-1).toNat (0,0,⟨#[]⟩),commit:=r.decided }
def bF (r:Rp) (place:Int):Rp:=if place<1∨(r.log.length:Int)<place then r else r.fI r.grp (r.eP place)
def ack (r:Rp) (qt:Int):Rp:=r.send qt { r.head 107 with place:=r.log.length }
def reply (r:Rp) (c m:Int) (t:ByteArray):Rp:=r.put (-c) (YS++dg c++SP++dg m++SP++t)
def bf (r:Rp):Pm:={ r.head 115 with grp:=r.grp,old:=r.old,commit:=r.decided,log:=r.log }
def tell (r:Rp) (qt:Int):Rp:=r.send qt r.bf
def bS (r:Rp):Rp:=r.fI r.grp r.bf
def bH (r:Rp):Rp:=r.fI r.old (r.head 116)
def kg (r:Rp):Pm:={ r.bf with view:=0,log:=dW r.log r.epoch,commit:=(dW r.log r.epoch).length }
def kM (r:Rp) (qt:Int):Rp:=r.send qt r.kg
def begin_ (r:Rp) (v:Int):Rp:={ r with view:=v,normal:=v,status:=1,acks:=yH,aI:=[] }
def over (r:Rp) (l:List En):Rp:={ r with log:=l,decided:=min r.decided l.length,sv:=svF (l.take (min r.decided l.length)) }
def turn (r:Rp) (g:List Int):Rp :=
 let r3:={ ({ r with old:=r.grp,grp:=g,epoch:=r.epoch+1 }:Rp).begin_ 0 with started:=st0 }
 if iQ g r.id then (r3.bS).bH else ({ r3 with status:=5 }:Rp).bS
def mq (r:Rp) (e:En):Rp:={ r with sv:=lG r.sv e,decided:=r.decided+1 }
def carried (r:Rp) (e:En):Rp:=if (r.mq e).leads then (r.mq e).reply e.1 e.2.1 (doS r.sv.vals e.2.2).2 else r.mq e
def turns (r:Rp) (e:En):Bool:=eT e&&decide (r.epoch<(regs (r.log.take r.decided):Int))
def qh (e:En) (n:Int):List Int:=dz (e.2.2.extract 1 e.2.2.size) n
def dZ:Nat→Rp→Int→Rp
 | 0,r,_=>r
 | f+1,r,place =>
  if (r.decided:Int)<place∧r.decided<r.log.length then
   let e:=r.log.getD r.decided (0,0,⟨#[]⟩)
   if (r.carried e).turns e then (r.carried e).turn (qh e r.n) else dZ f (r.carried e) place
  else r
def aT (r:Rp) (place:Int):Rp:=dZ (r.log.length-r.decided) r place
def call (r:Rp):Rp:=r.fI r.grp (r.head 104)
def dD (r:Rp):Pm:={ r.head 118 with normal:=r.normal,commit:=r.decided,log:=r.log }
def oU (r:Rp):Rp:=if r.dG then { r with aI:=aQ r.aI r.dD } else r.send r.iB r.dD
def dP (r:Rp):Rp:=if r.dG then r else r.oU
def lM (r:Rp) (v:Int):Rp:={ r with normal:=if r.status==1 then r.view else r.normal,view:=v,status:=2,acks:=yH,aI:=[] }
def want (r:Rp) (v:Int):Rp:=(r.lM v).call.oU
def counted (r:Rp) (best:Pm) (c:Int):Rp:=((r.over best.log).begin_ r.view).bS.aT c
def count (r:Rp) (m:Pm):Rp :=
 let r1:={ r with aI:=aQ r.aI m }
 if (r1.aI.length:Int)≤eZ r.grp then r1 else r1.counted ((je r1.aI).getD pm0) (cZ (r1.aI.map (·.commit)))
def qG (m:Pm):Bool:=(m.kind==104)||(m.kind==118)
def bY (r:Rp) (m:Pm):Rp :=
 if r.mem m.frm then (if (m.kind==118)&&(r.want m.view).dG then (r.want m.view).count m else r.want m.view) else r
def bC (r:Rp) (m:Pm):Rp :=
 if r.mem m.frm then
  (if m.kind=112∨m.kind=99 then r.bare m.frm 103 else if m.kind=104 then r.dP else if m.kind=118∧r.dG=true then r.count m else r)
 else r
def bZ (r:Rp) (c:Int):Rp:=(if r.dG then r else r.ack r.iB).aT c
def enter (r:Rp) (m:Pm):Rp:=({ r with epoch:=m.epoch,grp:=m.grp,old:=m.old }:Rp).begin_ m.view
def bX (r:Rp) (m:Pm):Rp :=
 if r.status==1 then r.tell m.frm else if m.epoch<r.epoch then r.kM m.frm else if qG m&&r.mem m.frm then r.bare m.frm 104 else r
def aH (r:Rp) (m:Pm):Rp :=
 if r.view<m.view∨(m.view=r.view∧r.status=2) then ((r.begin_ m.view).over m.log).bZ m.commit
 else if m.view<r.view then (if r.status==1 then r.tell m.frm else r)
 else if r.dG=false∧r.log.length<m.log.length then (r.over m.log).bZ m.commit
 else if r.mem m.frm then r else r.bare m.frm 116
def jB (r:Rp) (m:Pm):Bool:=r.carries&&(m.epoch==r.epoch+1)&&iQ m.old r.id
def leave0 (r:Rp):Rp:={ r with status:=5,view:=0,normal:=0,started:=st0 }
def leave (r:Rp) (m:Pm):Rp:=((r.leave0.over (dW m.log r.epoch)).aT m.commit).bS
def bK (r:Rp) (m:Pm):Rp :=
 if (r.enter m).mem r.id then (((r.enter m).over m.log).bH).bZ m.commit
 else if r.jB m then (r.enter m).leave m else { r.enter m with status:=4 }
def dY (r:Rp) (m:Pm):Rp :=
 if r.epoch<m.epoch then r.bK m else if r.carries then (if m.epoch<r.epoch then r.bX m else r.aH m) else r
def starters (l:List Bool):Nat:=l.countP (fun x=>x)
def eB (r:Rp) (m:Pm):Rp :=
  if (r.status==5)&&(m.epoch==r.epoch)&&r.mem m.frm then
    (let r1:={ r with started:=r.started.set m.frm.toNat true }
     if eZ r.grp<(starters r1.started:Int) then { r1 with status:=4 } else r1)
  else r
def answer (r:Rp) (m:Pm):Rp:=if r.status==1 then r.send m.frm { r.bf with kind:=97,life:=m.lives.getD m.frm.toNat 0 } else r
def cK (r:Rp) (m:Pm):Rp :=
 if r.epoch<m.epoch then r.bare m.frm 103 else if (m.kind==103)&&(r.status==5)&&r.mem m.frm then r.tell m.frm else r
def resume (r:Rp) (a:Pm):Rp :=
 let r1:={ r.enter a with answers:=[] }
 if r1.mem r.id then (let r2:=r1.over a.log;(if r2.dG then r2 else r2.ack a.frm).aT a.commit) else { r1 with status:=4 }
def dO (r:Rp) (m:Pm):Rp :=
  if m.life=r.lives.getD r.id.toNat 0 then
    (let r1:={ r with answers:=aQ r.answers m }
     match gP r1.answers with
     | some a=>if (regs a.log:Int)≤a.epoch then r1.resume a else r1
     | none=>r1)
  else r
def dK (r:Rp) (m:Pm):Rp :=
  if m.frm=r.iB then
    (if (r.log.length:Int)+1<m.place then r.bare m.frm 103
     else if m.place=(r.log.length:Int)+1 then
       (if r.closing then r else (({ r with log:=r.log++[m.ent] }:Rp).ack m.frm).aT m.commit)
     else (r.ack m.frm).aT m.commit)
  else r
def dV (r:Rp) (m:Pm):Rp :=
 if m.frm=r.iB then (if (r.log.length:Int)<m.commit then r.bare m.frm 103 else r.aT m.commit) else r
def nG (r:Rp) (place:Int):Nat:=r.grp.countP (fun x=>(x != r.id)&&decide (place≤r.acks.getD x.toNat 0))
def mh (r:Rp):Nat→Int
 | 0=>0
 | k+1=>if eZ r.grp≤(r.nG ((k:Int)+1):Int) then (k:Int)+1 else mh r k
def sI (r:Rp):Int:=r.mh r.log.length
def eX (r:Rp) (q:Nat) (p:Int):Rp:=if r.acks.getD q 0<p then { r with acks:=r.acks.set q p } else r
def iw (r:Rp) (m:Pm):Rp :=
 if r.leads=true∧m.place≤(r.log.length:Int) then (r.eX m.frm.toNat m.place).aT (r.eX m.frm.toNat m.place).sI else r
def bV (r:Rp) (m:Pm):Rp :=
 if m.kind=103 then r.tell m.frm
 else if r.mem m.frm then
  (if m.kind=112 then r.dK m else if m.kind=99 then r.dV m else if m.kind=107 then r.iw m else if m.kind=104∨m.kind=118 then r.tell m.frm else r)
 else r
def bM (r:Rp) (m:Pm):Rp :=
 if m.epoch=r.epoch∧m.view=r.view then (if r.status=2 then r.bC m else r.bV m)
 else if m.epoch=r.epoch∧r.view<m.view then (if qG m then r.bY m else r.bare m.frm 103)
 else if r.epoch<m.epoch then r.bare m.frm 103 else r.bX m
def bB (r:Rp) (m:Pm):Rp :=
 if r.status=3 then (if m.kind=97 then r.dO m else r)
 else if m.kind=115 then r.dY m
 else if m.kind=114 then r.answer m
 else if m.kind=116 then r.eB m
 else if m.kind=97 then r
 else if r.status=4∨r.status=5 then r.cK m
 else r.bM m
def alive (r:Rp) (m:Pm):Bool:=(m.frm != r.id)&&decide (r.lives.getD m.frm.toNat 0≤m.lives.getD m.frm.toNat 0)
def iJ (l:List Int) (r:Rp) (i:Nat):Rp :=
 if ((i:Int) != r.id)&&decide (r.lives.getD i 0<l.getD i 0) then { r with lives:=r.lives.set i (l.getD i 0),acks:=r.acks.set i 0 } else r
def learn (r:Rp) (l:List Int):Rp:=(List.range r.n.toNat).foldl (iJ l) r
def pruned (r:Rp):Rp:={ r with aI:=gJ r.aI r.lives,answers:=gJ r.answers r.lives }
def sM (l:List En) (c:Int):Nat→Int
 | 0=>0
 | k+1=>if (l.getD k (0,0,⟨#[]⟩)).1=c then (l.getD k (0,0,⟨#[]⟩)).2.1 else sM l c k
def iP (r:Rp) (c:Int):Int:=sM r.log c r.log.length
def gy (r:Rp) (e:En):Rp:=if (jL r.sv e.1).1=e.2.1 then r.reply e.1 e.2.1 (jL r.sv e.1).2 else r
def propose (r:Rp) (e:En):Rp :=
 if r.closing=true∨10≤r.log.length then r else ({ r with log:=r.log++[e] }:Rp).bF ((r.log.length:Int)+1)
def eH (e:En) (n:Int):Bool:=!(eT e&&aV (e.2.2.extract 1 e.2.2.size).data.toList n)
def bT (r:Rp) (m:Pm):Rp :=
  if r.leads then
    (if m.ent.2.1<r.iP m.ent.1 then r
     else if m.ent.2.1=r.iP m.ent.1 then r.gy m.ent
     else if m.kind=109∧r.epoch<m.epoch then r
     else if m.kind=109∧(m.epoch<r.epoch∨eH m.ent r.n=true) then r.reply m.ent.1 m.ent.2.1 ⟨#[98,97,100]⟩
     else r.propose m.ent)
  else r
def take (r:Rp) (m:Pm):Rp :=
 if m.kind=113∨m.kind=109 then r.bT m
 else if r.alive m then ((r.learn m.lives).pruned).bB m else r
def kK:Nat→Rp→Int→Rp
 | 0,r,_=>r
 | k+1,r,p=>kK k (r.bF p) (p+1)
def iZ (r:Rp):Rp :=
 if r.decided=r.log.length then r.fI r.grp { r.head 99 with commit:=r.decided }
 else kK (r.log.length-r.decided) r ((r.decided:Int)+1)
def oW (r:Rp) (i:Nat):Rp:=if (i:Int) != r.id then r.bare i 114 else r
def ask (r:Rp):Rp:=(List.range r.n.toNat).foldl oW r
def lF (r:Rp):Rp :=
 if r.leads then r.iZ else if r.status=2 then r.call.dP else if r.status=3 then r.ask else if r.status=5 then r.bS else r
def suspect (r:Rp):Rp:=if r.carries=true∧r.view<999 then r.want (r.view+1) else r
end Rp
def Rws {α:Type} (C:α→List Value→Prop):List α→List Value→Prop
 | [],xs=>xs=[]
 | m :: ms,xs=>∃ cs rest,xs=cs++rest∧C m cs∧Rws C ms rest
section
variable {α:Type} {C D:α→List Value→Prop}
theorem Rws.mono (h:∀ m cs,C m cs→D m cs):∀ {ms:List α} {xs:List Value},Rws C ms xs→Rws D ms xs
 | [],_,q=>q
 | _ :: _,_,⟨cs,rest,h1,h2,h3⟩=>⟨cs,rest,h1,h _ _ h2,Rws.mono h h3⟩
theorem Rws.app:∀ {ms ns:List α} {xs ys:List Value},Rws C ms xs→Rws C ns ys→Rws C (ms++ns) (xs++ys)
 | [],_,_,_,h,k=>by rw[h];exact k
 | _ :: _,_,_,ys,⟨cs,rest,h1,h2,h3⟩,k=>⟨cs,rest++ys,by rw[h1,List.append_assoc],h2,h3.app k⟩
theorem Rws.one {m:α} {cs:List Value} (h:C m cs):Rws C [m] cs:=⟨cs,[],by simp,h,rfl⟩
theorem Rws.get {s:Nat} (h:∀ m cs,C m cs→cs.length=s):∀ {ms:List α} {xs:List Value},Rws C ms xs→∀ k (hk:k<ms.length),∃ cs,C ms[k] cs∧∀ j u,cs[j]? = some u→xs[k*s+j]? = some u
 | [],_,_,k,hk=>by simp at hk
 | m :: ms,_,⟨cs,rest,h1,h2,h3⟩,0,_=>⟨cs,h2,fun j u hj=>by
   rw[h1,Nat.zero_mul,Nat.zero_add,List.getElem?_append_left (List.getElem?_eq_some_iff.1 hj).1];exact hj⟩
 | m :: ms,_,⟨cs,rest,h1,h2,h3⟩,k+1,hk=>by
   obtain⟨ds,e1,e2⟩:=Rws.get h h3 k (by simpa using hk)
   refine⟨ds,by simpa using e1,fun j u hj=>?_⟩
   have hl:=h _ _ h2;rw[h1,List.getElem?_append_right (by rw[hl,Nat.add_mul];omega),show (k+1)*s+j-cs.length=k*s+j from by rw[hl,Nat.add_mul];omega]
   exact e2 j u hj
end
def In (F:List Nat) (v:Value):Prop:=∀ k,v.ownBlock=some k→k∈F
theorem In.nil (F:List Nat) (n c:Nat):In F (Y O n c):=by intro k hk;simp[Value.ownBlock] at hk
theorem In.sub {F F':List Nat} {v:Value} (h:In F v) (hs:∀ x∈F,x∈F'):In F' v:=fun k hk=>hs k (h k hk)
structure Sl (W F:List Nat) (v:Value):Prop where
 fr:Fr W v
 inn:In F v
theorem Sl.nil (W F:List Nat):Sl W F (Y O 0 0):=⟨Fr.nil _ _ _,In.nil _ _ _⟩
structure dM (w:World) (W F:List Nat) (P:Pm) (vl vg vo vL:Value):Prop where
 lives:Ints w vl P.lives
 grp:Ints w vg P.grp
 old:Ints w vo P.old
 log:gW w vL P.log
 sl:Sl W F vl
 sg:Sl W F vg
 so:Sl W F vo
 sL:Sl W F vL
theorem gW.kp {w w':World} {v:Value} {l:List En} {S S':List Nat} (h:gW w v l) (k:Kp S w w') (hf:Fr S' v) (hsub:∀ x∈S,x∈S':=by first|exact fun _ h=>h|exact sub3|(intro x hx;simp at hx;simp[hx])):gW w' v l:=Rd.kp h k hf hsub
structure Mv (w:World) (W F W' F':List Nat):Prop where
 m:∀ x∈W',x∈W∨w.heap.size≤x
 f:∀ x∈F,x∈F'
 g:∀ x∈F',x∈F∨w.heap.size≤x
theorem Mv.refl (w:World) (W F:List Nat):Mv w W F W F:=⟨fun _ h=>.inl h,fun _ h=>h,fun _ h=>.inl h⟩
theorem Mv.trans {w w1:World} {W F W1 F1 W2 F2:List Nat} (h:Mv w W F W1 F1) (k:Mv w1 W1 F1 W2 F2) (hs:w.heap.size≤w1.heap.size):Mv w W F W2 F2 :=
  ⟨fun x hx => by rcases k.m x hx with h1 | h1
                  · exact h.m x h1
                  · right;omega,
   fun x hx=>k.f x (h.f x hx),
   fun x hx => by rcases k.g x hx with h1 | h1
                  · exact h.g x h1
                  · right;omega⟩
theorem Sl.mv {w:World} {W F W' F':List Nat} {size n:Nat} {v:Value} {xs:List Value} (h:Sl W F v) (hr:Rd w size v n xs) (m:Mv w W F W' F'):Sl W' F' v :=
 ⟨Fr.swap hr h.fr m.m,h.inn.sub m.f⟩
theorem dM.mv {w w':World} {W F W' F':List Nat} {P:Pm} {vl vg vo vL:Value} (h:dM w W F P vl vg vo vL) (k:Kp W w w') (m:Mv w W F W' F'):dM w' W' F' P vl vg vo vL :=
 ⟨h.lives.kp k h.sl.fr,h.grp.kp k h.sg.fr,h.old.kp k h.so.fr,h.log.kp k h.sL.fr,h.sl.mv h.lives m,h.sg.mv h.grp m,h.so.mv h.old m,h.sL.mv h.log m⟩
theorem dM.kp {w w':World} {W F:List Nat} {P:Pm} {vl vg vo vL:Value} (h:dM w W F P vl vg vo vL) (k:Kp W w w'):dM w' W F P vl vg vo vL:=h.mv k (Mv.refl _ _ _)
theorem dM.below {w w':World} {W F:List Nat} {P:Pm} {vl vg vo vL:Value} (h:dM w W F P vl vg vo vL) (k:Below w.heap.size w w'):dM w' W F P vl vg vo vL:=h.kp (Kp.of_below k)
theorem dM.rd {w:World} {W F:List Nat} {P:Pm} {vl vg vo vL:Value} (h:dM w W F P vl vg vo vL):mg w P vl vg vo vL:=⟨h.lives,h.grp,h.old,h.log⟩
def gV (w:World) (W F:List Nat) (P:Pm) (cs:List Value):Prop:=∃ vl vg vo vL,cs=(pmC P vl vg vo vL).toList∧dM w W F P vl vg vo vL
theorem gV.len {w:World} {W F:List Nat} (P:Pm) (cs:List Value) (h:gV w W F P cs):cs.length=15:=by
 obtain⟨vl,vg,vo,vL,rfl,_⟩:=h;rfl
theorem gV.mv {w w':World} {W F W' F':List Nat} {P:Pm} {cs:List Value} (h:gV w W F P cs) (k:Kp W w w') (m:Mv w W F W' F'):gV w' W' F' P cs:=by
 obtain⟨vl,vg,vo,vL,rfl,h⟩:=h;exact⟨vl,vg,vo,vL,rfl,h.mv k m⟩
theorem JK {w:World} {W F:List Nat} {P:Pm} {vl vg vo vL:Value} (h:dM w W F P vl vg vo vL):∀ u∈(pmC P vl vg vo vL).toList,u.oneCell'=true:=by
 obtain⟨a1,c1,rfl,_⟩:=h.lives.shape
 obtain⟨a2,c2,rfl,_⟩:=h.grp.shape
 obtain⟨a3,c3,rfl,_⟩:=h.old.shape
 obtain⟨a4,c4,rfl,_⟩:=h.log.shape
 intro u hu;simp[pmC] at hu;rcases hu with rfl|rfl|rfl|rfl|rfl|rfl|rfl|rfl|rfl|rfl|rfl|rfl|rfl|rfl|rfl <;> rfl
structure Pms (w:World) (W F:List Nat) (v:Value) (l:List Pm):Prop where
 sl:Sl W F v
 rd:∃ xs,Rd w 15 v l.length xs∧Rws (gV w W F) l xs
theorem Pms.mv {w w':World} {W F W' F':List Nat} {v:Value} {l:List Pm} (h:Pms w W F v l) (k:Kp W w w') (m:Mv w W F W' F'):Pms w' W' F' v l:=by
 obtain⟨h1,xs,h2,h3⟩:=h
 exact⟨h1.mv h2 m,xs,h2.kp k h1.fr,h3.mono fun P cs q=>q.mv k m⟩
theorem Pms.kp {w w':World} {W F:List Nat} {v:Value} {l:List Pm} (h:Pms w W F v l) (k:Kp W w w'):Pms w' W F v l:=h.mv k (Mv.refl _ _ _)
theorem Pms.below {w w':World} {W F:List Nat} {v:Value} {l:List Pm} (h:Pms w W F v l) (k:Below w.heap.size w w'):Pms w' W F v l:=h.kp (Kp.of_below k)
theorem Pms.nil (w:World) (W F:List Nat):Pms w W F (Y O 0 0) []:=⟨Sl.nil _ _,[],⟨rfl,.inl ⟨rfl,rfl⟩⟩,rfl⟩
theorem Pms.shape {w:World} {W F:List Nat} {v:Value} {l:List Pm} (h:Pms w W F v l):∃ a cap,v=Y a l.length cap∧l.length≤cap∧cap≤9223372036854775807:=by
 obtain⟨xs,h2,_⟩:=h.rd
 obtain⟨a,cap,rfl,hn,hm,_⟩:=Rd.form h2
 exact⟨a,cap,rfl,hn,by unfold maxLen at hm;omega⟩
theorem Pms.get {w:World} {W F:List Nat} {a:Option Addr} {n cap:Nat} {l:List Pm} (h:Pms w W F (Y a n cap) l) (k:Nat) (hk:k<l.length) :
  ∃ b off vl vg vo vL,a=some ⟨b,off,O⟩∧b<w.heap.size∧dM w W F l[k] vl vg vo vL∧∀ j u,(pmC l[k] vl vg vo vL)[j]? = some u→w.cell? ⟨b,off+k*15+j,O⟩=some u:=by
 obtain⟨h1,xs,h2,h3⟩:=h
 obtain⟨cs,⟨vl,vg,vo,vL,rfl,q1⟩,q2⟩:=Rws.get gV.len h3 k hk
 rcases h2.2 with ⟨e,e2⟩|⟨b,off,cap',e,_,_,hb,hc⟩
 ·omega
 ·simp only[Value.slice.injEq] at e;obtain⟨rfl,rfl,rfl⟩:=e
  refine⟨b,off,vl,vg,vo,vL,rfl,hb,q1,fun j u hj=>?_⟩
  have:=hc _ _ (q2 j u (by rw[Array.getElem?_toList];exact hj))
  rwa [← Nat.add_assoc] at this
structure Rv where
 vl:Value
 vg:Value
 vo:Value
 vL:Value
 vv:Value
 va:Value
 vt:Value
def jT (R:Rp) (V:Rv):List Value:=[I J R.id,I J R.n,V.vl,I J R.status,I J R.epoch,I J R.view,I J R.normal,V.vg,V.vo,V.vL,I J (R.decided:Int)]
def gF (R:Rp) (V:Rv):List Value:=R.acks.map (Value.int .i64)++([V.vv,V.va]++(R.started.map Value.bool++[V.vt]))
theorem fq {w w':World} {base:Nat} {e:TypeId} {size:Nat} {v:Value} {n:Nat} {xs:List Value} {S:List Nat} (h:w.ownsRow base e size v n xs) (k:Kp S w w') (hS:Fr S v):w'.ownsRow base e size v n xs:=by
 refine⟨h.1,?_⟩
 rcases h.2 with h2|⟨g,cap,cur,rfl,q1,q2,q3⟩
 ·exact .inl h2
 ·exact .inr ⟨g,cap,cur,rfl,q1,(k.block g (lt_of_block q2) (hS g rfl)).trans q2,q3⟩
theorem Fr.iE {w:World} {base:Nat} {e t:TypeId} {size:Nat} {v:Value} {n:Nat} {xs:List Value} {b:Nat} {c:Array Value} {z:Nat×Nat} (h:w.ownsRow base e size v n xs) (hb:w.heap[b]? = some (.cells c t z)) (hne:t≠e):Fr [b] v:=by
 intro k hk hc;simp at hc;subst hc;rcases h.2 with ⟨rfl,_⟩|⟨g,cap,cur,rfl,q1,q2,q3⟩
 ·simp[Value.ownBlock] at hk
 ·simp[Value.ownBlock] at hk;subst hk;rw[hb] at q2;simp at q2;exact hne q2.2.1
theorem Fr.sub {S S':List Nat} {v:Value} (h:Fr S v) (hs:∀ x∈S',x∈S):Fr S' v:=fun x hx hc=>h x hx (hs x hc)
structure ay (w:World) (b bl:Nat) (W F:List Nat) (R:Rp) (V:Rv):Prop where
 sv:gX w b (jT R V) (gF R V) 63 R.sv
 ak:R.acks.length=7
 st:R.started.length=7
 lives:oh w V.vl bl R.lives
 log:w.ownsRow 0 66 3 V.vL R.log.length (aA R.log)
 out:l9 w 0 V.vt R.out
 grp:Ints w V.vg R.grp
 old:Ints w V.vo R.old
 aI:Pms w W F V.vv R.aI
 answers:Pms w W F V.va R.answers
 sg:Sl W F V.vg
 so:Sl W F V.vo
 wb:b∈W
 wl:bl∈W
 wL:In W V.vL
 wt:In W V.vt
 wf:∀ x∈W,x∈F
 fl:∀ x∈F,x<w.heap.size
 tab:Tab w
 t0:0∉F
section
variable {w w':World} {b bl:Nat} {W F:List Nat} {R R':Rp} {V V':Rv}
theorem ay.block (h:ay w b bl W F R V):w.heap[b]? = some (.cells (jT R V++(svC R.sv++gF R V)).toArray 63 (0,0)):=h.sv.block
theorem ay.lb (h:ay w b bl W F R V):b<w.heap.size:=lt_of_block h.block
theorem ay.ents (h:ay w b bl W F R V):gW w V.vL R.log:=Rd.bR h.log
theorem ay.wlt (h:ay w b bl W F R V):∀ x∈W,x<w.heap.size:=fun x hx=>h.fl x (h.wf x hx)
theorem ay.free (h:ay w b bl W F R V) (j:Nat):w.frozen? ⟨b,j,O⟩=false:=h.sv.free j
theorem ay.cell (h:ay w b bl W F R V) (j:Nat):w.cell? ⟨b,j,O⟩=(jT R V++(svC R.sv++gF R V))[j]?:=by
 simp[World.cell?,h.block]
theorem ay.pre (h:ay w b bl W F R V) (j:Nat) (hj:j<11):w.cell? ⟨b,j,O⟩=(jT R V)[j]?:=by
 rw[h.cell,List.getElem?_append_left (by simpa [jT] using hj)]
theorem ay.post (h:ay w b bl W F R V) (j:Nat):w.cell? ⟨b,55+j,O⟩=(gF R V)[j]?:=by
 have h1:=h.sv.v26;have h2:=h.sv.s9;have hl:(svC R.sv).length=44:=by rw[qc];omega
 rw[h.cell,List.getElem?_append_right (by simp[jT];omega),List.getElem?_append_right (by simp[jT,hl];omega)]
 congr 1;simp[jT,hl];omega
theorem ay.c0 (h:ay w b bl W F R V):w.cell? ⟨b,0,O⟩=some (I J R.id):=h.pre 0 (by omega)
theorem ay.c1 (h:ay w b bl W F R V):w.cell? ⟨b,1,O⟩=some (I J R.n):=h.pre 1 (by omega)
theorem ay.c2 (h:ay w b bl W F R V):w.cell? ⟨b,2,O⟩=some V.vl:=h.pre 2 (by omega)
theorem ay.c3 (h:ay w b bl W F R V):w.cell? ⟨b,3,O⟩=some (I J R.status):=h.pre 3 (by omega)
theorem ay.c4 (h:ay w b bl W F R V):w.cell? ⟨b,4,O⟩=some (I J R.epoch):=h.pre 4 (by omega)
theorem ay.c5 (h:ay w b bl W F R V):w.cell? ⟨b,5,O⟩=some (I J R.view):=h.pre 5 (by omega)
theorem ay.c6 (h:ay w b bl W F R V):w.cell? ⟨b,6,O⟩=some (I J R.normal):=h.pre 6 (by omega)
theorem ay.c7 (h:ay w b bl W F R V):w.cell? ⟨b,7,O⟩=some V.vg:=h.pre 7 (by omega)
theorem ay.c8 (h:ay w b bl W F R V):w.cell? ⟨b,8,O⟩=some V.vo:=h.pre 8 (by omega)
theorem ay.c9 (h:ay w b bl W F R V):w.cell? ⟨b,9,O⟩=some V.vL:=h.pre 9 (by omega)
theorem ay.c10 (h:ay w b bl W F R V):w.cell? ⟨b,10,O⟩=some (I J (R.decided:Int)):=h.pre 10 (by omega)
theorem ay.su (h:ay w b bl W F R V) (j:Nat) (hj:j<7):w.cell? ⟨b,55+j,O⟩=some (I J (R.acks[j]'(by rw[h.ak];exact hj))):=by
 have:=h.ak
 rw[h.post,gF,List.getElem?_append_left (by simp;omega),List.getElem?_map,List.getElem?_eq_getElem (by omega)];rfl
theorem ay.c62 (h:ay w b bl W F R V):w.cell? ⟨b,62,O⟩=some V.vv:=by
 have:=h.ak
 rw[show (62:Nat)=55+7 from rfl,h.post,gF,List.getElem?_append_right (by simp;omega)];simp[this]
theorem ay.c63 (h:ay w b bl W F R V):w.cell? ⟨b,63,O⟩=some V.va:=by
 have:=h.ak
 rw[show (63:Nat)=55+8 from rfl,h.post,gF,List.getElem?_append_right (by simp;omega)];simp[this]
theorem ay.cst (h:ay w b bl W F R V) (j:Nat) (hj:j<7):w.cell? ⟨b,64+j,O⟩=some (.bool (R.started[j]'(by rw[h.st];exact hj))):=by
 have h1:=h.ak;have h2:=h.st;rw[show 64+j=55+(9+j) by omega,h.post,gF,List.getElem?_append_right (by simp;omega),List.getElem?_append_right (by simp;omega),List.getElem?_append_left (by simp;omega),List.getElem?_map]
 simp[h1,show 9+j-7-2=j by omega,h2,hj]
theorem ay.c71 (h:ay w b bl W F R V):w.cell? ⟨b,71,O⟩=some V.vt:=by
 have h1:=h.ak;have h2:=h.st;rw[show (71:Nat)=55+16 from rfl,h.post,gF,List.getElem?_append_right (by simp;omega),List.getElem?_append_right (by simp;omega),List.getElem?_append_right (by simp;omega)];simp[h1,h2]
theorem ay.g7 (h:ay w b bl W F R V):∃ a cap,V.vg=Y a R.grp.length cap:=by obtain⟨a,cap,q,_⟩:=h.grp.shape;exact⟨a,cap,q⟩
theorem ay.g8 (h:ay w b bl W F R V):∃ a cap,V.vo=Y a R.old.length cap:=by obtain⟨a,cap,q,_⟩:=h.old.shape;exact⟨a,cap,q⟩
theorem ay.g9 (h:ay w b bl W F R V):∃ a cap,V.vL=Y a R.log.length cap:=by obtain⟨a,cap,q,_⟩:=h.ents.shape;exact⟨a,cap,q⟩
theorem ay.g2 (h:ay w b bl W F R V):∃ cap,V.vl=Y (some ⟨bl,0,O⟩) R.lives.length cap:=h.lives.2
theorem ay.g62 (h:ay w b bl W F R V):∃ a cap,V.vv=Y a R.aI.length cap:=by obtain⟨a,cap,q,_⟩:=h.aI.shape;exact⟨a,cap,q⟩
theorem ay.g63 (h:ay w b bl W F R V):∃ a cap,V.va=Y a R.answers.length cap:=by obtain⟨a,cap,q,_⟩:=h.answers.shape;exact⟨a,cap,q⟩
theorem ay.g71 (h:ay w b bl W F R V):∃ a cap,V.vt=Y a R.out.length cap:=by obtain⟨a,cap,q,_⟩:=Rd.form (Rd.bR h.out);exact⟨a,cap,q⟩
theorem kY {l:List Int} {v:Value} (h:oh w v bl l):∃ c z,w.heap[bl]? = some (.cells c 3 z):=by
 obtain⟨h1,cap,rfl⟩:=h
 rcases h1.2 with ⟨h2,_⟩|⟨g,cap',cur,e,q1,q2,q3⟩
 ·simp at h2
 ·simp at e;obtain⟨rfl,_⟩:=e;exact⟨_,_,q2⟩
theorem ay.d1 (h:ay w b bl W F R V):b≠bl:=by
 obtain⟨c,z,q⟩:=kY h.lives
 intro e;have:=h.block
 rw[e,q] at this;simp at this
theorem In.fr {S F:List Nat} {v:Value} (h:In F v) (hS:∀ x∈S,x∉F):Fr S v:=fun k hk hc=>hS k hc (h k hk)
theorem dM.far {S:List Nat} {P:Pm} {vl vg vo vL:Value} (h:dM w W F P vl vg vo vL) (k:Kp S w w') (hS:∀ x∈S,x∉F):dM w' W F P vl vg vo vL :=
 ⟨h.lives.kp k (h.sl.inn.fr hS),h.grp.kp k (h.sg.inn.fr hS),h.old.kp k (h.so.inn.fr hS),h.log.kp k (h.sL.inn.fr hS),h.sl,h.sg,h.so,h.sL⟩
theorem Pms.far {S:List Nat} {v:Value} {l:List Pm} (h:Pms w W F v l) (k:Kp S w w') (hS:∀ x∈S,x∉F):Pms w' W F v l:=by
 obtain⟨h1,xs,h2,h3⟩:=h
 exact⟨h1,xs,h2.kp k (h1.inn.fr hS),h3.mono fun P cs q=>by obtain⟨vl,vg,vo,vL,rfl,q⟩:=q;exact⟨vl,vg,vo,vL,rfl,q.far k hS⟩⟩
theorem ay.far (h:ay w b bl W F R V) {S:List Nat} (k:Kp S w w') (hS:∀ x∈S,x∉F) (h0:0∉S):ay w' b bl W F R V :=
  ⟨h.sv.kp k (fun hc=>hS b hc (h.wf b h.wb)),h.ak,h.st,h.lives.kp k (fun hc=>hS bl hc (h.wf bl h.wl)),fq h.log k ((h.wL.sub h.wf).fr hS),fq h.out k ((h.wt.sub h.wf).fr hS),
   h.grp.kp k (h.sg.inn.fr hS),h.old.kp k (h.so.inn.fr hS),h.aI.far k hS,h.answers.far k hS,h.sg,h.so,h.wb,h.wl,h.wL,h.wt,h.wf,fun x hx=>Nat.lt_of_lt_of_le (h.fl x hx) k.size,h.tab.kp k h0,h.t0⟩
theorem ay.below (h:ay w b bl W F R V) (k:Below w.heap.size w w'):ay w' b bl W F R V :=
 h.far (S:=[]) (Kp.of_below k) (by simp) (by simp)
theorem Sl.more {F':List Nat} {v:Value} (h:Sl W F v) (hf:∀ x∈F,x∈F'):Sl W F' v:=⟨h.fr,h.inn.sub hf⟩
theorem dM.more {F':List Nat} {P:Pm} {vl vg vo vL:Value} (h:dM w W F P vl vg vo vL) (hf:∀ x∈F,x∈F'):dM w W F' P vl vg vo vL :=
 ⟨h.lives,h.grp,h.old,h.log,h.sl.more hf,h.sg.more hf,h.so.more hf,h.sL.more hf⟩
theorem Pms.more {F':List Nat} {v:Value} {l:List Pm} (h:Pms w W F v l) (hf:∀ x∈F,x∈F'):Pms w W F' v l:=by
 obtain⟨h1,xs,h2,h3⟩:=h
 exact⟨h1.more hf,xs,h2,h3.mono fun P cs q=>by obtain⟨vl,vg,vo,vL,rfl,q⟩:=q;exact⟨vl,vg,vo,vL,rfl,q.more hf⟩⟩
theorem ay.more (h:ay w b bl W F R V) {F':List Nat} (hf:∀ x∈F,x∈F') (hl:∀ x∈F',x<w.heap.size) (h0:0∉F'):ay w b bl W F' R V :=
 ⟨h.sv,h.ak,h.st,h.lives,h.log,h.out,h.grp,h.old,h.aI.more hf,h.answers.more hf,h.sg.more hf,h.so.more hf,h.wb,h.wl,h.wL,h.wt,fun x hx=>hf x (h.wf x hx),hl,h.tab,h0⟩
theorem ay.kW (_h:ay w b bl W F R V) (k:Kp [b] w w'):Kp W w w':=k.wid (by intro x hx;simp at hx;subst hx;exact _h.wb)
theorem ay.re (h:ay w b bl W F R V) (k:Kp [b] w w') (hsv:gX w' b (jT R' V') (gF R' V') 63 R'.sv) (ak:R'.acks.length=7) (st:R'.started.length=7)
  (hl:R'.lives=R.lives) (hvl:V'.vl=V.vl) (hL:w.ownsRow 0 66 3 V'.vL R'.log.length (aA R'.log)) (hwL:In W V'.vL) (ho:l9 w 0 V'.vt R'.out) (hwt:In W V'.vt)
  (hg:Ints w V'.vg R'.grp) (hsg:Sl W F V'.vg) (hold:Ints w V'.vo R'.old) (hso:Sl W F V'.vo) (hv:Pms w W F V'.vv R'.aI) (ha:Pms w W F V'.va R'.answers):ay w' b bl W F R' V':=by
 have kW:=h.kW k;refine⟨hsv,ak,st,?_,fq hL k (Fr.iE hL h.block (by decide)),fq ho k (Fr.iE ho h.block (by decide)),hg.kp kW hsg.fr,hold.kp kW hso.fr,hv.kp kW,ha.kp kW,hsg,hso,h.wb,h.wl,hwL,hwt,h.wf,fun x hx=>Nat.lt_of_lt_of_le (h.fl x hx) k.size,h.tab.kp kW (fun hc=>h.t0 (h.wf 0 hc)),h.t0⟩
 rw[hl,hvl];exact h.lives.kp k (by simp;exact fun hc=>h.d1 hc.symm)
theorem gX.pI {pre post:List Value} {t:TypeId} {S:Sv} (h:gX w b pre post t S) (j:Nat) (v:Value) (hj:j<pre.length):gX (w.setCell ⟨b,j,O⟩ v) b (pre.set j v) post t S:=by
 refine⟨?_,h.v26,h.s9,h.small⟩
 rw[heap_setCell_same w b _ _ _ v h.block]
 congr 2
 rw[List.setIfInBounds_toArray,List.set_append,if_pos hj]
theorem gX.rR {pre post:List Value} {t:TypeId} {S:Sv} (h:gX w b pre post t S) (j:Nat) (v:Value):gX (w.setCell ⟨b,pre.length+44+j,O⟩ v) b pre (post.set j v) t S:=by
 have hl:(svC S).length=44:=by rw[qc,h.v26,h.s9]
 refine⟨?_,h.v26,h.s9,h.small⟩
 rw[heap_setCell_same w b _ _ _ v h.block]
 congr 2
 rw[List.setIfInBounds_toArray,List.set_append,if_neg (by omega),List.set_append,if_neg (by omega)]
 congr 5;omega
theorem ay.qo (h:ay w b bl W F R V) (j:Nat) (v:Value):Kp W w (w.setCell ⟨b,j,O⟩ v):=(Kp.refl _ _).set b j v (.inl h.wb)
theorem ay.k1 (_h:ay w b bl W F R V) (j:Nat) (v:Value):Kp [b] w (w.setCell ⟨b,j,O⟩ v):=(Kp.refl _ _).set b j v (.inl (by simp))
theorem ay.iW (h:ay w b bl W F R V) (x:Int):ay (w.setCell ⟨b,3,O⟩ (I J x)) b bl W F { R with status:=x } V :=
 h.re (h.k1 _ _) (h.sv.pI 3 _ (by simp[jT])) h.ak h.st rfl rfl h.log h.wL h.out h.wt h.grp h.sg h.old h.so h.aI h.answers
theorem ay.Av (h:ay w b bl W F R V) (x:Int):ay (w.setCell ⟨b,4,O⟩ (I J x)) b bl W F { R with epoch:=x } V :=
 h.re (h.k1 _ _) (h.sv.pI 4 _ (by simp[jT])) h.ak h.st rfl rfl h.log h.wL h.out h.wt h.grp h.sg h.old h.so h.aI h.answers
theorem ay.yC (h:ay w b bl W F R V) (x:Int):ay (w.setCell ⟨b,5,O⟩ (I J x)) b bl W F { R with view:=x } V :=
 h.re (h.k1 _ _) (h.sv.pI 5 _ (by simp[jT])) h.ak h.st rfl rfl h.log h.wL h.out h.wt h.grp h.sg h.old h.so h.aI h.answers
theorem ay.xu (h:ay w b bl W F R V) (x:Int):ay (w.setCell ⟨b,6,O⟩ (I J x)) b bl W F { R with normal:=x } V :=
 h.re (h.k1 _ _) (h.sv.pI 6 _ (by simp[jT])) h.ak h.st rfl rfl h.log h.wL h.out h.wt h.grp h.sg h.old h.so h.aI h.answers
theorem ay.LX (h:ay w b bl W F R V) (v:Value) (g:List Int) (hg:Ints w v g) (hs:Sl W F v):ay (w.setCell ⟨b,7,O⟩ v) b bl W F { R with grp:=g } { V with vg:=v } :=
 h.re (h.k1 _ _) (h.sv.pI 7 _ (by simp[jT])) h.ak h.st rfl rfl h.log h.wL h.out h.wt hg hs h.old h.so h.aI h.answers
theorem ay.LY (h:ay w b bl W F R V) (v:Value) (g:List Int) (hg:Ints w v g) (hs:Sl W F v):ay (w.setCell ⟨b,8,O⟩ v) b bl W F { R with old:=g } { V with vo:=v } :=
 h.re (h.k1 _ _) (h.sv.pI 8 _ (by simp[jT])) h.ak h.st rfl rfl h.log h.wL h.out h.wt h.grp h.sg hg hs h.aI h.answers
theorem ay.tV (h:ay w b bl W F R V) (x:Nat):ay (w.setCell ⟨b,10,O⟩ (I J (x:Int))) b bl W F { R with decided:=x } V :=
 h.re (h.k1 _ _) (h.sv.pI 10 _ (by simp[jT])) h.ak h.st rfl rfl h.log h.wL h.out h.wt h.grp h.sg h.old h.so h.aI h.answers
theorem GY (h:R.acks.length=7) (v:Value):(gF R V).set 7 v=gF R { V with vv:=v }:=by
 unfold gF;rw[List.set_append,if_neg (by simp[h])];simp[h]
theorem GZ (h:R.acks.length=7) (v:Value):(gF R V).set 8 v=gF R { V with va:=v }:=by
 unfold gF;rw[List.set_append,if_neg (by simp[h])];simp[h]
theorem xM (h:R.acks.length=7) (hs:R.started.length=7) (v:Value):(gF R V).set 16 v=gF R { V with vt:=v }:=by
 unfold gF;rw[List.set_append,if_neg (by simp[h]),List.set_append,if_neg (by simp[h]),List.set_append,if_neg (by simp[h,hs])];simp[h,hs]
theorem Dr (h:R.acks.length=7) (j:Nat) (hj:j<7) (x:Int):(gF R V).set j (I J x)=gF { R with acks:=R.acks.set j x } V:=by
 unfold gF;rw[List.set_append,if_pos (by simp[h,hj]),List.map_set]
theorem ET (h:R.acks.length=7) (hs:R.started.length=7) (j:Nat) (hj:j<7) (x:Bool):(gF R V).set (9+j) (.bool x)=gF { R with started:=R.started.set j x } V:=by
 unfold gF;rw[List.set_append,if_neg (by simp[h];omega),List.set_append,if_neg (by simp[h];omega),List.set_append,if_pos (by simp[h,hs];omega),List.map_set]
 simp[h,show 9+j-7-2=j by omega]
theorem ay.oP (h:ay w b bl W F R V) (v:Value) (l:List Pm) (hl:Pms w W F v l):ay (w.setCell ⟨b,62,O⟩ v) b bl W F { R with aI:=l } { V with vv:=v } :=
 h.re (h.k1 _ _) (by have:=h.sv.rR 7 v;rw[GY h.ak] at this;exact this) h.ak h.st rfl rfl h.log h.wL h.out h.wt h.grp h.sg h.old h.so hl h.answers
theorem ay.pY (h:ay w b bl W F R V) (v:Value) (l:List Pm) (hl:Pms w W F v l):ay (w.setCell ⟨b,63,O⟩ v) b bl W F { R with answers:=l } { V with va:=v } :=
 h.re (h.k1 _ _) (by have:=h.sv.rR 8 v;rw[GZ h.ak] at this;exact this) h.ak h.st rfl rfl h.log h.wL h.out h.wt h.grp h.sg h.old h.so h.aI hl
theorem ay.eX (h:ay w b bl W F R V) (j:Nat) (hj:j<7) (x:Int):ay (w.setCell ⟨b,55+j,O⟩ (I J x)) b bl W F { R with acks:=R.acks.set j x } V :=
 h.re (h.k1 _ _) (by have:=h.sv.rR j (I J x);rw[Dr h.ak j hj] at this;exact this) (by simpa using h.ak) h.st rfl rfl h.log h.wL h.out h.wt h.grp h.sg h.old h.so h.aI h.answers
theorem ay.setSt (h:ay w b bl W F R V) (j:Nat) (hj:j<7) (x:Bool):ay (w.setCell ⟨b,64+j,O⟩ (.bool x)) b bl W F { R with started:=R.started.set j x } V :=
 h.re (h.k1 _ _) (by have:=h.sv.rR (9+j) (.bool x);rw[ET h.ak h.st j hj,show (jT R V).length+44+(9+j)=64+j by simp[jT];omega] at this;exact this) h.ak (by simpa using h.st) rfl rfl h.log h.wL h.out h.wt h.grp h.sg h.old h.so h.aI h.answers
theorem ay.IC (h:ay w b bl W F R V) (j:Nat) (x:Int):ay (w.setCell ⟨bl,j,O⟩ (I J x)) b bl W F { R with lives:=R.lives.set j x } V:=by
 have k:Kp [bl] w (w.setCell ⟨bl,j,O⟩ (I J x)):=(Kp.refl _ _).set bl j _ (.inl (by simp))
 have kW:Kp W w (w.setCell ⟨bl,j,O⟩ (I J x)):=(Kp.refl _ _).set bl j _ (.inl h.wl)
 obtain⟨c,z,q⟩:=kY h.lives
 have hd:=h.d1;refine⟨h.sv.kp k (by simpa using hd),h.ak,h.st,h.lives.put j x,fq h.log k (Fr.iE h.log q (by decide)),fq h.out k (Fr.iE h.out q (by decide)),h.grp.kp kW h.sg.fr,h.old.kp kW h.so.fr,h.aI.kp kW,h.answers.kp kW,h.sg,h.so,h.wb,h.wl,h.wL,h.wt,h.wf,fun x hx=>Nat.lt_of_lt_of_le (h.fl x hx) k.size,h.tab.kp kW (fun hc=>h.t0 (h.wf 0 hc)),h.t0⟩
theorem lend {v:Value} {g:Nat} {W:List Nat} (h:In W v) (hat:v.ownBlock=some g∨w.heap.size≤g):g∈W∨w.heap.size≤g:=hat.imp (h g) id
theorem Kp.grown {v:Value} {W:List Nat} (hg:w.grownBy w' v.ownBlock) (h:In W v):Kp W w w' :=
 ⟨hg.os,hg.tape,hg.output,hg.size,fun k hk hn=>hg.block k hk (fun hc=>hn (h k hc.symm))⟩
theorem ay.Li {w1:World} {g cap:Nat} {l:List En} (h:ay w b bl W F R V) (k:Kp W w w1) (kb:w1.heap[b]? = w.heap[b]?) (kl:w1.heap[bl]? = w.heap[bl]?) (ko:l9 w1 0 V.vt R.out)
  (hown:w1.ownsRow 0 66 3 (Y (some ⟨g,0,O⟩) l.length cap) l.length (aA l)) (hat:g∈W∨w.heap.size≤g) :
  ay (w1.setCell ⟨b,9,O⟩ (Y (some ⟨g,0,O⟩) l.length cap)) b bl (g :: W) (g :: F) { R with log:=l } { V with vL:=Y (some ⟨g,0,O⟩) l.length cap }∧Mv w W F (g :: W) (g :: F)∧Kp W w (w1.setCell ⟨b,9,O⟩ (Y (some ⟨g,0,O⟩) l.length cap)):=by
 have hm:Mv w W F (g :: W) (g :: F):=⟨fun x hx=>by simp at hx;rcases hx with rfl|hx;exact hat;exact .inl hx,fun x hx=>by simp[hx],fun x hx=>by simp at hx;rcases hx with rfl|hx;exact hat.imp (h.wf x) id;exact .inl hx⟩
 have hgl:g<w1.heap.size:=(hown.lt g rfl).2
 have hg0:g≠0:=by
  rintro rfl;rcases hat with q|q
  ·exact h.t0 (h.wf 0 q)
  ·have:=h.lb;omega
 have hsv1:gX w1 b (jT R V) (gF R V) 63 R.sv:=⟨kb.trans h.block,h.sv.v26,h.sv.s9,h.sv.small⟩
 have k2:Kp [b] w1 (w1.setCell ⟨b,9,O⟩ (Y (some ⟨g,0,O⟩) l.length cap)):=(Kp.refl _ _).set b 9 _ (.inl (by simp))
 have k2W:Kp (g :: W) w1 (w1.setCell ⟨b,9,O⟩ (Y (some ⟨g,0,O⟩) l.length cap)):=k2.wid (by intro x hx;simp at hx;subst hx;simp[h.wb])
 have hk3:Kp W w (w1.setCell ⟨b,9,O⟩ (Y (some ⟨g,0,O⟩) l.length cap)):=k.trans' (k2.wid (by intro x hx;simp at hx;subst hx;exact h.wb))
 have hkb:w1.heap[b]? = some (.cells (jT R V++(svC R.sv++gF R V)).toArray 63 (0,0)):=kb.trans h.block
 have hfl:∀ x∈g :: F,x<(w1.setCell ⟨b,9,O⟩ (Y (some ⟨g,0,O⟩) l.length cap)).heap.size:=fun x hx=>by
  simp at hx;have:=k2.size
  rcases hx with rfl|hx
  ·omega
  ·have:=h.fl x hx
   have:=k.size
   omega
 have hlv:oh w1 V.vl bl R.lives:=by
  obtain⟨h1,c,hc⟩:=h.lives
  refine⟨⟨h1.1,?_⟩,c,hc⟩
  rcases h1.2 with h2|⟨g',cap',cur,e,q1,q2,q3⟩
  ·exact .inl h2
  ·have:g'=bl:=by rw[hc] at e;simp at e;exact e.1.symm
   subst this;exact .inr ⟨_,cap',cur,e,q1,kl.trans q2,q3⟩
 refine⟨⟨hsv1.pI 9 _ (by simp[jT]),h.ak,h.st,hlv.kp k2 (by simp;exact fun hc=>h.d1 hc.symm),fq hown k2 (Fr.iE hown hkb (by decide)),fq ko k2 (Fr.iE ko hkb (by decide)),
  ?_,?_,?_,?_,?_,?_,by simp[h.wb],by simp[h.wl],?_,h.wt.sub (by simp;intro a ha;exact .inr ha),fun x hx=>by simp at hx ⊢;exact hx.imp id (h.wf x),hfl,?_,by simp;exact⟨fun hc=>hg0 hc.symm,h.t0⟩⟩,hm,hk3⟩
 ·exact h.grp.kp hk3 h.sg.fr
 ·exact h.old.kp hk3 h.so.fr
 ·exact h.aI.mv hk3 hm
 ·exact h.answers.mv hk3 hm
 ·exact h.sg.mv h.grp hm
 ·exact h.so.mv h.old hm
 ·intro x hx;simp[Value.ownBlock] at hx;simp[hx]
 ·exact h.tab.kp hk3 (fun hc=>h.t0 (h.wf 0 hc))
theorem ay.Pe {w1:World} {g cap:Nat} {l:List (Int×ByteArray)} (h:ay w b bl W F R V) (k:Kp W w w1) (kb:w1.heap[b]? = w.heap[b]?) (kl:w1.heap[bl]? = w.heap[bl]?) (ko:w1.ownsRow 0 66 3 V.vL R.log.length (aA R.log))
  (hown:l9 w1 0 (Y (some ⟨g,0,O⟩) l.length cap) l) (hat:g∈W∨w.heap.size≤g) :
  ay (w1.setCell ⟨b,71,O⟩ (Y (some ⟨g,0,O⟩) l.length cap)) b bl (g :: W) (g :: F) { R with out:=l } { V with vt:=Y (some ⟨g,0,O⟩) l.length cap }∧Mv w W F (g :: W) (g :: F)∧Kp W w (w1.setCell ⟨b,71,O⟩ (Y (some ⟨g,0,O⟩) l.length cap)):=by
 have hm:Mv w W F (g :: W) (g :: F):=⟨fun x hx=>by simp at hx;rcases hx with rfl|hx;exact hat;exact .inl hx,fun x hx=>by simp[hx],fun x hx=>by simp at hx;rcases hx with rfl|hx;exact hat.imp (h.wf x) id;exact .inl hx⟩
 have hgl:g<w1.heap.size:=(hown.lt g rfl).2
 have hg0:g≠0:=by
  rintro rfl;rcases hat with q|q
  ·exact h.t0 (h.wf 0 q)
  ·have:=h.lb;omega
 have hsv1:gX w1 b (jT R V) (gF R V) 63 R.sv:=⟨kb.trans h.block,h.sv.v26,h.sv.s9,h.sv.small⟩
 have k2:Kp [b] w1 (w1.setCell ⟨b,71,O⟩ (Y (some ⟨g,0,O⟩) l.length cap)):=(Kp.refl _ _).set b 71 _ (.inl (by simp))
 have k2W:Kp (g :: W) w1 (w1.setCell ⟨b,71,O⟩ (Y (some ⟨g,0,O⟩) l.length cap)):=k2.wid (by intro x hx;simp at hx;subst hx;simp[h.wb])
 have hk3:Kp W w (w1.setCell ⟨b,71,O⟩ (Y (some ⟨g,0,O⟩) l.length cap)):=k.trans' (k2.wid (by intro x hx;simp at hx;subst hx;exact h.wb))
 have hkb:w1.heap[b]? = some (.cells (jT R V++(svC R.sv++gF R V)).toArray 63 (0,0)):=kb.trans h.block
 have hfl:∀ x∈g :: F,x<(w1.setCell ⟨b,71,O⟩ (Y (some ⟨g,0,O⟩) l.length cap)).heap.size:=fun x hx=>by
  simp at hx;have:=k2.size
  rcases hx with rfl|hx
  ·omega
  ·have:=h.fl x hx
   have:=k.size
   omega
 have hlv:oh w1 V.vl bl R.lives:=by
  obtain⟨h1,c,hc⟩:=h.lives
  refine⟨⟨h1.1,?_⟩,c,hc⟩
  rcases h1.2 with h2|⟨g',cap',cur,e,q1,q2,q3⟩
  ·exact .inl h2
  ·have:g'=bl:=by rw[hc] at e;simp at e;exact e.1.symm
   subst this;exact .inr ⟨_,cap',cur,e,q1,kl.trans q2,q3⟩
 refine⟨⟨by have q:=hsv1.rR 16 (Y (some ⟨g,0,O⟩) l.length cap);rw[xM h.ak h.st] at q;exact q,h.ak,h.st,hlv.kp k2 (by simp;exact fun hc=>h.d1 hc.symm),fq ko k2 (Fr.iE ko hkb (by decide)),fq hown k2 (Fr.iE hown hkb (by decide)),
  ?_,?_,?_,?_,?_,?_,by simp[h.wb],by simp[h.wl],h.wL.sub (by simp;intro a ha;exact .inr ha),?_,fun x hx=>by simp at hx ⊢;exact hx.imp id (h.wf x),hfl,?_,by simp;exact⟨fun hc=>hg0 hc.symm,h.t0⟩⟩,hm,hk3⟩
 ·exact h.grp.kp hk3 h.sg.fr
 ·exact h.old.kp hk3 h.so.fr
 ·exact h.aI.mv hk3 hm
 ·exact h.answers.mv hk3 hm
 ·exact h.sg.mv h.grp hm
 ·exact h.so.mv h.old hm
 ·intro x hx;simp[Value.ownBlock] at hx;simp[hx]
 ·exact h.tab.kp hk3 (fun hc=>h.t0 (h.wf 0 hc))
theorem ay.Au (h:ay w b bl W F R V):ay (dF w b 55 [I J 0,I J 0,I J 0,I J 0,I J 0,I J 0,I J 0]) b bl W F { R with acks:=yH } V:=by
 have q:=((((((h.eX 0 (by omega) 0).eX 1 (by omega) 0).eX 2 (by omega) 0).eX 3 (by omega) 0).eX 4 (by omega) 0).eX 5 (by omega) 0).eX 6 (by omega) 0
 have e:((((((R.acks.set 0 0).set 1 0).set 2 0).set 3 0).set 4 0).set 5 0).set 6 0=yH:=by
  have:=h.ak
  match hR:R.acks,this with
  | [_,_,_,_,_,_,_],_=>rfl
 simp only[e] at q;exact q
theorem ay.Po (h:ay w b bl W F R V):ay (dF w b 64 [.bool false,.bool false,.bool false,.bool false,.bool false,.bool false,.bool false]) b bl W F { R with started:=st0 } V:=by
 have q:=((((((h.setSt 0 (by omega) false).setSt 1 (by omega) false).setSt 2 (by omega) false).setSt 3 (by omega) false).setSt 4 (by omega) false).setSt 5 (by omega) false).setSt 6 (by omega) false
 have e:((((((R.started.set 0 false).set 1 false).set 2 false).set 3 false).set 4 false).set 5 false).set 6 false=st0:=by
  have:=h.st
  match hR:R.started,this with
  | [_,_,_,_,_,_,_],_=>rfl
 simp only[e] at q;exact q
theorem yO {t:TypeId}:∀ (vs A B C:List Value) (w:World),w.heap[b]? = some (.cells (A++(B++C)).toArray t (0,0))→B.length=vs.length→(dF w b A.length vs).heap[b]? = some (.cells (A++(vs++C)).toArray t (0,0))
 | [],A,B,C,w,h,hl=>by
  obtain rfl:B=[]:=List.length_eq_zero_iff.1 (by simpa using hl)
  exact h
 | v :: vs,A,x :: B,C,w,h,hl=>by
  have h1:=heap_setCell_same w b A.length _ _ v h;rw[List.setIfInBounds_toArray,List.set_append,if_neg (by omega),Nat.sub_self] at h1
  have h2:=yO (t:=t) vs (A++[v]) B C (w.setCell ⟨b,A.length,O⟩ v) (by rw[h1];simp) (by simpa using hl)
  rw[show (A++[v]).length=A.length+1 by simp] at h2
  show (dF (w.setCell ⟨b,A.length,O⟩ v) b (A.length+1) vs).heap[b]? = _
  rw[h2];simp
theorem oM:∀ (l:List Value) (j:Nat) (w a:World),Kp [b] a w→Kp [b] a (dF w b j l)
 | [],_,_,_,h=>h
 | v :: l,j,w,a,h=>oM l (j+1) (w.setCell ⟨b,j,O⟩ v) a (h.set b j v (.inl (by simp)))
theorem NM:(svC sv0).length=44:=rfl
theorem ay.Pp (h:ay w b bl W F R V):ay (dF w b 11 (svC sv0)) b bl W F { R with sv:=sv0 } V:=by
 have hl:(svC R.sv).length=44:=by rw[qc,h.sv.v26,h.sv.s9]
 have q:=yO (svC sv0) (jT R V) (svC R.sv) (gF R V) w h.block (by rw[hl,NM])
 refine h.re (oM _ _ _ _ (Kp.refl _ _)) ⟨q,rfl,rfl,?_⟩ h.ak h.st rfl rfl h.log h.wL h.out h.wt h.grp h.sg h.old h.so h.aI h.answers;intro x hx;have:=List.eq_of_mem_replicate hx
 omega
theorem ay.L8 {S:Sv} (h:ay w b bl W F R V) (hs:gX w' b (jT R V) (gF R V) 63 S) (k:Kp [b] w w'):ay w' b bl W F { R with sv:=S } V :=
 h.re k hs h.ak h.st rfl rfl h.log h.wL h.out h.wt h.grp h.sg h.old h.so h.aI h.answers
def Rst (w w':World) (b bl:Nat) (W F:List Nat) (R':Rp):Prop:=∃ W' F' V',ay w' b bl W' F' R' V'∧Kp W w w'∧Mv w W F W' F'
theorem Rst.of (h:ay w' b bl W F R' V') (k:Kp W w w'):Rst w w' b bl W F R':=⟨W,F,V',h,k,Mv.refl _ _ _⟩
theorem Rst.refl (h:ay w b bl W F R V):Rst w w b bl W F R:=Rst.of h (Kp.refl _ _)
theorem Kp.mv {W W' F F':List Nat} {w w1 w2:World} (k:Kp W w w1) (m:Mv w W F W' F') (k2:Kp W' w1 w2):Kp W w w2 :=
 k.trans k2 fun x hx hlt=>by
  rcases m.m x hx with q|q
  ·exact q
  ·omega
theorem Rst.step {w1:World} {W1 F1:List Nat} (k:Kp W w w1) (m:Mv w W F W1 F1) (h:Rst w1 w' b bl W1 F1 R'):Rst w w' b bl W F R':=by
 obtain⟨W2,F2,V2,h1,k2,m2⟩:=h
 exact⟨W2,F2,V2,h1,k.mv m k2,m.trans m2 k.size⟩
theorem Rst.pre {w1:World} (k:Kp W w w1) (h:Rst w1 w' b bl W F R'):Rst w w' b bl W F R':=Rst.step k (Mv.refl _ _ _) h
theorem Rst.below {w1:World} (h:Rst w w1 b bl W F R') (k:Below w1.heap.size w1 w'):Rst w w' b bl W F R':=by
 obtain⟨W2,F2,V2,h1,k2,m2⟩:=h
 exact⟨W2,F2,V2,h1.below k,k2.aS k,m2⟩
end
def jd (n:Int) (e:En):Prop:=1≤e.1∧e.1≤9∧1≤e.2.1∧e.2.1≤999∧jH e.2.2.data.toList n=true∧e.2.2.size≤10
def fE (n:Int) (g:List Int):Prop:=g.length≤5∧∀ x∈g,0≤x∧x<n
structure dQ (n:Int) (P:Pm):Prop where
 k0:0≤P.kind
 k1:P.kind<128
 f0:0≤P.frm
 f1:P.frm<n
 ll:(P.lives.length:Int)=n
 lb:∀ x∈P.lives,0≤x∧x≤999
 e0:0≤P.epoch
 e1:P.epoch≤10
 v0:0≤P.view
 v1:P.view≤999
 pl:P.kind=112∨P.kind=107→0≤P.place∧P.place≤10
 en:P.kind=112→jd n P.ent
 co:P.kind=112∨P.kind=99→0≤P.commit∧P.commit≤10
 no:P.kind=118→0≤P.normal∧P.normal≤999
 li:P.kind=97→0≤P.life∧P.life≤999
 hc:P.kind=118∨P.kind=115∨P.kind=97→0≤P.commit∧P.commit≤P.log.length
 lg:P.kind=118∨P.kind=115∨P.kind=97→P.log.length≤10∧∀ e∈P.log,jd n e
 g:P.kind=115∨P.kind=97→fE n P.grp∧fE n P.old
structure OkF (id n:Int) (lives:List Int) (status epoch view normal:Int) (grp old:List Int) (log:List En) (decided:Nat) (aI answers:List Pm):Prop where
 n3:3≤n
 n7:n≤7
 i0:0≤id
 i1:id<n
 ll:(lives.length:Int)=n
 lb:∀ x∈lives,0≤x∧x≤999
 st:1≤status∧status≤5
 ep:0≤epoch∧epoch≤10
 vi:0≤view∧view≤999
 no:0≤normal∧normal≤999
 g:fE n grp
 o:fE n old
 lg:log.length≤10
 le:∀ e∈log,jd n e
 dc:decided≤log.length
 vo:∀ m∈aI,m.kind=118∧dQ n m
 vn:(aI.map (·.frm)).Nodup
 an:∀ m∈answers,m.kind=97∧dQ n m
 nn:(answers.map (·.frm)).Nodup
abbrev Ok (R:Rp):Prop:=OkF R.id R.n R.lives R.status R.epoch R.view R.normal R.grp R.old R.log R.decided R.aI R.answers
theorem jd.w {n:Int} {e:En} (h:jd n e):tY e:=by
 obtain⟨h1,h2,h3,h4,_,h6⟩:=h
 exact⟨by omega,by omega,by omega,by omega,by omega⟩
theorem jd.small {n:Int} {e:En} (h:jd n e):∀ k,2≤k→bN e.2.2 k<128:=fun k hk=>LB h.2.2.2.2.1 k hk
theorem tu:tY (0,0,⟨#[]⟩):=⟨by decide,by decide,by decide,by decide,by decide⟩
theorem fE.nil (n:Int):fE n []:=⟨by simp,by simp⟩
theorem OW {l:List UInt8} {n:Int} {k:Nat} (h:gAt l n k=true) (hk:k<l.length):0≤aF [l[k]]∧aF [l[k]]<n:=by
 have e:l.getD k 0=l[k]:=by simp[List.getD,hk]
 unfold gAt at h;rw[e,Bool.and_eq_true,Bool.and_eq_true] at h;exact⟨by simpa using h.1.1,by simpa using h.1.2⟩
theorem rC (s:ByteArray) (n:Int):fE n (dz s n):=by
 unfold dz
 split
 ·rename_i h;unfold aV at h;rw[Bool.and_eq_true,Bool.or_eq_true] at h;refine⟨by rw[jA,← nC];rcases h.2 with q|q <;> (have:=eq_of_beq q;omega),fun x hx=>?_⟩
  unfold dA at hx;obtain⟨c,hc,rfl⟩:=List.mem_map.1 hx
  obtain⟨k,hk,rfl⟩:=List.getElem_of_mem hc
  have:=h.1
  unfold gTo at this;rw[List.all_eq_true] at this;exact OW (this k (by simpa using hk)) hk
 ·exact fE.nil n
theorem uR (l:List En):regs l≤l.length:=List.countP_le_length
theorem Om {α:Type} {l:List α} {k:Nat} {d:α} (h:k<l.length):l.getD k d∈l:=by
 rw[List.getD_eq_getElem?_getD,List.getElem?_eq_getElem h];exact List.getElem_mem _
theorem Cu (l:List En) (e:Int):(dW l e).length≤l.length:=by unfold dW;simp;omega
theorem J4 {l:List En} {e:Int} {x:En} (h:x∈dW l e):x∈l:=List.mem_of_mem_take h
theorem qF (l:List Int) (x:Int):cZ (l++[x])=if cZ l<x then x else cZ l:=by unfold cZ;simp
theorem Je (b:Int) (hb:0≤b):∀ (l:List Int),(∀ x∈l,x≤b)→0≤cZ l∧cZ l≤b:=by
 intro l;unfold cZ
 suffices h:∀ (l:List Int) (g:Int),0≤g→g≤b→(∀ x∈l,x≤b)→0≤l.foldl (fun g x=>if g<x then x else g) g∧l.foldl (fun g x=>if g<x then x else g) g≤b from h l 0 (by omega) hb
 intro l
 induction l with
 | nil=>intro g h1 h2 _;exact⟨h1,h2⟩
 | cons x l ih =>
  intro g h1 h2 h3;simp only[List.foldl_cons];have:=h3 x (by simp)
  apply ih
  ·split <;> omega
  ·split <;> omega
  ·exact fun y hy=>h3 y (by simp[hy])
theorem Bz:∀ (l:List Pm),l≠[]→∃ m∈l,je l=some m:=by
 intro l
 suffices h:∀ (l:List Pm) (b:Option Pm),(∃ m,b=some m)∨l≠[]→∃ m,l.foldl yM b=some m∧(m∈l∨b=some m) by
  intro hl;obtain⟨m,h1,h2⟩:=h l O (.inr hl)
  rcases h2 with h2|h2
  ·exact⟨m,h2,h1⟩
  ·cases h2
 intro l
 induction l with
 | nil =>
  intro b h;rcases h with ⟨m,rfl⟩|h
  ·exact⟨m,rfl,.inr rfl⟩
  ·exact absurd rfl h
 | cons x l ih =>
  intro b _;simp only[List.foldl_cons];have hx:∃ m,yM b x=some m∧(m=x∨b=some m):=by
   unfold yM;cases b with
   | none=>exact⟨x,rfl,.inl rfl⟩
   | some b =>
    dsimp only
    split
    ·exact⟨x,rfl,.inl rfl⟩
    ·exact⟨b,rfl,.inr rfl⟩
  obtain⟨m,e1,e2⟩:=hx
  obtain⟨m2,e3,e4⟩:=ih (yM b x) (.inl ⟨m,e1⟩)
  refine⟨m2,e3,?_⟩
  rcases e4 with e4|e4
  ·exact .inl (List.mem_cons_of_mem _ e4)
  ·rw[e1] at e4;obtain rfl:m=m2:=by simpa using e4
   rcases e2 with rfl|e2
   ·exact .inl (List.mem_cons_self ..)
   ·exact .inr e2
theorem kR {l:List Pm} {m x:Pm} (h:x∈aQ l m):x=m∨x∈l:=by
 unfold aQ at h
 split at h
 ·obtain⟨y,hy,rfl⟩:=List.mem_map.1 h
  split
  ·exact .inl rfl
  ·exact .inr hy
 ·simp at h;exact h.symm
theorem sK {l:List Pm} (m:Pm) (h:(l.map (·.frm)).Nodup):((aQ l m).map (·.frm)).Nodup:=by
 unfold aQ
 split
 ·have:(l.map (fun x=>if x.frm==m.frm then m else x)).map (·.frm)=l.map (·.frm):=by
   rw[List.map_map];apply List.map_congr_left
   intro x _;simp only[Function.comp]
   split
   ·rename_i q;simp at q;exact q.symm
   ·rfl
  rw[this];exact h
 ·rename_i q;simp at q;rw[List.map_append,List.nodup_append];refine⟨h,by simp,?_⟩
  intro a ha b hb;simp at hb;subst hb;obtain⟨x,hx,rfl⟩:=List.mem_map.1 ha
  exact q x hx
theorem mK {l:List Pm} {n:Int} (hn:n≤7) (h:(l.map (·.frm)).Nodup) (hb:∀ m∈l,0≤m.frm∧m.frm<n):l.length≤7:=by
 have:=xK 7 (l.map (·.frm)) h (fun x hx=>by
  obtain⟨y,hy,rfl⟩:=List.mem_map.1 hx
  have:=hb y hy
  exact⟨this.1,by have:=this.2;show y.frm<7;omega⟩)
 simpa using this
theorem mM {l:List Pm} {lv:List Int} {x:Pm} (h:x∈gJ l lv):x∈l:=(List.mem_filter.1 h).1
theorem pE {l:List Pm} {lv:List Int} (h:(l.map (·.frm)).Nodup):((gJ l lv).map (·.frm)).Nodup :=
 List.Nodup.sublist (List.Sublist.map _ List.filter_sublist) h
structure Gd (r r':Rp) (c:Nat):Prop where
 ok:Ok r'
 n:r'.n=r.n
 id:r'.id=r.id
 out:r'.out.length≤r.out.length+c
theorem Gd.refl {r:Rp} (h:Ok r):Gd r r 0:=⟨h,rfl,rfl,Nat.le_refl _⟩
theorem Gd.refl' {r:Rp} (h:Ok r) (c:Nat):Gd r r c:=⟨h,rfl,rfl,by omega⟩
theorem Gd.trans {r r1 r2:Rp} {c d:Nat} (h:Gd r r1 c) (k:Gd r1 r2 d):Gd r r2 (c+d):=⟨k.ok,k.n.trans h.n,k.id.trans h.id,by have:=h.out;have:=k.out;omega⟩
theorem Gd.le {r r1:Rp} {c d:Nat} (h:Gd r r1 c) (k:c≤d):Gd r r1 d:=⟨h.ok,h.n,h.id,by have:=h.out;omega⟩
def nZ (n:Int) (l:List En):Prop:=l.length≤10∧∀ e∈l,jd n e
theorem Ok.log {r:Rp} (h:Ok r):nZ r.n r.log:=⟨h.lg,h.le⟩
theorem nZ.upto {n:Int} {l:List En} (h:nZ n l) (e:Int):nZ n (dW l e):=⟨Nat.le_trans (Cu l e) h.1,fun x hx=>h.2 x (J4 hx)⟩
namespace Rp
variable {r:Rp}
theorem KU (h:Ok r) (qt:Int) (t:ByteArray):Gd r (r.put qt t) 1:=⟨h,rfl,rfl,by simp[put]⟩
theorem rz (h:Ok r) (qt:Int) (P:Pm):Gd r (r.send qt P) 1:=KU h _ _
theorem zm (h:Ok r) (c m:Int) (t:ByteArray):Gd r (r.reply c m t) 1:=KU h _ _
theorem qD (h:Ok r) (g:List Int) (hg:g.length≤5) (P:Pm):Gd r (r.fI g P) 5:=⟨h,rfl,rfl,by
 have:=List.length_filter_le (fun x=>x != r.id) g
 simp[fI];omega⟩
theorem lN (h:Ok r) (qt k:Int):Gd r (r.bare qt k) 1:=rz h _ _
theorem lH (h:Ok r) (qt:Int):Gd r (r.ack qt) 1:=rz h _ _
theorem uF (h:Ok r) (qt:Int):Gd r (r.tell qt) 1:=rz h _ _
theorem FK (h:Ok r) (qt:Int):Gd r (r.kM qt) 1:=rz h _ _
theorem gL (h:Ok r):Gd r r.bS 5:=qD h _ h.g.1 _
theorem lS (h:Ok r):Gd r r.bH 5:=qD h _ h.o.1 _
theorem yw (h:Ok r):Gd r r.call 5:=qD h _ h.g.1 _
theorem lQ (h:Ok r) (p:Int):Gd r (r.bF p) 5:=by
 unfold bF
 split
 ·exact Gd.refl' h 5
 ·exact qD h _ h.g.1 _
theorem kP (h:Ok r) {v:Int} (hv:0≤v∧v≤999):Gd r (r.begin_ v) 0 :=
 ⟨⟨h.n3,h.n7,h.i0,h.i1,h.ll,h.lb,by simp[begin_],h.ep,hv,hv,h.g,h.o,h.lg,h.le,h.dc,by simp[begin_],by simp[begin_],h.an,h.nn⟩,rfl,rfl,Nat.le_refl _⟩
theorem fB (h:Ok r) {l:List En} (hl:nZ r.n l):Gd r (r.over l) 0 :=
 ⟨⟨h.n3,h.n7,h.i0,h.i1,h.ll,h.lb,h.st,h.ep,h.vi,h.no,h.g,h.o,hl.1,hl.2,by simp[over];omega,h.vo,h.vn,h.an,h.nn⟩,rfl,rfl,Nat.le_refl _⟩
theorem iH (h:Ok r) {s:Int} (hs:1≤s∧s≤5):Gd r { r with status:=s } 0 :=
 ⟨⟨h.n3,h.n7,h.i0,h.i1,h.ll,h.lb,hs,h.ep,h.vi,h.no,h.g,h.o,h.lg,h.le,h.dc,h.vo,h.vn,h.an,h.nn⟩,rfl,rfl,Nat.le_refl _⟩
theorem zX (h:Ok r) (he:r.epoch+1≤10) {g:List Int} (hg:fE r.n g):Ok { ({ r with old:=r.grp,grp:=g,epoch:=r.epoch+1 }:Rp).begin_ 0 with started:=st0 } :=
 ⟨h.n3,h.n7,h.i0,h.i1,h.ll,h.lb,by simp[begin_],⟨by have:=h.ep.1;simp[begin_];omega,by simp[begin_];omega⟩,by simp[begin_],by simp[begin_],hg,h.g,h.lg,h.le,h.dc,by simp[begin_],by simp[begin_],h.an,h.nn⟩
theorem M7 (h:Ok r) (he:r.epoch+1≤10) {g:List Int} (hg:fE r.n g):Gd r (r.turn g) 10:=by
 have h3:=zX h he hg;unfold turn;dsimp only
 split
 ·have k1:=gL h3;have k2:=lS k1.ok;exact⟨k2.ok,rfl,rfl,by have:=k1.out;have:=k2.out;simp only[begin_] at *;omega⟩
 ·have k0:=iH h3 (s:=5) (by decide)
  have k1:=gL k0.ok;exact⟨k1.ok,rfl,rfl,by have:=k1.out;have:=k0.out;simp only[begin_] at *;omega⟩
theorem BK (h:Ok r) (hd:r.decided<r.log.length) (e:En):Gd r (r.mq e) 0 :=
 ⟨⟨h.n3,h.n7,h.i0,h.i1,h.ll,h.lb,h.st,h.ep,h.vi,h.no,h.g,h.o,h.lg,h.le,hd,h.vo,h.vn,h.an,h.nn⟩,rfl,rfl,Nat.le_refl _⟩
theorem kr (h:Ok r) (hd:r.decided<r.log.length) (e:En):Gd r (r.carried e) 1:=by
 have k:=BK h hd e;unfold carried
 split
 ·exact (k.trans (zm k.ok _ _ _)).le (by omega)
 ·exact k.le (by omega)
theorem qy (e:En):(r.carried e).log=r.log:=by unfold carried;split <;> rfl
theorem jE (e:En):(r.carried e).decided=r.decided+1:=by unfold carried;split <;> rfl
theorem jy (e:En):(r.carried e).epoch=r.epoch:=by unfold carried;split <;> rfl
theorem AJ (h:Ok r) {e:En} (ht:r.turns e=true):r.epoch+1≤10:=by
 unfold turns at ht;simp at ht;have h1:=uR (r.log.take r.decided);have h2:=h.lg;have h3:(r.log.take r.decided).length≤r.log.length:=by simp;omega
 omega
theorem tC:∀ (f:Nat) (r:Rp) (p:Int),Ok r→Gd r (dZ f r p) (f+10)
 | 0,r,_,h=>Gd.refl' h _
 | f+1,r,p,h=>by
  unfold dZ
  split
  ·rename_i q;dsimp only;have k:=kr h q.2 (r.log.getD r.decided (0,0,⟨#[]⟩))
   split
   ·rename_i ht;exact (k.trans (M7 k.ok (AJ k.ok ht) (by rw[k.n];exact rC _ _))).le (by omega)
   ·exact (k.trans (tC f _ p k.ok)).le (by omega)
  ·exact Gd.refl' h _
theorem iG (h:Ok r) (p:Int):Gd r (r.aT p) 20:=(tC _ _ p h).le (by have:=h.lg;omega)
theorem Ab (h:Ok r):dQ r.n r.dD :=
  ⟨by simp [dD, head], by simp [dD, head], h.i0, h.i1, h.ll, h.lb, h.ep.1, h.ep.2, h.vi.1, h.vi.2, by simp [dD, head], by simp [dD, head], by simp [dD, head], fun _ => h.no, by simp [dD, head],
   fun _ => ⟨by simp [dD], by have := h.dc; simp [dD]; omega⟩, fun _ => ⟨h.lg, h.le⟩, by simp [dD, head]⟩
theorem EA (h:Ok r) {l:List Pm} (h1:∀ m∈l,m.kind=118∧dQ r.n m) (h2:(l.map (·.frm)).Nodup):Ok { r with aI:=l } :=
 ⟨h.n3,h.n7,h.i0,h.i1,h.ll,h.lb,h.st,h.ep,h.vi,h.no,h.g,h.o,h.lg,h.le,h.dc,h1,h2,h.an,h.nn⟩
theorem mO (h:Ok r) {l:List Pm} (h1:∀ m∈l,m.kind=97∧dQ r.n m) (h2:(l.map (·.frm)).Nodup):Ok { r with answers:=l } :=
 ⟨h.n3,h.n7,h.i0,h.i1,h.ll,h.lb,h.st,h.ep,h.vi,h.no,h.g,h.o,h.lg,h.le,h.dc,h.vo,h.vn,h1,h2⟩
theorem oK (h:Ok r) {m:Pm} (hk:m.kind=118) (hm:dQ r.n m):Ok { r with aI:=aQ r.aI m } :=
 EA h (fun x hx=>by rcases kR hx with rfl|hx;exact⟨hk,hm⟩;exact h.vo x hx) (sK m h.vn)
theorem uQ (h:Ok r) {m:Pm} (hk:m.kind=97) (hm:dQ r.n m):Ok { r with answers:=aQ r.answers m } :=
 mO h (fun x hx=>by rcases kR hx with rfl|hx;exact⟨hk,hm⟩;exact h.an x hx) (sK m h.nn)
theorem Ia (h:Ok r):Gd r r.oU 1:=by
 unfold oU
 split
 ·exact⟨oK h rfl (Ab h),rfl,rfl,by simp⟩
 ·exact rz h _ _
theorem uG (h:Ok r):Gd r r.dP 1:=by
 unfold dP
 split
 ·exact Gd.refl' h 1
 ·exact Ia h
theorem zY (h:Ok r) {v:Int} (hv:0≤v∧v≤999):Ok (r.lM v) :=
 ⟨h.n3,h.n7,h.i0,h.i1,h.ll,h.lb,by simp[lM],h.ep,hv,by have:=h.no;have:=h.vi;simp only[lM];split <;> assumption,h.g,h.o,h.lg,h.le,h.dc,by simp[lM],by simp[lM],h.an,h.nn⟩
theorem uH (h:Ok r) {v:Int} (hv:0≤v∧v≤999):Gd r (r.want v) 6:=by
 have k0:Gd r (r.lM v) 0:=⟨zY h hv,rfl,rfl,Nat.le_refl _⟩
 have k1:=yw k0.ok;exact ((k0.trans k1).trans (Ia k1.ok)).le (by omega)
theorem FD (h:Ok r) {best:Pm} (hb:nZ r.n best.log) (c:Int):Gd r (r.counted best c) 25:=by
 have k1:=fB h hb;have k2:=kP k1.ok (v:=r.view) h.vi;have k3:=gL k2.ok;exact (((k1.trans k2).trans k3).trans (iG k3.ok c)).le (by omega)
theorem yN (h:Ok r):nZ r.n ((je r.aI).getD pm0).log:=by
 by_cases hv:r.aI=[]
 ·rw[hv];exact⟨by simp[je,pm0],by simp[je,pm0]⟩
 ·obtain⟨m,hm,e⟩:=Bz r.aI hv
  rw[e];exact (h.vo m hm).2.lg (.inl (h.vo m hm).1)
theorem D9 (h:Ok r) {m:Pm} (hk:m.kind=118) (hm:dQ r.n m):Gd r (r.count m) 25:=by
 have h1:=oK h hk hm;unfold count;dsimp only
 split
 ·exact⟨h1,rfl,rfl,by simp⟩
 ·have k:=FD h1 (yN h1) (cZ ((aQ r.aI m).map (·.commit)))
  exact⟨k.ok,k.n,k.id,k.out⟩
theorem vQ (h:Ok r) {m:Pm} (hm:dQ r.n m):Gd r (r.bY m) 31:=by
 have k:=uH h ⟨hm.v0,hm.v1⟩;unfold bY
 split
 ·split
  ·rename_i q;simp at q;exact (k.trans (D9 k.ok q.1 (by rw[k.n];exact hm))).le (by omega)
  ·exact k.le (by omega)
 ·exact Gd.refl' h _
theorem xU (h:Ok r) {m:Pm} (hm:dQ r.n m):Gd r (r.bC m) 25:=by
 unfold bC
 split
 ·split
  ·exact (lN h _ _).le (by omega)
  ·split
   ·exact (uG h).le (by omega)
   ·split
    ·rename_i q;exact D9 h q.1 hm
    ·exact Gd.refl' h _
 ·exact Gd.refl' h _
theorem mD (h:Ok r) (c:Int):Gd r (r.bZ c) 21:=by
 unfold bZ
 split
 ·exact (iG h c).le (by omega)
 ·have k:=lH h r.iB;exact (k.trans (iG k.ok c)).le (by omega)
theorem jO (h:Ok r) {m:Pm} (hk:m.kind=115∨m.kind=97) (hm:dQ r.n m):Ok (r.enter m) :=
 ⟨h.n3,h.n7,h.i0,h.i1,h.ll,h.lb,by simp[enter,begin_],⟨hm.e0,hm.e1⟩,⟨hm.v0,hm.v1⟩,⟨hm.v0,hm.v1⟩,(hm.g hk).1,(hm.g hk).2,h.lg,h.le,h.dc,by simp[enter,begin_],by simp[enter,begin_],h.an,h.nn⟩
theorem qE (h:Ok r) (m:Pm):Gd r (r.bX m) 1:=by
 unfold bX
 split
 ·exact uF h _
 ·split
  ·exact FK h _
  ·split
   ·exact lN h _ _
   ·exact Gd.refl' h _
theorem lI {n:Int} {m:Pm} (hm:dQ n m) (hk:m.kind=118∨m.kind=115∨m.kind=97):nZ n m.log:=hm.lg hk
theorem sD (h:Ok r) {m:Pm} (hk:m.kind=115) (hm:dQ r.n m):Gd r (r.aH m) 21:=by
 have hl:=lI hm (.inr (.inl hk));unfold aH
 split
 ·have k1:=kP h ⟨hm.v0,hm.v1⟩;have k2:=fB k1.ok (l:=m.log) hl;exact ((k1.trans k2).trans (mD k2.ok _)).le (by omega)
 ·split
  ·split
   ·exact (uF h _).le (by omega)
   ·exact Gd.refl' h _
  ·split
   ·have k2:=fB h (l:=m.log) hl;exact (k2.trans (mD k2.ok _)).le (by omega)
   ·split
    ·exact Gd.refl' h _
    ·exact (lN h _ _).le (by omega)
theorem Ea (h:Ok r) {m:Pm} (hl:nZ r.n m.log):Gd r (r.leave m) 25:=by
 have k0:Gd r r.leave0 0:=⟨⟨h.n3,h.n7,h.i0,h.i1,h.ll,h.lb,by simp[leave0],h.ep,by simp[leave0],by simp[leave0],h.g,h.o,h.lg,h.le,h.dc,h.vo,h.vn,h.an,h.nn⟩,rfl,rfl,Nat.le_refl _⟩
 have k1:=fB k0.ok (l:=dW m.log r.epoch) (hl.upto _);have k2:=iG k1.ok m.commit;exact (((k0.trans k1).trans k2).trans (gL k2.ok)).le (by omega)
theorem uE (h:Ok r) {m:Pm} (hk:m.kind=115) (hm:dQ r.n m):Gd r (r.bK m) 26:=by
 have hl:=lI hm (.inr (.inl hk));have k0:Gd r (r.enter m) 0:=⟨jO h (.inl hk) hm,rfl,rfl,Nat.le_refl _⟩
 unfold bK
 split
 ·have k1:=fB k0.ok (l:=m.log) hl;have k2:=lS k1.ok;exact (((k0.trans k1).trans k2).trans (mD k2.ok _)).le (by omega)
 ·split
  ·exact (k0.trans (Ea k0.ok hl)).le (by omega)
  ·exact (k0.trans (iH k0.ok (s:=4) (by decide))).le (by omega)
theorem CV (h:Ok r) {m:Pm} (hk:m.kind=115) (hm:dQ r.n m):Gd r (r.dY m) 26:=by
 unfold dY
 split
 ·exact uE h hk hm
 ·split
  ·split
   ·exact (qE h m).le (by omega)
   ·exact (sD h hk hm).le (by omega)
  ·exact Gd.refl' h _
theorem CU (h:Ok r) (m:Pm):Gd r (r.eB m) 0:=by
 unfold eB
 split
 ·dsimp only
  split
  ·have k:=iH h (s:=4) (by decide)
   exact⟨k.ok,rfl,rfl,Nat.le_refl _⟩
  ·exact⟨h,rfl,rfl,Nat.le_refl _⟩
 ·exact Gd.refl h
theorem Ja (h:Ok r) (m:Pm):Gd r (r.answer m) 1:=by
 unfold answer
 split
 ·exact rz h _ _
 ·exact Gd.refl' h _
theorem zn (h:Ok r) (m:Pm):Gd r (r.cK m) 1:=by
 unfold cK
 split
 ·exact lN h _ _
 ·split
  ·exact uF h _
  ·exact Gd.refl' h _
theorem Jd (h:Ok r) {m:Pm} (hk:m.kind=97) (hm:dQ r.n m):Gd r (r.resume m) 21:=by
 have hl:=lI hm (.inr (.inr hk));have e:=jO h (.inr hk) hm;have k0:Gd r { r.enter m with answers:=[] } 0:=⟨mO e (by simp) (by simp),rfl,rfl,Nat.le_refl _⟩
 unfold resume;dsimp only
 split
 ·have k1:=fB k0.ok (l:=m.log) hl
  split
  ·exact ((k0.trans k1).trans (iG k1.ok _)).le (by omega)
  ·have k2:=lH k1.ok m.frm;exact (((k0.trans k1).trans k2).trans (iG k2.ok _)).le (by omega)
 ·exact (k0.trans (iH k0.ok (s:=4) (by decide))).le (by omega)
theorem nM {l:List Pm} {a:Pm} (h:gP l=some a):a∈l:=by
 unfold gP KY at h
 split at h
 ·cases h
 ·have:=List.mem_of_find?_eq_some h
  unfold gT at this;exact (List.mem_filter.1 this).1
theorem AU (h:Ok r) {m:Pm} (hk:m.kind=97) (hm:dQ r.n m):Gd r (r.dO m) 21:=by
 unfold dO
 split
 ·dsimp only;have h1:=uQ h hk hm
  split
  ·rename_i a ha;have hma:=nM ha
   split
   ·have q:=h1.an a hma;have k:=Jd h1 q.1 q.2;exact⟨k.ok,k.n,k.id,k.out⟩
   ·exact⟨h1,rfl,rfl,by simp⟩
  ·exact⟨h1,rfl,rfl,by simp⟩
 ·exact Gd.refl' h _
theorem qM (h:Ok r) {e:En} (he:jd r.n e) (hl:r.log.length<10):Ok { r with log:=r.log++[e] } :=
 ⟨h.n3,h.n7,h.i0,h.i1,h.ll,h.lb,h.st,h.ep,h.vi,h.no,h.g,h.o,by simp;omega,fun x hx=>by simp at hx;rcases hx with hx|rfl;exact h.le x hx;exact he,by have:=h.dc;simp;omega,h.vo,h.vn,h.an,h.nn⟩
theorem CS (h:Ok r) {m:Pm} (hk:m.kind=112) (hm:dQ r.n m):Gd r (r.dK m) 21:=by
 unfold dK
 split
 ·split
  ·exact (lN h _ _).le (by omega)
  ·split
   ·split
    ·exact Gd.refl' h _
    ·rename_i q _;have hp:=hm.pl (.inl hk);have h1:=qM h (hm.en hk) (by omega)
     have k1:=lH h1 m.frm;have k2:=iG k1.ok m.commit;exact⟨k2.ok,k2.n.trans k1.n,k2.id.trans k1.id,by have:=k1.out;have:=k2.out;simp only at *;omega⟩
   ·have k1:=lH h m.frm;exact (k1.trans (iG k1.ok _)).le (by omega)
 ·exact Gd.refl' h _
theorem AV (h:Ok r) (m:Pm):Gd r (r.dV m) 20:=by
 unfold dV
 split
 ·split
  ·exact (lN h _ _).le (by omega)
  ·exact iG h _
 ·exact Gd.refl' h _
theorem rA (h:Ok r) (q:Nat) (p:Int):Gd r (r.eX q p) 0:=by
 unfold eX
 split
 ·exact⟨h,rfl,rfl,Nat.le_refl _⟩
 ·exact Gd.refl h
theorem FJ (h:Ok r) (m:Pm):Gd r (r.iw m) 20:=by
 unfold iw
 split
 ·have k:=rA h m.frm.toNat m.place;exact (k.trans (iG k.ok _)).le (by omega)
 ·exact Gd.refl' h _
theorem AY (h:Ok r) {m:Pm} (hm:dQ r.n m):Gd r (r.bV m) 21:=by
 unfold bV
 split
 ·exact (uF h _).le (by omega)
 ·split
  ·split
   ·rename_i q;exact CS h q hm
   ·split
    ·exact (AV h m).le (by omega)
    ·split
     ·exact (FJ h m).le (by omega)
     ·split
      ·exact (uF h _).le (by omega)
      ·exact Gd.refl' h _
  ·exact Gd.refl' h _
theorem AX (h:Ok r) {m:Pm} (hm:dQ r.n m):Gd r (r.bM m) 31:=by
 unfold bM
 split
 ·split
  ·exact (xU h hm).le (by omega)
  ·exact (AY h hm).le (by omega)
 ·split
  ·split
   ·exact vQ h hm
   ·exact (lN h _ _).le (by omega)
  ·split
   ·exact (lN h _ _).le (by omega)
   ·exact (qE h m).le (by omega)
theorem vR (h:Ok r) {m:Pm} (hm:dQ r.n m):Gd r (r.bB m) 31:=by
 unfold bB
 split
 ·split
  ·rename_i q;exact (AU h q hm).le (by omega)
  ·exact Gd.refl' h _
 ·split
  ·rename_i q;exact (CV h q hm).le (by omega)
  ·split
   ·exact (Ja h m).le (by omega)
   ·split
    ·exact (CU h m).le (by omega)
    ·split
     ·exact Gd.refl' h _
     ·split
      ·exact (zn h m).le (by omega)
      ·exact AX h hm
theorem Jb {l:List Int} (hb:∀ x∈l,0≤x∧x≤999) (h:Ok r) (i:Nat):Gd r (iJ l r i) 0:=by
 unfold iJ
 split
 ·refine⟨⟨h.n3,h.n7,h.i0,h.i1,by simpa using h.ll,fun x hx=>?_,h.st,h.ep,h.vi,h.no,h.g,h.o,h.lg,h.le,h.dc,h.vo,h.vn,h.an,h.nn⟩,rfl,rfl,Nat.le_refl _⟩
  rcases List.mem_or_eq_of_mem_set hx with hx|rfl
  ·exact h.lb x hx
  ·by_cases hi:i<l.length
   ·exact hb _ (Om hi)
   ·simp[List.getD,hi]
 ·exact Gd.refl h
theorem BL {l:List Int} (hb:∀ x∈l,0≤x∧x≤999):∀ (is:List Nat) (r:Rp),Ok r→Gd r (is.foldl (iJ l) r) 0
 | [],_,h=>Gd.refl h
 | i :: is,r,h=>by
  have k:=Jb hb h i;exact k.trans (BL hb is _ k.ok)
theorem uD (h:Ok r) {l:List Int} (hb:∀ x∈l,0≤x∧x≤999):Gd r (r.learn l) 0:=BL hb _ _ h
theorem ru (h:Ok r):Gd r r.pruned 0 :=
 ⟨⟨h.n3,h.n7,h.i0,h.i1,h.ll,h.lb,h.st,h.ep,h.vi,h.no,h.g,h.o,h.lg,h.le,h.dc,fun x hx=>h.vo x (mM hx),pE h.vn,fun x hx=>h.an x (mM hx),pE h.nn⟩,rfl,rfl,Nat.le_refl _⟩
theorem AQ (h:Ok r) (e:En):Gd r (r.gy e) 1:=by
 unfold gy
 split
 ·exact zm h _ _ _
 ·exact Gd.refl' h _
theorem FH (h:Ok r) {e:En} (he:jd r.n e):Gd r (r.propose e) 5:=by
 unfold propose
 split
 ·exact Gd.refl' h _
 ·rename_i q;have h1:=qM h he (by omega)
  have k:=lQ h1 ((r.log.length:Int)+1);exact⟨k.ok,k.n,k.id,k.out⟩
structure IU (m:Pm):Prop where
 c:1≤m.ent.1∧m.ent.1≤9
 n:1≤m.ent.2.1∧m.ent.2.1≤999
 s:m.ent.2.2.size≤10
 q:m.kind=113→dU m.ent.2.2.data.toList=true
theorem CF {m:Pm} {n:Int} (hm:IU m) (hk:m.kind=113∨m.kind=109) (h:¬(m.kind=109∧eH m.ent n=true)):jd n m.ent:=by
 refine⟨hm.c.1,hm.c.2,hm.n.1,hm.n.2,?_,hm.s⟩
 rw[yt];rcases hk with hk|hk
 ·rw[hm.q hk];rfl
 ·have:eH m.ent n=false:=by
   cases q:eH m.ent n
   ·rfl
   ·exact absurd ⟨hk,q⟩ h
  unfold eH eT at this;simp at this;simp[this]
theorem zo (h:Ok r) {m:Pm} (hm:IU m) (hk:m.kind=113∨m.kind=109):Gd r (r.bT m) 5:=by
 unfold bT
 split
 ·split
  ·exact Gd.refl' h _
  ·split
   ·exact (AQ h _).le (by omega)
   ·split
    ·exact Gd.refl' h _
    ·split
     ·exact (zm h _ _ _).le (by omega)
     ·rename_i q;exact FH h (CF hm hk (fun c=>q ⟨c.1,.inr c.2⟩))
 ·exact Gd.refl' h _
def MOk (n:Int) (m:Pm):Prop:=((m.kind=113∨m.kind=109)→IU m)∧(¬(m.kind=113∨m.kind=109)→dQ n m)
theorem MZ (h:Ok r) {m:Pm} (hm:MOk r.n m):Gd r (r.take m) 31:=by
 unfold take
 split
 ·rename_i q;exact (zo h (hm.1 q) q).le (by omega)
 ·rename_i q;have hp:=hm.2 q
  split
  ·have k1:=uD h hp.lb;have k2:=ru k1.ok;have k3:=k1.trans k2;exact (k3.trans (vR k2.ok (by rw[k3.n];exact hp))).le (by omega)
  ·exact Gd.refl' h _
theorem zi:∀ (k:Nat) (r:Rp) (p:Int),Ok r→Gd r (kK k r p) (5*k)
 | 0,r,_,h=>Gd.refl h
 | k+1,r,p,h=>by
  have q:=lQ h p;exact (q.trans (zi k _ (p+1) q.ok)).le (by omega)
theorem Jc (h:Ok r):Gd r r.iZ 50:=by
 unfold iZ
 split
 ·exact (qD h _ h.g.1 _).le (by omega)
 ·exact (zi _ _ _ h).le (by have:=h.lg;omega)
theorem CQ:∀ (is:List Nat) (r:Rp),Ok r→Gd r (is.foldl oW r) is.length
 | [],_,h=>Gd.refl h
 | i :: is,r,h=>by
  have k:Gd r (oW r i) 1:=by
   unfold oW
   split
   ·exact lN h _ _
   ·exact Gd.refl' h _
  exact (k.trans (CQ is _ k.ok)).le (by simp;omega)
theorem OX (h:Ok r):Gd r r.ask 7:=(CQ _ _ h).le (by have:=h.n7;simp;omega)
theorem MX (h:Ok r):Gd r r.lF 50:=by
 unfold lF
 split
 ·exact Jc h
 ·split
  ·have k:=yw h;exact (k.trans (uG k.ok)).le (by omega)
  ·split
   ·exact (OX h).le (by omega)
   ·split
    ·exact (gL h).le (by omega)
    ·exact Gd.refl' h _
theorem FI (h:Ok r):Gd r r.suspect 6:=by
 unfold suspect
 split
 ·have:=h.vi;exact uH h (by omega)
 ·exact Gd.refl' h _
end Rp
end Go.Proofs.YtbnihoahhomooaaGreatDoor
