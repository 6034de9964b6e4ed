import Derived.Test.YtinaollfjiddmaaGreatDoorA21
set_option maxRecDepth 100000
set_option maxHeartbeats 8000000
set_option linter.all false
namespace Go.Proofs.YtinaollfjiddmaaGreatDoor
open Go.Value renaming int→I,slice→Y,string→Z,pointer→Zp
open Go.Ending renaming returned→Zr
open _root_.ByteArray renaming empty→Ze
open Go.IntKind renaming i64→J
open Option renaming none→O
open Go.RowKit
def D6 (w:World) (v:Value) (l:List (Int×ByteArray)):Prop:=Rd w 2 v l.length (iI l)
theorem Ai:∀ (l:List (Int×ByteArray)) (k:Nat) (h:k<l.length),(iI l)[2*k]? = some (I J l[k].1)∧(iI l)[2*k+1]? = some (Z l[k].2)
 | a :: l,0,_=>⟨rfl,rfl⟩
 | a :: l,k+1,h=>by
  have:=Ai l k (by simpa using h)
  simp only[List.getElem_cons_succ];exact this
theorem D6.get {w:World} {a:Option Addr} {n cap:Nat} {l:List (Int×ByteArray)} (h:D6 w (Y a n cap) l) (k:Nat) (hk:k<l.length) :
  ∃ b off,a=some ⟨b,off,O⟩∧b<w.heap.size∧w.cell? ⟨b,off+k*2,O⟩=some (I J l[k].1)∧w.cell? ⟨b,off+k*2+1,O⟩=some (Z l[k].2):=by
 obtain⟨f,g⟩:=Ai l k hk
 rcases h.2 with ⟨c,j⟩|⟨b,off,d,c,_,_,i,e⟩
 ·omega
 ·simp only[Value.slice.injEq] at c;obtain⟨rfl,rfl,rfl⟩:=c
  refine⟨b,off,rfl,i,?_,?_⟩
  ·have:=e _ _ f;rwa [show off+2*k=off+k*2 by omega] at this
  ·have:=e _ _ g;rwa [show off+(2*k+1)=off+k*2+1 by omega] at this
theorem CG {t:ByteArray} (h:0<t.size):t.toList.isEmpty=false:=by
 rw[ByteArray.toList_eq];have e:t.data.toList.length=t.size:=by rw[Array.length_toList];rfl
 cases hc:t.data.toList with
 | nil=>rw[hc] at e;simp at e;omega
 | cons a l=>rfl
theorem Mx {t:ByteArray} (h:Rp.l5 t):∃ h0:0<t.size,t[0].toNat=114:=by
 unfold Rp.l5 at h;have e:t.data.toList.length=t.size:=by rw[Array.length_toList];rfl
 have b:0<t.data.toList.length:=by
  cases hh:t.data.toList with
  | nil=>rw[hh] at h;simp at h
  | cons a l=>simp
 refine⟨by omega,?_⟩
 rw[List.head?_eq_getElem?,List.getElem?_eq_getElem b] at h;have:t.data.toList[0]=t[0]'(by omega):=rfl
 rw[this] at h;have h:=Option.some.inj h;rw[h];rfl
section
variable {N:Nat} {w w':World} {g:Nat} {K K':Kw} {V V':Kv} {M:List (Int×Int×ByteArray)}
structure Lo (M:List (Int×Int×ByteArray)) (N:Nat) (w wr:World) (g:Nat) (K:Kw) (V:Kv) (c:Nat) (K':Kw) (V':Kv):Prop where
 kst:Kst N w wr g K V K' V'
 ki:KI K'
 nds:K'.nds=K.nds
 grp:K'.groups=K.groups
 n:K'.n=K.n
 ms:dS K'≤dS K+c
 net:K.net.length≤K'.net.length
 ci:CI { K' with net:=M }
 ls:K'.list=K.list
 bs:K'.begun=K.begun
 ws:wt K'.wishes=wt K.wishes
 sub:∀ p∈K'.net,p∈M
theorem Lo.gr {wr:World} {c:Nat} (L:Lo M N w wr g K V c K' V'):CI K':=L.ci.sub L.sub
def LoE (M:List (Int×Int×ByteArray)) (N:Nat) (w wr:World) (g:Nat) (K:Kw) (V:Kv) (c:Nat) (e:Ending):Prop:=∃ b K' V',e=Zr (.bool b)∧Lo M N w wr g K V c K' V'
theorem Lo.refl (h:KAt N w g K V) (hi:KI K) (gr:CI { K with net:=M }) (hMn:∀ p∈K.net,p∈M):Lo M N w w g K V 0 K V:=⟨Kst.refl h,hi,rfl,rfl,rfl,Nat.le_refl _,Nat.le_refl _,gr,rfl,rfl,rfl,hMn⟩
section
variable {wr w2:World} {c:Nat} {K2:Kw} {V2:Kv}
theorem Lo.below (L:Lo M N w wr g K V c K' V') (hb:Below wr.heap.size wr w2):Lo M N w w2 g K V c K' V':=⟨L.kst.below hb,L.ki,L.nds,L.grp,L.n,L.ms,L.net,L.ci,L.ls,L.bs,L.ws,L.sub⟩
theorem Lo.post {f t:Int} {s:ByteArray} (L:Lo M N w wr g K V c K' V') (k:Kst N wr w2 g K' V' { K' with net:=K'.net++[(f,t,s)] } V2) (h1 : -9≤t) (h2:t<K.n) (h3:0<s.size) (h4:(f,t,s)∈M):Lo M N w w2 g K V (c+1) { K' with net:=K'.net++[(f,t,s)] } V2 :=
 ⟨L.kst.trans k,L.ki.post f t s ⟨h1,by rw[L.n];exact h2⟩ h3,L.nds,L.grp,L.n,by rw[Cm];have:=L.ms;omega,by have:=L.net;simp;omega,L.ci,L.ls,L.bs,L.ws,fun p a=>by
  rcases List.mem_append.1 a with z|z
  ·exact L.sub p z
  ·simp only[List.mem_cons,List.not_mem_nil,or_false] at z;subst z;exact h4⟩
theorem Lo.fails {p:Int} (L:Lo M N w wr g K V c K' V') (k:Kst N wr w2 g K' V' { K' with part:=p } V') (hp:tQ p):Lo M N w w2 g K V c { K' with part:=p } V' :=
 ⟨L.kst.trans k,L.ki.fails hp,L.nds,L.grp,L.n,L.ms,L.net,L.ci.part p,L.ls,L.bs,L.ws,L.sub⟩
theorem Lo.oi (L:Lo M N w wr g K V c K' V') {q:Nat} {o:Int×ByteArray} (ho:OI K.list (wt K.wishes) K.groups K.begun K.n q o):OI K'.list (wt K'.wishes) K'.groups K'.begun K'.n q o:=by
 rw[L.ls,L.ws,L.grp,L.bs,L.n];exact ho
theorem Lo.ans (L:Lo M N w wr g K V c K' V') (k:Kst N wr w2 g K' V' K2 V') {q:Nat} {o:Int×ByteArray} (ho:OI K.list (wt K.wishes) K.groups K.begun K.n q o) (h0:o.1<0) (hk:K2=K'∨∃ k,WMt K' (-o.1) o.2 k∧(∀ j,¬LMt K' (-o.1) o.2 j)∧K2={ K' with wishes:=gG K'.wishes k }):Lo M N w w2 g K V c K2 V':=by
 rcases hk with rfl|⟨j,a,b,rfl⟩
 ·exact⟨L.kst.trans k,L.ki,L.nds,L.grp,L.n,L.ms,L.net,L.ci,L.ls,L.bs,L.ws,L.sub⟩
 ·exact⟨L.kst.trans k,L.ki.bad j,L.nds,L.grp,L.n,by rw[LY];exact L.ms,L.net,L.ci.bad L.ki.list (L.oi ho) h0 a b,L.ls,L.bs,by show wt (gG K'.wishes j)=_;rw[xS];exact L.ws,L.sub⟩
theorem Lo.ste (L:Lo M N w wr g K V c K' V') {d:Nat} (hd:c≤d) (b:Bool):StE N w wr g K V d (Zr (.bool b)) :=
 ⟨b,K',V',rfl,L.kst,L.ki,by have:=L.ms;omega,L.net,L.n,fun _=>L.gr⟩
theorem Lo.c1 (L:Lo M N w wr g K V c K' V') {n:Nat} (hn:K.n=n):wr.cell? ⟨g,1,O⟩=some (I J n):=by
 have:=L.kst.at_.cell 1
 rw[← hn,← L.n];exact this
end
theorem GQ (h:KAt N w g K V) (hi:KI K) (gr:CI { K with net:=M }) (hMn:∀ p∈K.net,p∈M) (q:Nat) (hq:q<K.nds.length) (vl:Value) (l:List (Int×ByteArray)) (hl:D6 w vl l) (hf:Fr (je g K V) vl) (hs:K.nds[q].R.status=3→∀ x∈l,Rp.l5 x.2) (ho:∀ o∈l,OI K.list (wt K.wishes) K.groups K.begun K.n q o∧((q:Int),o.1,o.2)∈M) (hm:dS K+l.length≤900000000000) :
  Calls Tryz.prog 62 #[Zp (some ⟨g,0,O⟩),I J q,vl] w fun e w'=>StE N w w' g K V l.length e:=by
 have z:=hi.sz;obtain⟨n,G,z3,z1,z7,zd,zb,ao⟩:=z.all
 have ap:=ah (h.cv 1 rfl (congrArg (Value.int .i64) G));obtain⟨aN,cN,H⟩:=aj h.rN
 have P:=ah (h.cv 2 rfl H);have HN:=ah (fun (d:World) (c:Below w.heap.size w d)=>KAt.ptr h H c)
 have Q:=ah (fun (d:World) (c:Below w.heap.size w d)=>KAt.whr h c)
 have HQ:=ah (Q.out w (Below.refl _ _) q hq);obtain⟨b1,o1,rfl,_,d1⟩:=HN.out w (Below.refl _ _) q hq
 have c2:=P.out w (Below.refl _ _);have j1:(0:Int)≤(q:Int):=by omega
 have j2:(q:Int)<(K.nds.length:Int):=by omega
 obtain⟨al,cl,rfl,aq,ar⟩:∃ a u,vl=Y a l.length u∧l.length≤u∧u≤9223372036854775807:=by
  obtain⟨a,u,e,G,hm,_⟩:=Rd.form hl
  exact⟨a,u,e,G,by unfold maxLen at hm;omega⟩
 have ac:Hid (∀ d,Below w.heap.size w d→Lo M N w d g K V 0 K V):=fun d c=>(Lo.refl h hi gr hMn).below c
 have HO:Hid (∀ {d:World} {K2:Kw} {V2:Kv},Kst N w d g K V K2 V2→D6 d (Y al l.length cl) l):=fun k=>Rd.kp hl k.kp hf (fun _ h=>h)
 have S:Hid (∀ (k:Nat) (C:k<l.length),OI K.list (wt K.wishes) K.groups K.begun K.n q (l[k].1,l[k].2)∧(-9≤l[k].1∧l[k].1<K.n∧l[k].1≠q∧0<l[k].2.size)∧((q:Int),l[k].1,l[k].2)∈M):=fun k C=>by
  have a:=ho _ (List.getElem_mem C);exact⟨a.1,oi_bd (CI.sub gr hMn) hi a.1,a.2⟩
 clear ho;have ad:Hid (K.nds[q].R.status=3→∀ (k:Nat) (C:k<l.length),∃ h0:0<l[k].2.size,(l[k].2)[0].toNat=114):=fun h3 k C=>Mx (hs h3 _ (List.getElem_mem C))
 clear h hi gr hMn z hf hl hs Q HN P;generalize K.nds[q].b=bb at *;generalize K.nds[q].R.epoch=r1 at *;generalize K.nds[q].R.view=r2 at *;generalize K.nds[q].R.status=r3 at *;generalize K.nds[q].R.decided=r4 at *;go_enter Tryz.func62,Tryz.ntmps62;go_wp2_with fail;refine HQ.out.mono ?_;rintro e w1 ⟨rfl,nn,T⟩;have ae:Below w.heap.size w w1:=by rw[T];exact below_drewN (Below.refl _ _) nn
 clear T HQ c2 d1;go_wp2_with fail;go_loopw [11] (fun i wr=>∃ (k:Nat) (K':Kw) (V':Kv),k≤l.length∧i=I J k∧Lo M N w wr g K V k K' V') (fun i _=>l.length-(intOf i).toNat)
 case atStart=>exact⟨0,K,V,Nat.zero_le _,rfl,ac.out _ ae⟩
 case round =>
  obtain⟨k,K1,V1,C,rfl,L⟩:=hrel
  have HL:=ah L;clear L;by_cases s:k<l.length
  ·obtain⟨bo,oo,rfl,_,A,B⟩:=(HO.out HL.out.kst).get k s
   have c1:=HL.out.c1 G;have j3:(0:Int)≤(k:Int):=by omega
   have j4:(k:Int)<(l.length:Int):=by omega
   have D:=fun h3=>ad.out h3 k s
   obtain⟨U,af,W⟩:=S.out k s
   generalize h_qt:l[k].1=f at *;generalize h_tx:l[k].2=m at *;have X:=ah U;have aa:=ah W;obtain⟨av,ai,ab,aw⟩:=af
   rw[G] at ai;clear U W S;by_cases s3:r3=3
   focus
    obtain⟨x1,x2⟩:=D s3
    subst s3;clear D;have y0:m.toList.isEmpty=false:=CG x1
    have y1:(0:Int)<(m.size:Int):=by omega
    have y2:((m[0].toNat:Int) != 114)=false:=by rw[x2];rfl
   rotate_left
   focus
    have ax:(r3==3)=false:=beq_eq_false_iff_ne.2 s3
    clear D s3
   rotate_left
   all_goals
    have a1:¬(n:Int)≤f:=by omega
    have g1:decide ((n:Int)≤f)=false:=decide_eq_false a1
    have a2:¬f=(q:Int):=ab
    have g2:(f==(q:Int))=false:=beq_eq_false_iff_ne.2 a2
    have a3:¬f < -9:=by omega
    have g3:decide (f < -9)=false:=decide_eq_false a3
    have a4:¬m.size=0:=by omega
    have g4:¬m=Ze:=by
     intro hc;rw[hc] at a4;exact a4 rfl
    have g5:decide (m=Ze)=false:=decide_eq_false g4
    have g6:m.toList.isEmpty=false:=CG (by omega)
    clear a2 ab;go_wp2_with fail;go_quiet (fail);have Lq:=HL.out.below (below_drewN (Below.refl _ _) nq);have E:=ah Lq;clear Lq;generalize hwA:wr.drewN nq=wA at *;clear hwA A B;obtain⟨b2,o2,y,_,A,B⟩:=(HO.out E.out.kst).get k s
    cases y;rw[h_qt] at A;rw[h_tx] at B;by_cases a6:f<0
    ·have nw:IntKind.i64.wrap (-f) = -f:=gq (by omega) (by omega)
     have ak:Hid (∀ d,Below wA.heap.size wA d→Calls Tryz.prog 109 #[Zp (some ⟨g,0,O⟩),I J (-f),Z m] d fun e w'=>LoE M N w w' g K V k e):=fun d c=>by
      have r:=E.out.below c;refine (Ew r.kst.at_ r.ki (-f) (by omega) (by omega) m).mono ?_
      rintro e w3 ⟨b,K3,rfl,k3,⟨rfl,C⟩|⟨rfl,rfl,am,an⟩⟩
      ·exact⟨true,_,_,rfl,r.ans k3 X.out a6 C⟩
      ·rcases Qo r.gr r.ki (r.oi X.out) a6 with ⟨j,hj⟩|⟨j,hj⟩
       ·exact absurd hj (am j)
       ·exact absurd hj (an j)
     go_wp2_with fail;go_region_with (go_at_call 109;refine (ak.out _ (Below.refl _ _).drew).mono ?_;rintro e w4 ⟨bA,KA,VA,rfl,LA⟩)
     all_goals
      have t:=ah LA;clear LA;cases bA
      ·go_wp2;go_ret;exact t.out.ste (by omega) false
      ·go_upto_region 13 with fail
       have F:Hid (∀ d,Below w4.heap.size w4 d→Calls Tryz.prog 54 #[Zp (some ⟨g,0,O⟩),I J q,I J f,Z m] d fun e w'=>e=Zr (.tuple #[])∧∃ v,Lo M N w w' g K V (k+1) { KA with net:=KA.net++[((q:Int),f,m)] } { VA with vP:=v }):=fun d c=>by
        have r:=t.out.below c;refine (sD r.kst.at_ q f m (by have:=jQ KA;have:=r.ms;omega)).mono ?_
        rintro e w3 ⟨rfl,v,k3⟩;exact⟨rfl,v,r.post k3 (by omega) (by omega) (by omega) aa.out⟩
       clear A B;obtain⟨b2,o2,y,_,A,B⟩:=(HO.out t.out.kst).get k s
       cases y;rw[h_qt] at A;rw[h_tx] at B;go_wp2_with fail;go_region_with (go_at_call 54;refine (F.out _ (Below.refl _ _).drew).mono ?_;rintro e w5 ⟨rfl,v5,L5⟩)
       all_goals
        go_wp2;go_roundw
        case rel=>exact⟨k+1,_,_,by omega,by go_num,L5⟩
        case measure=>simp[intOf];omega
    ·obtain⟨KA,VA,t⟩:∃ KA VA,Hid (Lo M N w wA g K V k KA VA):=⟨_,_,E⟩
     have F:Hid (∀ d,Below wA.heap.size wA d→Calls Tryz.prog 54 #[Zp (some ⟨g,0,O⟩),I J q,I J f,Z m] d fun e w'=>e=Zr (.tuple #[])∧∃ v,Lo M N w w' g K V (k+1) { KA with net:=KA.net++[((q:Int),f,m)] } { VA with vP:=v }):=fun d c=>by
      have r:=t.out.below c;refine (sD r.kst.at_ q f m (by have:=jQ KA;have:=r.ms;omega)).mono ?_
      rintro e w3 ⟨rfl,v,k3⟩;exact⟨rfl,v,r.post k3 (by omega) (by omega) (by omega) aa.out⟩
     clear A B;obtain⟨b2,o2,y,_,A,B⟩:=(HO.out t.out.kst).get k s
     cases y;rw[h_qt] at A;rw[h_tx] at B;go_wp2_with fail;go_region_with (go_at_call 54;refine (F.out _ (Below.refl _ _).drew).mono ?_;rintro e w5 ⟨rfl,v5,L5⟩)
     all_goals
      go_wp2;go_roundw
      case rel=>exact⟨k+1,_,_,by omega,by go_num,L5⟩
      case measure=>simp[intOf];omega
  ·go_wp2;go_ret;exact HL.out.ste (by omega) true
end
end Go.Proofs.YtinaollfjiddmaaGreatDoor
