import Derived.Test.YtinaollfjiddmaaGreatDoorA22
import Derived.Test.YtinaollfjiddmaaGreatDoorA24
import Derived.Test.YtinaollfjiddmaaGreatDoorA34
set_option maxRecDepth 100000
set_option maxHeartbeats 8000000
set_option linter.all false
namespace Go.Proofs.YtinaollfjiddmaaGreatDoor
open Go.Value renaming int→I,slice→Y,string→Z,pointer→Zp
open Go.Ending renaming returned→Zr
open _root_.ByteArray renaming empty→Ze
open Go.IntKind renaming i64→J
open Option renaming none→O
open Go.RowKit
section
variable {N:Nat} {w w':World} {g:Nat} {K K':Kw} {V V':Kv}
def iE (K:Kw) (q:Nat) (x:Nod):Kw:={ K with nds:=K.nds.set q x }
theorem AO {q:Nat} {x:Nod} (hq:q<K.nds.length):(iE K q x).nds[q]? = some x:=List.getElem?_set_self hq
theorem KI.iE (h:KI K) {q:Nat} {x x1:Nod} (hx:K.nds[q]? = some x) (hn:NI K.n q x1):KI (iE K q x1) :=
 ⟨⟨h.sz.n3,h.sz.n7,by have:=h.sz.nds;simpa [Go.Proofs.YtinaollfjiddmaaGreatDoor.iE] using this,h.sz.down,h.sz.begun,h.sz.opn⟩,h.part,fun j y a=>by
  unfold Go.Proofs.YtinaollfjiddmaaGreatDoor.iE at a;simp only at a
  by_cases e:q=j
  ·subst e;rw[List.getElem?_set_self (List.getElem?_eq_some_iff.1 hx).1] at a;cases a;exact hn
  ·rw[List.getElem?_set_ne e] at a;exact h.nod j y a,h.net,h.wish,h.opn,h.list,h.grps,h.li,h.gl⟩
structure DnP (K:Kw) (q:Nat) (x:Nod) (R':Rp):Prop where
 dn:Done x.R (Mq K q) R'
 ok:Ok R'
 rc:Rp.RcI R'
 id:R'.id=x.R.id
 n:R'.n=x.R.n
structure Did (N:Nat) (w w1:World) (g:Nat) (K:Kw) (V:Kv) (q:Nat) (x x1:Nod) (c:Nat) (vl:Value) (l:List (Int×ByteArray)):Prop where
 kst:Kst N w w1 g K V (iE K q x1) V
 ki:KI (iE K q x1)
 ms:dS (iE K q x1)+l.length≤dS K+c
 out:D6 w1 vl l
 fr:Fr (je g (iE K q x1) V) vl
 lt:∀ k,vl.ownBlock=some k→k<w1.heap.size
 sil:x1.R.status=3→∀ y∈l,Rp.l5 y.2
 bx:x1.b=x.b
 ex:∃ R',DnP K q x R'∧x1.R={ R' with out:=[] }∧l=R'.out
theorem C8 {w1:World} {q:Nat} {x:Nod} {R':Rp} {c:Nat} {vt:Value} {W' F':List Nat} {V1:Rv} (h:KAt N w g K V) (hi:KI K) (hx:K.nds[q]? = some x) (ha:ActP x.R R' c) (hdn:Done x.R (Mq K q) R') (ht:kU w w1 x.b x.bl x.W x.F R' vt W' F' V1):Did N w w1 g K V q x ⟨x.b,x.bl,W',F',{ R' with out:=[] },V1⟩ c vt R'.out:=by
 have j:=hi.nod q x hx;have s:=h.nodes x (List.mem_of_getElem? hx);have l:NI K.n q ⟨x.b,x.bl,W',F',{ R' with out:=[] },V1⟩:=⟨ha.ok,ha.sv,ha.rc,rfl,ht.vt0,by show R'.id=_;rw[ha.id];exact j.id,by show R'.n=_;rw[ha.n];exact j.n⟩
 have f:=h.nod (x':=⟨x.b,x.bl,W',F',{ R' with out:=[] },V1⟩) hx rfl (ht.kp.wid s.wf) ht.rp ht.g
 have o:dB g (iE K q ⟨x.b,x.bl,W',F',{ R' with out:=[] },V1⟩) V=(dB g K V).set (q+9) F':=uo (K:=K) (K':=iE K q ⟨x.b,x.bl,W',F',{ R' with out:=[] },V1⟩) (x':=⟨x.b,x.bl,W',F',{ R' with out:=[] },V1⟩) rfl rfl
 refine⟨f,hi.iE hx l,?_,Rd.bX ht.out,fun k f r=>?_,fun k f=>(ht.out.lt k f).2,ha.sil,rfl,⟨R',⟨hdn,ha.ok,ha.rc,ha.id,ha.n⟩,rfl,rfl⟩⟩
 ·have e:=Ab K.nds q x ⟨x.b,x.bl,W',F',{ R' with out:=[] },V1⟩ hx
  have b1:=Rp.Px j.ok;have v:=Rp.Px ha.ok;have m:=ha.mz;have t:Rp.mz ({ R' with out:=[] }:Rp)=Rp.mz R':=rfl
  unfold dS iE;simp only at e ⊢
  rw[t] at e;omega
 ·unfold je at r;rw[o] at r;obtain⟨d,u,a⟩:=List.mem_flatten.1 r
  obtain⟨i,hi⟩:=List.getElem?_of_mem u
  by_cases e:q+9=i
  ·subst e;rw[List.getElem?_set_self (List.getElem?_eq_some_iff.1 (zP (g:=g) (V:=V) hx)).1] at hi;cases hi;exact ht.fr k f a
  ·rw[List.getElem?_set_ne e] at hi;rcases ht.at_ k f with p|p
   ·exact h.ap.ne (zP hx) hi e k p a
   ·have:=h.lt d (List.mem_of_getElem? hi) k a
    omega
def DidE (N:Nat) (w w1:World) (g:Nat) (K:Kw) (V:Kv) (q:Nat) (x:Nod) (c:Nat) (e:Ending):Prop:=∃ x1 vl l,e=Zr vl∧Did N w w1 g K V q x x1 c vl l
theorem StE.pre {w1:World} {K1:Kw} {V1:Kv} {c d:Nat} {e:Ending} (h:StE N w1 w' g K1 V1 d e) (k:Kst N w w1 g K V K1 V1) (hm:dS K1+d≤dS K+c) (hnet:K.net.length≤K1.net.length) (hn:K1.n=K.n):StE N w w' g K V c e:=by
 obtain⟨b,a,f,rfl,s⟩:=h
 exact⟨b,a,f,rfl,k.trans s.kst,s.ki,by have:=s.ms;omega,Nat.le_trans hnet s.net,s.n.trans hn,s.gr⟩
section
variable {w1 w2 w3:World} {q:Nat} {x x1:Nod} {c:Nat} {vl:Value} {l:List (Int×ByteArray)} {K3:Kw} {V3:Kv}
def rnet (K:Kw) (q:Nat) (l:List (Int×ByteArray)):List (Int×Int×ByteArray):=K.net++l.map (fun o=>((q:Int),o.1,o.2))
def Gl (q:Nat) (l:List (Int×ByteArray)) (K:Kw):Prop:=CI { K with net:=rnet K q l }
theorem Gl.gr (h:Gl q l K):CI K:=CI.sub h (fun _ hp=>List.mem_append_left _ hp)
theorem FD (h:KAt N w g K V) (hb1:Below w.heap.size w w1) (D:Did N w1 w2 g K V q x x1 c vl l) (hq:q<K.nds.length) (hm:dS K+c≤900000000000) (A:Ag N w2 w3 g (iE K q x1) V K3 V3) (gr:Gl q l K3) (ho:∀ o∈l,OI K3.list (wt K3.wishes) K3.groups K3.begun K3.n q o) :
  Calls Tryz.prog 62 #[Zp (some ⟨g,0,O⟩),I J q,vl] w3 fun e w'=>StE N w w' g K V c e:=by
 have a:q<K3.nds.length:=by rw[A.nds];simpa [iE] using hq
 have b:K3.nds[q]=x1:=by
  have e:=AO (K:=K) (x:=x1) hq;rw[← A.nds,List.getElem?_eq_getElem a] at e;exact Option.some.inj e
 have j:=D.ms;have m:=A.dS;refine (GQ A.kst.at_ A.ki gr (fun _ f=>List.mem_append_left _ f) q a vl l (Rd.kp D.out A.kst.kp D.fr (fun _ h=>h)) (fun k d i=>?_) (by rw[b];exact D.sil) (fun o h=>⟨ho o h,List.mem_append_right _ (List.mem_map.2 ⟨o,h,rfl⟩)⟩) (by omega)).mono ?_
 ·rcases A.kst.sub k i with p|p
  ·exact D.fr k d p
  ·have:=D.lt k d;omega
 ·intro e w' hs;exact hs.pre (((Kst.refl h).below hb1).trans (D.kst.trans A.kst)) (by omega) (by rw[A.net];exact Nat.le_refl _) A.n
theorem PV (ci:CI K) (hi:KI K) (hx:K.nds[q]? = some x) (D:Did N w1 w2 g K V q x x1 c vl l) :
  GI (iE K q x1).list (iE K q x1).groups (iE K q x1).n ∧
  (Cmp (iE K q x1).list (x1.R.log.take x1.R.decided)∧So (x1.R.log.take x1.R.decided)∧∀ e∈x1.R.log,∃ v∈(iE K q x1).wishes,v.e=e) ∧
  ((iE K q x1).list <+: x1.R.log.take x1.R.decided→∀ k,(iE K q x1).list.length≤k→k<x1.R.decided→∀ v∈(iE K q x1).wishes,v.e=x1.R.log.getD k en0→v.bad=false∧v.floor≤(k:Int)) ∧
  (x1.R.status≠3→∀ L' G',(iE K q x1).list <+: L'→(iE K q x1).groups <+: G'→GI L' G' (iE K q x1).n→x1.R.decided≤L'.length→x1.R.log.take x1.R.decided=L'.take x1.R.decided →
   x1.R.epoch<(G'.length:Int)∧lC x1.R.grp=G'.getD x1.R.epoch.toNat ⟨#[]⟩∧(gW x1.R.grp x1.R.id=true↔(x1.R.status=1∨x1.R.status=2))∧(x1.R.status=1→(regs x1.R.log:Int)=x1.R.epoch∨(regs x1.R.log:Int)=x1.R.epoch+1)):=by
 obtain⟨u,d,e,_⟩:=D.ex
 rw[e];have f:=Im ci hi hx d.dn;have a:=KZ ci hi hx d.dn d.rc d.id d.n d.ok;refine⟨ci.gi,⟨f.1,f.2,a⟩,fun i k j b=>Oa ci hi hx d.dn d.rc d.id d.n d.ok i j b,fun m L' G' o p h r s=>?_⟩
 have t:=yV ci hi hx d.dn d.rc d.id (L':=L') (G':=G') ⟨o,p,h,fun _=>⟨r,s⟩⟩
 exact (Le h t m).2
theorem LH (ci:CI K) (hi:KI K) (hx:K.nds[q]? = some x) (D:Did N w1 w2 g K V q x x1 c vl l) (A:Ag N w2 w3 g (iE K q x1) V K3 V3)
  (hg:(x1.R.status≠3→x1.R.decided≤K3.list.length∧x1.R.log.take x1.R.decided=K3.list.take x1.R.decided)∧K3.begun=pR (iE K q x1).begun q x1.R∧(K3.list=(iE K q x1).list∨K3.list <+: x1.R.log.take x1.R.decided)):Gl q l K3∧∀ o∈l,OI K3.list (wt K3.wishes) K3.groups K3.begun K3.n q o:=by
 obtain⟨k,d,e,rfl⟩:=D.ex
 have m:=hi.nod q x hx;obtain⟨s,t,i⟩:=hg
 rw[e] at s t i;have j:K3.begun=pR K.begun q k:=t
 have Nx:Nxt K k K3.list K3.groups:=⟨A.li,A.gg,A.gi ci.gi,s⟩
 have u:=yV ci hi hx d.dn d.rc d.id Nx;have h:K3.wishes=K.wishes:=A.wl
 have f:K3.n=K.n:=A.n
 refine⟨ci.act hi hx d.dn d.rc d.id d.n e Nx (fun y v=>by have:=A.ki.list.2 y v;rw[f] at this;exact this) (W':=K.wishes) ⟨rfl,fun w h=>⟨w,h,rfl⟩,ci.un,fun w h r=>?_⟩ i (net':=rnet K3 q k.out) (fun p B=>by
  rcases List.mem_append.1 B with z|z
  ·exact .inl (by have:=A.net;rw[this] at z;exact z)
  ·obtain⟨o,C,rfl⟩:=List.mem_map.1 z
   exact .inr fun _=>⟨o,C,rfl⟩) m.ou (K':={ K3 with net:=rnet K3 q k.out }) A.nds rfl rfl j h rfl f A.fl A.lv,fun o F=>?_⟩
 ·obtain⟨a,b⟩:=ci.bd w h r
  refine⟨a,b.imp id fun ⟨E,e0,e1,e2,e3⟩=>⟨E,e0,e1,?_,e3⟩⟩
  have:=(Nx.up (q:=q) ci).regs
  omega
 ·rcases u.out o F with z|z
  ·rw[m.ou] at z;simp at z
  ·rw[h,j,f];rw[m.n] at z;have:x.R.id=q:=m.id
   rw[this] at z;exact z
theorem Ag.same (A:Ag N w w1 g K V K3 V3) (k:Kst N w1 w2 g K3 V3 K3 V3):Ag N w w2 g K V K3 V3:=⟨A.kst.trans k,A.ki,A.nds,A.net,A.n,A.wl,A.lv,A.gl,A.fl,A.li,A.gg,A.gi⟩
theorem Ag.top {u:Int} (A:Ag N w w1 g K V K3 V3) (k:Kst N w1 w2 g K3 V3 { K3 with top:=u } V3):Ag N w w2 g K V { K3 with top:=u } V3:=⟨A.kst.trans k,⟨⟨A.ki.sz.n3,A.ki.sz.n7,A.ki.sz.nds,A.ki.sz.down,A.ki.sz.begun,A.ki.sz.opn⟩,A.ki.part,A.ki.nod,A.ki.net,A.ki.wish,A.ki.opn,A.ki.list,A.ki.grps,A.ki.li,A.ki.gl⟩,A.nds,A.net,A.n,A.wl,A.lv,A.gl,A.fl,A.li,A.gg,A.gi⟩
theorem Qp (h:KAt N w g K V) (hb1:Below w.heap.size w w1) (hq:q<K.nds.length) (D:Did N w1 w2 g K V q x x1 c vl l) (A:Ag N w2 w3 g (iE K q x1) V K3 V3) (ci3:CI K3) (h3:x1.R.status≠3) :
  Calls Tryz.prog 61 #[Zp (some ⟨g,0,O⟩),I J q] w3 fun e w'=>(e=Zr (.bool true)∧Ag N w2 w' g (iE K q x1) V K3 V3)∨(e=Zr (.bool false)∧StE N w w' g K V c (Zr (.bool false))):=by
 have f:=AO (K:=K) (x:=x1) hq;have a:q<K3.nds.length:=by rw[A.nds];simpa [iE] using hq
 have d:K3.nds[q]=x1:=by
  have e:=f;rw[← A.nds,List.getElem?_eq_getElem a] at e;exact Option.some.inj e
 have i:x1∈K3.nds:=by rw[← d];exact List.getElem_mem a
 have j:=A.ki.nod q x1 (by rw[A.nds];exact f)
 refine (Bg A.kst.at_ A.ki.sz q a (by rw[d];exact j.ok.ep.1) (by rw[d];exact (Gr.ep ci3 x1 i).resolve_left h3) (fun t m=>by have:=A.ki.gsz t m;omega)).mono ?_
 rintro e w' ⟨b,r,rfl,k,o,p⟩;cases b
 ·obtain rfl:=p rfl;have s:=D.ms;have u:=A.dS;exact .inr ⟨rfl,false,_,_,rfl,((Kst.refl h).below hb1).trans ((D.kst.trans A.kst).trans k),A.ki.fails (by unfold tQ;omega),by show dS K3≤_;omega,by show K.net.length≤K3.net.length;rw[A.net];exact Nat.le_refl _,A.n,fun h=>by simp at h⟩
 ·obtain rfl:=o rfl;exact .inl ⟨rfl,A.same k⟩
end
theorem xB (h:KAt N w g K V) (hi:KI K) (gr:Gr K) (q:Nat) (hq:q<K.nds.length) (s:ByteArray) (kd:Int) (cc:Nat) (hk:(kd=0∧cc=1∧Mt K q s)∨(kd=1∧cc=50)∨(kd=2∧cc=50)) (hm:dS K+cc≤900000000000) :
  Calls Tryz.prog 33 #[Zp (some ⟨g,0,O⟩),I J q,I J kd,Z s] w fun e w'=>StE N w w' g K V cc e:=by
 have z:=hi.sz;obtain⟨n,hn,z3,z1,z7,zd,zb,br⟩:=z.all
 have bc:=ah (h.cv 1 rfl (congrArg (Value.int .i64) hn));obtain⟨aN,cN,ad⟩:=aj h.rN
 have Q:=ah (h.cv 2 rfl ad);have HN:=ah (fun (d:World) (f:Below w.heap.size w d)=>KAt.ptr h ad f)
 obtain⟨aD,cD,ae⟩:=aj h.rD
 have af:=ah (h.cv 3 rfl ae);have HD:=ah (fun (d:World) (f:Below w.heap.size w d)=>KAt.dwn h ae f)
 have ai:=ah (fun (d:World) (f:Below w.heap.size w d)=>KAt.whr h f)
 obtain⟨x,B⟩:∃ x,K.nds[q]=x:=⟨_,rfl⟩
 have E:K.nds[q]? = some x:=by rw[List.getElem?_eq_getElem hq,B]
 have i:=hi.nod q x E;have HQ:=ah (ai.out w (Below.refl _ _) q hq);rw[B] at HQ;have bd:q<K.down.length:=by omega
 obtain⟨b1,o1,rfl,_,d1⟩:=HN.out w (Below.refl _ _) q hq
 obtain⟨b2,o2,rfl,_,d2⟩:=HD.out w (Below.refl _ _) q bd
 have c2:=Q.out w (Below.refl _ _);have c3:=af.out w (Below.refl _ _);rw[B] at d1;have j1:(0:Int)≤(q:Int):=by omega
 have j2:(q:Int)<(K.nds.length:Int):=by omega
 have j3:(q:Int)<(K.down.length:Int):=by omega
 have HY:Hid (StE N w w g K V cc (Zr (.bool true))):=⟨true,K,V,rfl,Kst.refl h,hi,by omega,Nat.le_refl _,rfl,fun _=>gr⟩
 have ak:Hid (kd=0→∀ d,Below w.heap.size w d→Calls Tryz.prog 9 #[Zp (some ⟨x.b,0,O⟩),Z s] d fun e w'=>DidE N d w' g K V q x cc e):=fun am d f=>by
  obtain⟨_,rfl,be⟩:=hk.resolve_right (by omega)
  have F:=h.below f;refine (sJ (F.nodes x (List.mem_of_getElem? E)) i.ok i.sv i.ou i.vt s).mono ?_;rintro e t ⟨R',bg,vt,W',F',V1,rfl,ht⟩;rcases bg with ⟨_,rfl⟩|⟨hw,P,hP,hM,rfl⟩
  ·exact⟨_,vt,_,rfl,C8 F hi E (D9 i.ok i.sv i.rc i.ou (.inl rfl)) .same ht⟩
  ·exact⟨_,vt,_,rfl,C8 F hi E (D9 i.ok i.sv i.rc i.ou (.inr ⟨P,hP,rfl⟩)) (.take P hP ⟨s,be,by rw[← i.n];exact hw,by rw[← i.n];exact hM⟩) ht⟩
 have an:Hid (kd=1→∀ d,Below w.heap.size w d→Calls Tryz.prog 58 #[Zp (some ⟨x.b,0,O⟩)] d fun e w'=>DidE N d w' g K V q x cc e):=fun am d f=>by
  obtain rfl:cc=50:=by omega
  have F:=h.below f;refine (MF (F.nodes x (List.mem_of_getElem? E)) i.ok i.ou).mono ?_;rintro e t ⟨vt,W',F',V1,rfl,ht⟩;exact⟨_,vt,_,rfl,C8 F hi E (KX i.ok i.sv i.rc i.ou) .lu ht⟩
 have ao:Hid (kd=2→∀ d,Below w.heap.size w d→Calls Tryz.prog 59 #[Zp (some ⟨x.b,0,O⟩)] d fun e w'=>DidE N d w' g K V q x cc e):=fun am d f=>by
  obtain rfl:cc=50:=by omega
  have F:=h.below f;refine (Fa (F.nodes x (List.mem_of_getElem? E)) i.ok i.ou).mono ?_;rintro e t ⟨vt,W',F',V1,rfl,ht⟩;exact⟨_,vt,_,rfl,C8 F hi E (D8 i.ok i.sv i.rc i.ou) .suspect ht⟩
 have bh:kd=0∨kd=1∨kd=2:=by omega
 clear hk;have bi:Hid (∀ d,Below w.heap.size w d→d.cell? ⟨g,2,O⟩=some (Y (some ⟨b1,o1,O⟩) K.nds.length cN)∧d.cell? ⟨b1,o1+q,O⟩=some (Zp (some ⟨x.b,0,O⟩))):=fun d f=>by
  obtain⟨b3,o3,e3,_,d3⟩:=HN.out d f q hq
  cases e3;rw[B] at d3;exact⟨Q.out d f,d3⟩
 have HX:=ah E;have ap:=ah gr;have aq:=ah hi;have HH:=ah h;clear h hi gr z i E ai HN HD B bc Q af;generalize K.down[q]=dq at *;cases dq
 ·obtain⟨r1,S⟩:∃ r,r=x.R.epoch:=⟨_,rfl⟩
  obtain⟨r3,T⟩:∃ r,r=x.R.status:=⟨_,rfl⟩
  rw[← S,← T] at HQ;have bs:=ah S;have bt:=ah T;clear S T;generalize x.R.view=r2 at *;generalize x.R.decided=r4 at HQ;rcases bh with rfl|rfl|rfl
  focus have U:=ah (ak.out rfl)
  rotate_left
  focus have U:=ah (an.out rfl)
  rotate_left
  focus have U:=ah (ao.out rfl)
  rotate_left
  all_goals
   clear ak an ao;go_enter Tryz.func33,Tryz.ntmps33;go_wp2_with fail;refine HQ.out.mono ?_;rintro e w1 ⟨rfl,nn,ar⟩;have G:Below w.heap.size w w1:=by rw[ar];exact below_drewN (Below.refl _ _) nn
   clear ar c2 c3 d1 d2;obtain⟨c2,d1⟩:=bi.out _ G
   generalize hxb:x.b=bb at *;go_wp2_with fail;refine (U.out _ G).mono ?_;rintro e d ⟨u,vl,l,rfl,D⟩;have W:=AO (K:=K) (x:=u) hq;have HD:=ah D;obtain⟨av,aw,ax,az⟩:=PV ap.out aq.out HX.out D
   have bj:=ah (Eu D.kst.at_ D.ki q u W av aw ax az);clear av aw ax az;have a0:=ah W;obtain⟨al,nl,cl,bk⟩:∃ a n c,vl=Y a n c:=by
    obtain⟨a,c,e,_⟩:=Rd.form D.out
    exact⟨a,_,c,e⟩
   subst bk;clear D W c2 d1;have H:Hid (∀ {t:World} {K3:Kw} {V3:Kv},Ag N d t g (iE K q u) V K3 V3→Gl q l K3→(∀ o∈l,OI K3.list (wt K3.wishes) K3.groups K3.begun K3.n q o)→Calls Tryz.prog 62 #[Zp (some ⟨g,0,O⟩),I J q,Y al nl cl] t fun e w'=>StE N w w' g K V cc e):=fun A gr ho=>FD HH.out G HD.out hq hm A gr ho
   have bl:Hid (∀ {t:World} {K3:Kw} {V3:Kv},Ag N d t g (iE K q u) V K3 V3→Gl q l K3→u.R.status=4→Calls Tryz.prog 61 #[Zp (some ⟨g,0,O⟩),I J q] t fun e w'=>(e=Zr (.bool true)∧Ag N d w' g (iE K q u) V K3 V3)∨(e=Zr (.bool false)∧StE N w w' g K V cc (Zr (.bool false)))):=fun A gr h4=>Qp HH.out G hq HD.out A gr.gr (by omega)
   have a1:=ah (fun (t:World) (K3:Kw) (V3:Kv) (A:Ag N d t g (iE K q u) V K3 V3) hg=>LH ap.out aq.out HX.out HD.out A hg)
   go_wp2_with fail;refine bj.out.mono ?_;rintro e t ⟨j,V2,rfl,A,a2⟩;have k:=ah A;clear A
   ·obtain⟨a3,a4⟩:=a1.out _ _ _ k.out a2
    have X:Hid (Gl q l j):=a3
    have a5:=ah a4;clear a2 a3 a4 a1;obtain⟨bu,bm,M⟩:=aj k.out.kst.at_.rN
    have a6:q<j.nds.length:=by rw[k.out.nds];simpa [iE] using hq
    have a7:j.nds[q]=u:=by
     have e:=a0.out;rw[← k.out.nds,List.getElem?_eq_getElem a6] at e;exact Option.some.inj e
    obtain⟨b4,o4,rfl,_,d4⟩:=k.out.kst.at_.ptr M (Below.refl _ _) q a6
    have c2:t.cell? ⟨g,2,O⟩=some (Y (some ⟨b4,o4,O⟩) j.nds.length bm):=by rw[← M];exact k.out.kst.at_.cell 2
    have j4:(q:Int)<(j.nds.length:Int):=by omega
    rw[a7] at d4;have aa:=ah (sK (k.out.node a0.out));generalize u.b=bv at *;obtain⟨s1,ab⟩:∃ r,r=u.R.epoch:=⟨_,rfl⟩
    obtain⟨s3,ac⟩:∃ r,r=u.R.status:=⟨_,rfl⟩
    rw[← ab,← ac] at aa;have bw:=ah ab;have bn:=ah ac;clear ab ac;generalize u.R.view=v at *;generalize u.R.decided=s4 at aa;clear a7;go_wp2_with fail;refine aa.out.mono ?_;rintro e w4 ⟨rfl,bo,a8⟩;have k:=ah (k.out.below (by rw[a8];exact below_drewN (Below.refl _ _) bo:Below t.heap.size t w4))
    clear a8 c2 d4;have c6:w4.cell? ⟨g,6,O⟩=some (I J j.top):=k.out.kst.at_.cell 6
    have f6:=k.out.kst.at_.free 6;by_cases bx:j.top<v
    focus
     have m:Hid (Ag N d (w4.setCell ⟨g,6,O⟩ (I J v)) g (iE K q u) V { j with top:=v } V2):=k.out.top (k.out.kst.at_.scalar (K':={ j with top:=v }) 6 (I J v) rfl rfl rfl)
     have y:Hid (Gl q l { j with top:=v }):=CI.top X.out v
     have C:Hid (∀ o∈l,OI ({ j with top:=v }:Kw).list (wt ({ j with top:=v }:Kw).wishes) ({ j with top:=v }:Kw).groups ({ j with top:=v }:Kw).begun ({ j with top:=v }:Kw).n q o):=a5
     clear k X;go_upto_region 17 with fail
     clear c6 f6;generalize w4.setCell ⟨g,6,O⟩ (I J v)=wZ at *
    rotate_left
    focus
     have m:=k;have y:=X;have C:=a5
    rotate_left
    all_goals
     by_cases r5:r3=5
     ·subst r5;by_cases r4:s3=4
      ·have bp:=ah (bl.out m.out y.out (bn.out.symm.trans r4));subst r4;by_cases L:r1=s1
       ·have a9:(r1==s1)=true:=beq_iff_eq.2 L
        clear L;go_wp2_with fail;refine bp.out.mono ?_;rintro e w6 (⟨rfl,A6⟩|⟨rfl,ba⟩)
        ·have m:=ah A6;clear A6;go_wp2_with fail;refine (H.out m.out y.out C.out).mono ?_;rintro e w9 ⟨b9,K9,V9,rfl,p⟩;go_wp2;go_ret;exact⟨b9,K9,V9,rfl,p⟩
        ·have bq:=ah ba;clear ba;go_wp2;go_ret;exact bq.out
       ·have a9:(r1==s1)=false:=beq_eq_false_iff_ne.2 L
        clear L;go_wp2_with fail;refine (H.out m.out y.out C.out).mono ?_;rintro e w9 ⟨b9,K9,V9,rfl,p⟩;go_wp2;go_ret;exact⟨b9,K9,V9,rfl,p⟩
      ·have bz:(s3==4)=false:=beq_eq_false_iff_ne.2 r4
       clear r4;go_wp2_with fail;refine (H.out m.out y.out C.out).mono ?_;rintro e w9 ⟨b9,K9,V9,rfl,p⟩;go_wp2;go_ret;exact⟨b9,K9,V9,rfl,p⟩
     ·have b5:(r3==5)=false:=beq_eq_false_iff_ne.2 r5
      clear r5;go_wp2_with fail;refine (H.out m.out y.out C.out).mono ?_;rintro e w9 ⟨b9,K9,V9,rfl,p⟩;go_wp2;go_ret;exact⟨b9,K9,V9,rfl,p⟩
 ·go_enter Tryz.func33,Tryz.ntmps33;go_wp2;go_ret;exact HY.out
theorem Gu (h:KAt N w g K V) (hi:KI K) (gr:Gr K) (q:Nat) (hq:q<K.nds.length) (s:ByteArray) (hnt:Mt K q s) (hm:dS K+1≤900000000000):Calls Tryz.prog 33 #[Zp (some ⟨g,0,O⟩),I J q,I J 0,Z s] w fun e w'=>StE N w w' g K V 1 e:=xB h hi gr q hq s 0 1 (.inl ⟨rfl,rfl,hnt⟩) hm
theorem uq (h:KAt N w g K V) (hi:KI K) (gr:Gr K) (q:Nat) (hq:q<K.nds.length) (s:ByteArray) (hm:dS K+50≤900000000000):Calls Tryz.prog 33 #[Zp (some ⟨g,0,O⟩),I J q,I J 1,Z s] w fun e w'=>StE N w w' g K V 50 e:=xB h hi gr q hq s 1 50 (.inr (.inl ⟨rfl,rfl⟩)) hm
theorem zR (h:KAt N w g K V) (hi:KI K) (gr:Gr K) (q:Nat) (hq:q<K.nds.length) (s:ByteArray) (hm:dS K+50≤900000000000):Calls Tryz.prog 33 #[Zp (some ⟨g,0,O⟩),I J q,I J 2,Z s] w fun e w'=>StE N w w' g K V 50 e:=xB h hi gr q hq s 2 50 (.inr (.inr ⟨rfl,rfl⟩)) hm
end
end Go.Proofs.YtinaollfjiddmaaGreatDoor
