import Derived.Test.YtajakaadgagejaaGreatDoorA41
set_option maxRecDepth 100000
set_option maxHeartbeats 8000000
set_option linter.unusedVariables false
set_option linter.unusedSimpArgs false
set_option linter.unusedSectionVars false
namespace Go.Proofs.YtajakaadgagejaaGreatDoor
open Go.Value renaming int→I,slice→Y,string→Z,pointer→Zp
open Go.Ending renaming returned→Zr
open _root_.ByteArray renaming empty→Ze
open Go.IntKind renaming i64→J
open Option renaming none→O
open Go.RowKit
theorem BO {P:Program} {ops:Array Oper} {rest:List Oper} {o:Oper} {a:Act} {Q:Exit→Act→World→Prop} (hgd:o.guard=O) (s x:Operand) (t:TypeId)
  (ho:o.op=.call { callee:=.builtin .append,args:=#[s,x],argTypes:=#[t,t] })
  (base:Nat) (e:TypeId) (i:TypeInfo) (z:Value) (size bytes:Nat) (ht:P.underlying t=some (.slice e)) (hi:P.info? e=some i) (hz:i.zero=some z)
  (hsize:i.size=size) (hby:i.bytes=bytes) (hzs:z.cells.size=size) (hsz:0<size)
  (w:World) (v:Value) (n:Nat) (xs:List Value) (hs:a.eval s=v) (hown:w.ownsRow base e size v n xs)
  (vx:Value) (m:Nat) (news:List Value) (hx:a.eval x=vx) (hrd:Rd w size vx m news) (h1:∀ u∈news,u.oneCell'=true)
  (hn:n+m≤maxLen) (hm:(n+m)*bytes≤140737488355328) (hbase:base≤w.heap.size)
  (h:∀ v' w',w'.ownsRow base e size v' (n+m) (xs++news)→w.grownBy w' v.ownBlock→Below base w w'→wpList P ops Q rest (a.put o.dst v') w') :
  wpList P ops Q (o :: rest) a w:=by
 rcases hrd.2 with ⟨rfl,rfl⟩|⟨b,off,cap,rfl,h2,h3,h4,h5⟩
 ·have hnil:news=[]:=List.eq_nil_of_length_eq_zero (by have:=hrd.1;omega)
  subst hnil;refine wpList_append_own_none hgd s x t ho base e i size ht hi v n xs hs hown hx ?_;exact h v w (by simpa using hown) ⟨rfl,rfl,rfl,Nat.le_refl _,fun _ _ _=>rfl⟩ (Below.refl _ _)
 ·refine wpList_append_own _ hgd s x t ho base e i z size bytes ht hi hz hsize hby hzs hsz v n xs hs hown ⟨b,off,O⟩ m cap news hx hrd.1 ?_ h1 hn hm hbase ?_
  ·intro j u hj;have hplain:(⟨b,off,O⟩:Addr).add j=⟨b,off+j,O⟩:=by unfold Addr.add;split <;> simp_all
   rw[hplain];exact h5 j u hj
  ·intro v' w' k2 k3 _;exact h v' w' k2 k3 ((Below.refl _ w).grown k3 hbase (fun k hk=>(hown.lt k hk).1))
theorem mK (l:List (Int×Int×ByteArray)):(aA l).length=l.length*3:=by
 induction l with
 | nil=>rfl
 | cons a l ih=>simp[aA] at *;omega
theorem FC {l:List (Int×Int×ByteArray)} {w:World} {b off:Nat} (hce:∀ j u,(aA l)[j]? = some u→w.cell? ⟨b,off+j,O⟩=some u) (k:Nat):∀ j u,(aA (l.take k))[j]? = some u→w.cell? ⟨b,off+j,O⟩=some u:=fun j u hj=>by
 refine hce j u ?_;rw[← List.take_append_drop k l,jL,List.getElem?_append_left (List.getElem?_eq_some_iff.1 hj).1];exact hj
theorem FB {l:List (Int×Int×ByteArray)} {w:World} {b off:Nat} (hce:∀ j u,(aA l)[j]? = some u→w.cell? ⟨b,off+j,O⟩=some u) (k:Nat) (hk:k≤l.length):∀ j u,(aA (l.drop k))[j]? = some u→w.cell? ⟨b,off+k*3+j,O⟩=some u:=fun j u hj=>by
 have hl:(aA (l.take k)).length=k*3:=by rw[mK,List.length_take,Nat.min_eq_left hk]
 have:=hce (k*3+j) u (by
  rw[← List.take_append_drop k l,jL,List.getElem?_append_right (by omega),hl,Nat.add_sub_cancel_left]
  exact hj)
 rwa [← Nat.add_assoc] at this
section
variable {N:Nat} {w w':World} {g:Nat} {K K':Kw} {V V':Kv}
theorem zP (h:KAt N w g K V) (k:Nat) (hk:k<K.net.length) (hl:K.net.length≤1000000000000) :
  Calls Tryz.prog 58 #[Zp (some ⟨g,0,O⟩),I J k] w fun e w'=>e=Zr (.tuple #[])∧∃ v,Kst N w w' g K V { K with net:=K.net.take k++K.net.drop (k+1) } { V with vP:=v }:=by
 obtain⟨i0,hi,hz0,hz1,hz2⟩:=info_parts Tryz.infoPk
 have hrow:Rd w 3 V.vP K.net.length (aA K.net):=Rd.bK h.rP
 have c7:w.cell? ⟨g,7,O⟩=some V.vP:=h.cell 7
 have f7:=h.free 7;have hne:some g≠V.vP.ownBlock:=h.gne (i:=3) rfl
 rcases hrow.2 with ⟨h1,h2⟩|⟨b,off,cap,hvP,hcap,hmax,hbl,hce⟩
 ·omega
 rw[hvP] at c7 hne;have hlb:=h.lb;have HH:=ah h;clear h;have j1:(0:Int)≤(k:Int):=by omega
 have j2:(k:Int)<(K.net.length:Int):=by omega
 have j3:(k:Int)≤(cap:Int):=by omega
 unfold maxLen at hmax;have hT:Rd w 3 (Y (some ⟨b,off,O⟩) k cap) k (aA (K.net.take k)):=⟨by rw[mK,List.length_take,Nat.min_eq_left (by omega)],.inr ⟨b,off,cap,rfl,by omega,by unfold maxLen;omega,hbl,FC hce k⟩⟩
 have HD:Hid (∀ w2,Below w.heap.size w w2→Rd w2 3 (Y (some ⟨b,off+(k+1)*3,O⟩) (K.net.length-(k+1)) (cap-(k+1))) (K.net.length-(k+1)) (aA (K.net.drop (k+1)))):=fun w2 hw2 =>
  Rd.below (w:=w) ⟨by rw[mK,List.length_drop],.inr ⟨b,_,_,rfl,by omega,by unfold maxLen;omega,hbl,FB hce (k+1) (by omega)⟩⟩ hw2
 have HO:Hid (∀ l:List (Int×Int×ByteArray),∀ u∈aA l,u.oneCell'=true):=fun l=>BZ l
 clear hce hrow;have HN:Hid (∀ v2 w2,Below w.heap.size w w2→w2.ownsRow w.heap.size 102 3 v2 (k+(K.net.length-(k+1))) (aA (K.net.take k)++aA (K.net.drop (k+1)))→Kst N w (w2.setCell ⟨g,7,O⟩ v2) g K V { K with net:=K.net.take k++K.net.drop (k+1) } { V with vP:=v2 }):=fun v2 w2 hb2 ho2=>by
  have hl2:(K.net.take k++K.net.drop (k+1)).length=k+(K.net.length-(k+1)):=by
   rw[List.length_append,List.length_take,List.length_drop,Nat.min_eq_left (by omega)]
  exact HH.out.newRow (V':={ V with vP:=v2 }) (K':={ K with net:=K.net.take k++K.net.drop (k+1) }) (i:=3) (w1:=w2) (r:=⟨102,3,V.vP,K.net.length,aA K.net⟩) (r':=⟨102,3,v2,(K.net.take k++K.net.drop (k+1)).length,aA (K.net.take k++K.net.drop (k+1))⟩) rfl
   (Kp.of_below hb2) (by rw[hl2,jL];exact dO ho2 (Nat.zero_le _)) (fun x hx=>.inr (ho2.lt x hx).1) 7 rfl rfl rfl
 by_cases hcc:cap=k+1
 ·subst hcc;have e0:K.net.length-(k+1)=0:=by omega
  have HD0:Hid (∀ w2,Below w.heap.size w w2→Rd w2 3 (Y (some ⟨b,off,O⟩) 0 0) 0 (aA (K.net.drop (k+1)))):=fun w2 hw2=>by
   have:K.net.drop (k+1)=[]:=List.drop_eq_nil_of_le (by omega)
   rw[this];exact⟨rfl,.inr ⟨b,off,0,rfl,Nat.le_refl _,by unfold maxLen;omega,Nat.lt_of_lt_of_le hbl hw2.size,fun j u hj=>by simp[aA] at hj⟩⟩
  go_enter Tryz.func58,Tryz.ntmps58;go_wp2_with (at_builtin;refine BO rfl _ _ 45 rfl w.heap.size 102 i0 (.agg #[I J 0,I J 0,Z Ze]) 3 32 Tryz.underlying45 hi hz0 hz1 hz2 rfl (by decide) w _ _ _ (by rfl) (World.ownsRow_nil _ _ _ _) (Y (some ⟨b,off,O⟩) k (k+1)) k (aA (K.net.take k)) (by rfl) hT (HO.out _) (by unfold maxLen;omega) (by omega) (Nat.le_refl _) ?_)
  intro v1 w1 hown1 hg1 hb1;have t7:w1.cell? ⟨g,7,O⟩=some (Y (some ⟨b,off,O⟩) K.net.length (k+1)):=(hb1.cell (p:=⟨g,7,O⟩) hlb).trans c7
  have g7:w1.frozen? ⟨g,7,O⟩=false:=(hb1.frozen (p:=⟨g,7,O⟩) hlb).trans f7
  have hD1:=HD0.out w1 hb1;go_wp2_with (at_builtin;refine BO rfl _ _ 45 rfl w.heap.size 102 i0 (.agg #[I J 0,I J 0,Z Ze]) 3 32 Tryz.underlying45 hi hz0 hz1 hz2 rfl (by decide) w1 _ _ _ (by rfl) hown1 (Y (some ⟨b,off,O⟩) 0 0) 0 (aA (K.net.drop (k+1))) (by rfl) hD1 (HO.out _) (by unfold maxLen;omega) (by omega) hb1.size ?_)
  intro v2 w2 hown2 hg2 hb2;obtain⟨a2,c2,rfl⟩:=au hown2
  have r7:w2.cell? ⟨g,7,O⟩=some (Y (some ⟨b,off,O⟩) K.net.length (k+1)):=(hb2.cell (p:=⟨g,7,O⟩) hlb).trans t7
  have q7:w2.frozen? ⟨g,7,O⟩=false:=(hb2.frozen (p:=⟨g,7,O⟩) hlb).trans g7
  have HS:=ah (HN.out _ w2 (hb1.trans hb2) (by rw[e0];exact hown2))
  clear hown1 hown2 hg1 hg2;go_wp2_with fail;exact bodyPost_end (results_none rfl _ _ _) rfl ⟨rfl,_,HS.out⟩
 ·go_enter Tryz.func58,Tryz.ntmps58;go_wp2_with (at_builtin;refine BO rfl _ _ 45 rfl w.heap.size 102 i0 (.agg #[I J 0,I J 0,Z Ze]) 3 32 Tryz.underlying45 hi hz0 hz1 hz2 rfl (by decide) w _ _ _ (by rfl) (World.ownsRow_nil _ _ _ _) (Y (some ⟨b,off,O⟩) k cap) k (aA (K.net.take k)) (by rfl) hT (HO.out _) (by unfold maxLen;omega) (by omega) (Nat.le_refl _) ?_)
  intro v1 w1 hown1 hg1 hb1;have t7:w1.cell? ⟨g,7,O⟩=some (Y (some ⟨b,off,O⟩) K.net.length cap):=(hb1.cell (p:=⟨g,7,O⟩) hlb).trans c7
  have g7:w1.frozen? ⟨g,7,O⟩=false:=(hb1.frozen (p:=⟨g,7,O⟩) hlb).trans f7
  have hD1:=HD.out w1 hb1;go_wp2_with (at_builtin;refine BO rfl _ _ 45 rfl w.heap.size 102 i0 (.agg #[I J 0,I J 0,Z Ze]) 3 32 Tryz.underlying45 hi hz0 hz1 hz2 rfl (by decide) w1 _ _ _ (by rfl) hown1 (Y (some ⟨b,off+(k+1)*3,O⟩) (K.net.length-(k+1)) (cap-(k+1))) (K.net.length-(k+1)) (aA (K.net.drop (k+1))) (by rfl) hD1 (HO.out _) (by unfold maxLen;omega) (by omega) hb1.size ?_)
  intro v2 w2 hown2 hg2 hb2;obtain⟨a2,c2,rfl⟩:=au hown2
  have r7:w2.cell? ⟨g,7,O⟩=some (Y (some ⟨b,off,O⟩) K.net.length cap):=(hb2.cell (p:=⟨g,7,O⟩) hlb).trans t7
  have q7:w2.frozen? ⟨g,7,O⟩=false:=(hb2.frozen (p:=⟨g,7,O⟩) hlb).trans g7
  have HS:=ah (HN.out _ w2 (hb1.trans hb2) hown2);clear hown1 hown2 hg1 hg2;go_wp2_with fail;exact bodyPost_end (results_none rfl _ _ _) rfl ⟨rfl,_,HS.out⟩
end
section
variable {N:Nat} {w w':World} {g:Nat} {K K':Kw} {V V':Kv}
theorem rJ (h:KAt N w g K V) (hi:KI K) (gr:Gr K) (q:Nat) (hq:q<K.nds.length) (s:ByteArray) (hm:dA K+50≤900000000000) :
  Calls Tryz.prog 34 #[Zp (some ⟨g,0,O⟩),I J q,I J 1,Z s] w fun e w'=>StE N w w' g K V 50 e:=by
 have z:=hi.sz;obtain⟨n,hn⟩:∃ n:Nat,K.n=n:=⟨K.n.toNat,by have:=z.n3;omega⟩
 have z3:=z.n3;have z1:=z.nds;have z7:=z.n7;have zd:=z.down;have zb:=z.begun;have z10:=z.opn;rw[hn] at z1 z7 z3 zd zb;have HC1:Hid (∀ w2,Below w.heap.size w w2→w2.cell? ⟨g,1,O⟩=some (I J n)):=fun w2 hw2=>by rw[← hn];exact (h.below hw2).cell 1
 obtain⟨aN,cN,hvN⟩:=au h.rN
 have HC2:Hid (∀ w2,Below w.heap.size w w2→w2.cell? ⟨g,2,O⟩=some (Y aN K.nds.length cN)):=fun w2 hw2=>by rw[← hvN];exact (h.below hw2).cell 2
 have HN:=ah (fun (w2:World) (hw2:Below w.heap.size w w2)=>KAt.ptr h hvN hw2)
 obtain⟨aD,cD,hvD⟩:=au h.rD
 have HC3:Hid (∀ w2,Below w.heap.size w w2→w2.cell? ⟨g,3,O⟩=some (Y aD K.down.length cD)):=fun w2 hw2=>by rw[← hvD];exact (h.below hw2).cell 3
 have HD:=ah (fun (w2:World) (hw2:Below w.heap.size w w2)=>KAt.dwn h hvD hw2)
 have HWh:=ah (fun (w2:World) (hw2:Below w.heap.size w w2)=>KAt.whr h hw2)
 obtain⟨x,hxe⟩:∃ x,K.nds[q]=x:=⟨_,rfl⟩
 have hx:K.nds[q]? = some x:=by rw[List.getElem?_eq_getElem hq,hxe]
 have ni:=hi.nod q x hx;have HQ:=ah (HWh.out w (Below.refl _ _) q hq);rw[hxe] at HQ;have hqd:q<K.down.length:=by omega
 obtain⟨b1,o1,rfl,_,d1⟩:=HN.out w (Below.refl _ _) q hq
 obtain⟨b2,o2,rfl,_,d2⟩:=HD.out w (Below.refl _ _) q hqd
 have c2:=HC2.out w (Below.refl _ _);have c3:=HC3.out w (Below.refl _ _);rw[hxe] at d1;have j1:(0:Int)≤(q:Int):=by omega
 have j2:(q:Int)<(K.nds.length:Int):=by omega
 have j3:(q:Int)<(K.down.length:Int):=by omega
 have HY:Hid (StE N w w g K V 50 (Zr (.bool true))):=⟨true,K,V,rfl,Kst.refl h,hi,by omega,Nat.le_refl _,rfl,fun _=>gr⟩
 have HTk:Hid (∀ w2,Below w.heap.size w w2→Calls Tryz.prog 59 #[Zp (some ⟨x.b,0,O⟩)] w2 fun e w'=>DidE N w2 w' g K V q x 50 e):=fun w2 hw2=>by
  have h2:=h.below hw2;have hr:=h2.nodes x (List.mem_of_getElem? hx);refine (IZ hr ni.ok ni.ou).mono ?_;rintro e w3 ⟨vt,W',F',V1,rfl,ht⟩;exact⟨_,vt,_,rfl,Dx h2 hi hx (Hr ni.ok ni.sv ni.rc ni.ou) ht⟩
 have HN2:Hid (∀ w2,Below w.heap.size w w2→w2.cell? ⟨g,2,O⟩=some (Y (some ⟨b1,o1,O⟩) K.nds.length cN)∧w2.cell? ⟨b1,o1+q,O⟩=some (Zp (some ⟨x.b,0,O⟩))):=fun w2 hw2=>by
  obtain⟨b3,o3,e3,_,d3⟩:=HN.out w2 hw2 q hq
  cases e3;rw[hxe] at d3;exact⟨HC2.out w2 hw2,d3⟩
 have HX:=ah hx;have HGr:=ah gr;have HH:=ah h;clear h hi gr z ni hx HWh HN HD hxe HC1 HC2 HC3;generalize K.down[q]=dq at *;cases dq
 ·generalize x.R.epoch=r1 at *;generalize x.R.view=r2 at *;generalize x.R.status=r3 at *;generalize x.R.decided=r4 at *;go_enter Tryz.func34,Tryz.ntmps34;go_wp2_with fail;refine HQ.out.mono ?_;rintro e w1 ⟨rfl,nn,hw1⟩;have hb1:Below w.heap.size w w1:=by rw[hw1];exact below_drewN (Below.refl _ _) nn
  clear hw1 c2 c3 d1 d2;obtain⟨c2,d1⟩:=HN2.out _ hb1
  generalize hxb:x.b=bb at *;go_wp2_with fail;refine (HTk.out _ hb1).mono ?_;rintro e w2 ⟨x1,vl,l,rfl,D⟩;have hx1:=tu (K:=K) (x:=x1) hq;have HD:=ah D;have HAg:=ah (pE D.kst.at_ D.ki q x1 hx1);have HX1:=ah hx1;obtain⟨al,nl,cl,hvl⟩:∃ a n c,vl=Y a n c:=by
   obtain⟨a,c,e,_⟩:=Rd.form D.out
   exact⟨a,_,c,e⟩
  subst hvl;clear D hx1 c2 d1;have HSn:Hid (∀ {w3:World} {K3:Kw} {V3:Kv},Ag N w2 w3 g (gQ K q x1) V K3 V3→Gr K3→Calls Tryz.prog 63 #[Zp (some ⟨g,0,O⟩),I J q,Y al nl cl] w3 fun e w'=>StE N w w' g K V 50 e):=fun A gr=>pY HH.out hb1 HD.out hq hm A gr
  have HNo:Hid (∀ {w3:World} {K3:Kw} {V3:Kv},Ag N w2 w3 g (gQ K q x1) V K3 V3→StE N w w3 g K V 50 (Zr (.bool false))):=fun A=>wK HH.out hb1 HD.out A
  have HRl:Hid (∀ {w3:World} {K3:Kw} {V3:Kv},Ag N w2 w3 g (gQ K q x1) V K3 V3→x1.R.status=3∨x1.R.epoch<(K3.groups.length:Int)→x1.R.status=4→Calls Tryz.prog 62 #[Zp (some ⟨g,0,O⟩),I J q] w3 fun e w'=>oL N w3 w' g K3 V3 16 e):=fun {w3 K3 V3} A hg h4=>by
   have hq3:q<K3.nds.length:=by rw[A.nds];simpa [gQ] using hq
   have hx3:K3.nds[q]=x1:=by
    have e:=HX1.out;rw[← A.nds,List.getElem?_eq_getElem hq3] at e;exact Option.some.inj e
   have hep:=(A.ki.nod q x1 (by rw[A.nds];exact HX1.out)).ok.ep
   exact mM A.kst.at_ A.ki.sz q hq3 (by rw[hx3];exact hep.1) (by rw[hx3];exact hg.resolve_left (by omega)) (fun t ht=>by have:=A.ki.gsz t ht;omega)
  go_wp2_with fail;refine HAg.out.mono ?_;rintro e w3 ⟨bA,K2,V2,rfl,A,hgr⟩;have HA:=ah A;clear A;cases bA
  ·have HFl:=ah (HNo.out HA.out);go_wp2_with fail;go_ret;exact HFl.out
  ·have HGx:=ah (hgr rfl);have HG2:=ah (xH HGr.out HX.out HA.out (hgr rfl));clear hgr;obtain⟨aN2,cN2,hvN2⟩:=au HA.out.kst.at_.rN
   have hq2:q<K2.nds.length:=by rw[HA.out.nds];simpa [gQ] using hq
   have hx2:K2.nds[q]=x1:=by
    have e:=HX1.out;rw[← HA.out.nds,List.getElem?_eq_getElem hq2] at e;exact Option.some.inj e
   obtain⟨b4,o4,rfl,_,d4⟩:=HA.out.kst.at_.ptr hvN2 (Below.refl _ _) q hq2
   have c2:w3.cell? ⟨g,2,O⟩=some (Y (some ⟨b4,o4,O⟩) K2.nds.length cN2):=by rw[← hvN2];exact HA.out.kst.at_.cell 2
   have j4:(q:Int)<(K2.nds.length:Int):=by omega
   rw[hx2] at d4;have HW2:=ah (kU (HA.out.node HX1.out));generalize x1.b=bb1 at *;generalize x1.R.epoch=s1 at *;generalize x1.R.view=s2 at *;generalize x1.R.status=s3 at *;generalize x1.R.decided=s4 at *;clear hx2;go_wp2_with fail;refine HW2.out.mono ?_;rintro e w4 ⟨rfl,nn4,hw4⟩;have HA:=ah (HA.out.below (by rw[hw4];exact below_drewN (Below.refl _ _) nn4:Below w3.heap.size w3 w4))
   clear hw4 c2 d4;have c6:w4.cell? ⟨g,6,O⟩=some (I J K2.top):=HA.out.kst.at_.cell 6
   have f6:=HA.out.kst.at_.free 6;by_cases htp:K2.top<s2
   ·have HA3:Hid (Ag N w2 (w4.setCell ⟨g,6,O⟩ (I J s2)) g (gQ K q x1) V { K2 with top:=s2 } V2):=HA.out.top (HA.out.kst.at_.scalar (K':={ K2 with top:=s2 }) 6 (I J s2) rfl rfl rfl)
    have HG3:Hid (Gr { K2 with top:=s2 }):=HG2
    clear HA HG2;go_upto_region 17 with fail
    clear c6 f6;generalize w4.setCell ⟨g,6,O⟩ (I J s2)=wZ at *;by_cases r5:r3=5
    ·subst r5;by_cases r4:s3=4
     ·have HRc:=ah (HRl.out HA3.out HGx.out r4);subst r4;by_cases ref:r1=s1
      ·have ref':(r1==s1)=true:=beq_iff_eq.2 ref
       clear ref;go_wp2_with fail;refine HRc.out.mono ?_;rintro e w6 ⟨b6,K6,rfl,k6,y6,n6⟩;cases b6
       ·have HFl:Hid (StE N w w6 g K V 50 (Zr (.bool false))):=by
         have e6:=n6 rfl;subst e6;exact HNo.out (HA3.out.fails k6 (by unfold dK;omega))
        go_wp2_with fail;go_ret;exact HFl.out
       ·have e6:=y6 rfl;subst e6;have HA3:=ah (HA3.out.same k6);clear k6 y6 n6;go_wp2_with fail;refine (HSn.out HA3.out HG3.out).mono ?_;rintro e w9 ⟨b9,K9,V9,rfl,hS9⟩;go_wp2_with fail;go_ret;exact⟨b9,K9,V9,rfl,hS9⟩
      ·have ref':(r1==s1)=false:=beq_eq_false_iff_ne.2 ref
       clear ref;go_wp2_with fail;refine (HSn.out HA3.out HG3.out).mono ?_;rintro e w9 ⟨b9,K9,V9,rfl,hS9⟩;go_wp2_with fail;go_ret;exact⟨b9,K9,V9,rfl,hS9⟩
     ·have r4':(s3==4)=false:=beq_eq_false_iff_ne.2 r4
      clear r4;go_wp2_with fail;refine (HSn.out HA3.out HG3.out).mono ?_;rintro e w9 ⟨b9,K9,V9,rfl,hS9⟩;go_wp2_with fail;go_ret;exact⟨b9,K9,V9,rfl,hS9⟩
    ·have r5':(r3==5)=false:=beq_eq_false_iff_ne.2 r5
     clear r5;go_wp2_with fail;refine (HSn.out HA3.out HG3.out).mono ?_;rintro e w9 ⟨b9,K9,V9,rfl,hS9⟩;go_wp2_with fail;go_ret;exact⟨b9,K9,V9,rfl,hS9⟩
   ·have HA3:=HA;have HG3:=HG2;by_cases r5:r3=5
    ·subst r5;by_cases r4:s3=4
     ·have HRc:=ah (HRl.out HA3.out HGx.out r4);subst r4;by_cases ref:r1=s1
      ·have ref':(r1==s1)=true:=beq_iff_eq.2 ref
       clear ref;go_wp2_with fail;refine HRc.out.mono ?_;rintro e w6 ⟨b6,K6,rfl,k6,y6,n6⟩;cases b6
       ·have HFl:Hid (StE N w w6 g K V 50 (Zr (.bool false))):=by
         have e6:=n6 rfl;subst e6;exact HNo.out (HA3.out.fails k6 (by unfold dK;omega))
        go_wp2_with fail;go_ret;exact HFl.out
       ·have e6:=y6 rfl;subst e6;have HA3:=ah (HA3.out.same k6);clear k6 y6 n6;go_wp2_with fail;refine (HSn.out HA3.out HG3.out).mono ?_;rintro e w9 ⟨b9,K9,V9,rfl,hS9⟩;go_wp2_with fail;go_ret;exact⟨b9,K9,V9,rfl,hS9⟩
      ·have ref':(r1==s1)=false:=beq_eq_false_iff_ne.2 ref
       clear ref;go_wp2_with fail;refine (HSn.out HA3.out HG3.out).mono ?_;rintro e w9 ⟨b9,K9,V9,rfl,hS9⟩;go_wp2_with fail;go_ret;exact⟨b9,K9,V9,rfl,hS9⟩
     ·have r4':(s3==4)=false:=beq_eq_false_iff_ne.2 r4
      clear r4;go_wp2_with fail;refine (HSn.out HA3.out HG3.out).mono ?_;rintro e w9 ⟨b9,K9,V9,rfl,hS9⟩;go_wp2_with fail;go_ret;exact⟨b9,K9,V9,rfl,hS9⟩
    ·have r5':(r3==5)=false:=beq_eq_false_iff_ne.2 r5
     clear r5;go_wp2_with fail;refine (HSn.out HA3.out HG3.out).mono ?_;rintro e w9 ⟨b9,K9,V9,rfl,hS9⟩;go_wp2_with fail;go_ret;exact⟨b9,K9,V9,rfl,hS9⟩
 ·go_enter Tryz.func34,Tryz.ntmps34;go_wp2_with fail;go_ret;exact HY.out
end
section
variable {N:Nat} {w w':World} {g:Nat} {K K':Kw} {V V':Kv}
theorem xQ (h:KAt N w g K V) (hi:KI K) (gr:Gr K) (q:Nat) (hq:q<K.nds.length) (s:ByteArray) (hm:dA K+50≤900000000000) :
  Calls Tryz.prog 34 #[Zp (some ⟨g,0,O⟩),I J q,I J 2,Z s] w fun e w'=>StE N w w' g K V 50 e:=by
 have z:=hi.sz;obtain⟨n,hn⟩:∃ n:Nat,K.n=n:=⟨K.n.toNat,by have:=z.n3;omega⟩
 have z3:=z.n3;have z1:=z.nds;have z7:=z.n7;have zd:=z.down;have zb:=z.begun;have z10:=z.opn;rw[hn] at z1 z7 z3 zd zb;have HC1:Hid (∀ w2,Below w.heap.size w w2→w2.cell? ⟨g,1,O⟩=some (I J n)):=fun w2 hw2=>by rw[← hn];exact (h.below hw2).cell 1
 obtain⟨aN,cN,hvN⟩:=au h.rN
 have HC2:Hid (∀ w2,Below w.heap.size w w2→w2.cell? ⟨g,2,O⟩=some (Y aN K.nds.length cN)):=fun w2 hw2=>by rw[← hvN];exact (h.below hw2).cell 2
 have HN:=ah (fun (w2:World) (hw2:Below w.heap.size w w2)=>KAt.ptr h hvN hw2)
 obtain⟨aD,cD,hvD⟩:=au h.rD
 have HC3:Hid (∀ w2,Below w.heap.size w w2→w2.cell? ⟨g,3,O⟩=some (Y aD K.down.length cD)):=fun w2 hw2=>by rw[← hvD];exact (h.below hw2).cell 3
 have HD:=ah (fun (w2:World) (hw2:Below w.heap.size w w2)=>KAt.dwn h hvD hw2)
 have HWh:=ah (fun (w2:World) (hw2:Below w.heap.size w w2)=>KAt.whr h hw2)
 obtain⟨x,hxe⟩:∃ x,K.nds[q]=x:=⟨_,rfl⟩
 have hx:K.nds[q]? = some x:=by rw[List.getElem?_eq_getElem hq,hxe]
 have ni:=hi.nod q x hx;have HQ:=ah (HWh.out w (Below.refl _ _) q hq);rw[hxe] at HQ;have hqd:q<K.down.length:=by omega
 obtain⟨b1,o1,rfl,_,d1⟩:=HN.out w (Below.refl _ _) q hq
 obtain⟨b2,o2,rfl,_,d2⟩:=HD.out w (Below.refl _ _) q hqd
 have c2:=HC2.out w (Below.refl _ _);have c3:=HC3.out w (Below.refl _ _);rw[hxe] at d1;have j1:(0:Int)≤(q:Int):=by omega
 have j2:(q:Int)<(K.nds.length:Int):=by omega
 have j3:(q:Int)<(K.down.length:Int):=by omega
 have HY:Hid (StE N w w g K V 50 (Zr (.bool true))):=⟨true,K,V,rfl,Kst.refl h,hi,by omega,Nat.le_refl _,rfl,fun _=>gr⟩
 have HTk:Hid (∀ w2,Below w.heap.size w w2→Calls Tryz.prog 60 #[Zp (some ⟨x.b,0,O⟩)] w2 fun e w'=>DidE N w2 w' g K V q x 50 e):=fun w2 hw2=>by
  have h2:=h.below hw2;have hr:=h2.nodes x (List.mem_of_getElem? hx);refine (CV hr ni.ok ni.ou).mono ?_;rintro e w3 ⟨vt,W',F',V1,rfl,ht⟩;exact⟨_,vt,_,rfl,Dx h2 hi hx (BM ni.ok ni.sv ni.rc ni.ou) ht⟩
 have HN2:Hid (∀ w2,Below w.heap.size w w2→w2.cell? ⟨g,2,O⟩=some (Y (some ⟨b1,o1,O⟩) K.nds.length cN)∧w2.cell? ⟨b1,o1+q,O⟩=some (Zp (some ⟨x.b,0,O⟩))):=fun w2 hw2=>by
  obtain⟨b3,o3,e3,_,d3⟩:=HN.out w2 hw2 q hq
  cases e3;rw[hxe] at d3;exact⟨HC2.out w2 hw2,d3⟩
 have HX:=ah hx;have HGr:=ah gr;have HH:=ah h;clear h hi gr z ni hx HWh HN HD hxe HC1 HC2 HC3;generalize K.down[q]=dq at *;cases dq
 ·generalize x.R.epoch=r1 at *;generalize x.R.view=r2 at *;generalize x.R.status=r3 at *;generalize x.R.decided=r4 at *;go_enter Tryz.func34,Tryz.ntmps34;go_wp2_with fail;refine HQ.out.mono ?_;rintro e w1 ⟨rfl,nn,hw1⟩;have hb1:Below w.heap.size w w1:=by rw[hw1];exact below_drewN (Below.refl _ _) nn
  clear hw1 c2 c3 d1 d2;obtain⟨c2,d1⟩:=HN2.out _ hb1
  generalize hxb:x.b=bb at *;go_wp2_with fail;refine (HTk.out _ hb1).mono ?_;rintro e w2 ⟨x1,vl,l,rfl,D⟩;have hx1:=tu (K:=K) (x:=x1) hq;have HD:=ah D;have HAg:=ah (pE D.kst.at_ D.ki q x1 hx1);have HX1:=ah hx1;obtain⟨al,nl,cl,hvl⟩:∃ a n c,vl=Y a n c:=by
   obtain⟨a,c,e,_⟩:=Rd.form D.out
   exact⟨a,_,c,e⟩
  subst hvl;clear D hx1 c2 d1;have HSn:Hid (∀ {w3:World} {K3:Kw} {V3:Kv},Ag N w2 w3 g (gQ K q x1) V K3 V3→Gr K3→Calls Tryz.prog 63 #[Zp (some ⟨g,0,O⟩),I J q,Y al nl cl] w3 fun e w'=>StE N w w' g K V 50 e):=fun A gr=>pY HH.out hb1 HD.out hq hm A gr
  have HNo:Hid (∀ {w3:World} {K3:Kw} {V3:Kv},Ag N w2 w3 g (gQ K q x1) V K3 V3→StE N w w3 g K V 50 (Zr (.bool false))):=fun A=>wK HH.out hb1 HD.out A
  have HRl:Hid (∀ {w3:World} {K3:Kw} {V3:Kv},Ag N w2 w3 g (gQ K q x1) V K3 V3→x1.R.status=3∨x1.R.epoch<(K3.groups.length:Int)→x1.R.status=4→Calls Tryz.prog 62 #[Zp (some ⟨g,0,O⟩),I J q] w3 fun e w'=>oL N w3 w' g K3 V3 16 e):=fun {w3 K3 V3} A hg h4=>by
   have hq3:q<K3.nds.length:=by rw[A.nds];simpa [gQ] using hq
   have hx3:K3.nds[q]=x1:=by
    have e:=HX1.out;rw[← A.nds,List.getElem?_eq_getElem hq3] at e;exact Option.some.inj e
   have hep:=(A.ki.nod q x1 (by rw[A.nds];exact HX1.out)).ok.ep
   exact mM A.kst.at_ A.ki.sz q hq3 (by rw[hx3];exact hep.1) (by rw[hx3];exact hg.resolve_left (by omega)) (fun t ht=>by have:=A.ki.gsz t ht;omega)
  go_wp2_with fail;refine HAg.out.mono ?_;rintro e w3 ⟨bA,K2,V2,rfl,A,hgr⟩;have HA:=ah A;clear A;cases bA
  ·have HFl:=ah (HNo.out HA.out);go_wp2_with fail;go_ret;exact HFl.out
  ·have HGx:=ah (hgr rfl);have HG2:=ah (xH HGr.out HX.out HA.out (hgr rfl));clear hgr;obtain⟨aN2,cN2,hvN2⟩:=au HA.out.kst.at_.rN
   have hq2:q<K2.nds.length:=by rw[HA.out.nds];simpa [gQ] using hq
   have hx2:K2.nds[q]=x1:=by
    have e:=HX1.out;rw[← HA.out.nds,List.getElem?_eq_getElem hq2] at e;exact Option.some.inj e
   obtain⟨b4,o4,rfl,_,d4⟩:=HA.out.kst.at_.ptr hvN2 (Below.refl _ _) q hq2
   have c2:w3.cell? ⟨g,2,O⟩=some (Y (some ⟨b4,o4,O⟩) K2.nds.length cN2):=by rw[← hvN2];exact HA.out.kst.at_.cell 2
   have j4:(q:Int)<(K2.nds.length:Int):=by omega
   rw[hx2] at d4;have HW2:=ah (kU (HA.out.node HX1.out));generalize x1.b=bb1 at *;generalize x1.R.epoch=s1 at *;generalize x1.R.view=s2 at *;generalize x1.R.status=s3 at *;generalize x1.R.decided=s4 at *;clear hx2;go_wp2_with fail;refine HW2.out.mono ?_;rintro e w4 ⟨rfl,nn4,hw4⟩;have HA:=ah (HA.out.below (by rw[hw4];exact below_drewN (Below.refl _ _) nn4:Below w3.heap.size w3 w4))
   clear hw4 c2 d4;have c6:w4.cell? ⟨g,6,O⟩=some (I J K2.top):=HA.out.kst.at_.cell 6
   have f6:=HA.out.kst.at_.free 6;by_cases htp:K2.top<s2
   ·have HA3:Hid (Ag N w2 (w4.setCell ⟨g,6,O⟩ (I J s2)) g (gQ K q x1) V { K2 with top:=s2 } V2):=HA.out.top (HA.out.kst.at_.scalar (K':={ K2 with top:=s2 }) 6 (I J s2) rfl rfl rfl)
    have HG3:Hid (Gr { K2 with top:=s2 }):=HG2
    clear HA HG2;go_upto_region 17 with fail
    clear c6 f6;generalize w4.setCell ⟨g,6,O⟩ (I J s2)=wZ at *;by_cases r5:r3=5
    ·subst r5;by_cases r4:s3=4
     ·have HRc:=ah (HRl.out HA3.out HGx.out r4);subst r4;by_cases ref:r1=s1
      ·have ref':(r1==s1)=true:=beq_iff_eq.2 ref
       clear ref;go_wp2_with fail;refine HRc.out.mono ?_;rintro e w6 ⟨b6,K6,rfl,k6,y6,n6⟩;cases b6
       ·have HFl:Hid (StE N w w6 g K V 50 (Zr (.bool false))):=by
         have e6:=n6 rfl;subst e6;exact HNo.out (HA3.out.fails k6 (by unfold dK;omega))
        go_wp2_with fail;go_ret;exact HFl.out
       ·have e6:=y6 rfl;subst e6;have HA3:=ah (HA3.out.same k6);clear k6 y6 n6;go_wp2_with fail;refine (HSn.out HA3.out HG3.out).mono ?_;rintro e w9 ⟨b9,K9,V9,rfl,hS9⟩;go_wp2_with fail;go_ret;exact⟨b9,K9,V9,rfl,hS9⟩
      ·have ref':(r1==s1)=false:=beq_eq_false_iff_ne.2 ref
       clear ref;go_wp2_with fail;refine (HSn.out HA3.out HG3.out).mono ?_;rintro e w9 ⟨b9,K9,V9,rfl,hS9⟩;go_wp2_with fail;go_ret;exact⟨b9,K9,V9,rfl,hS9⟩
     ·have r4':(s3==4)=false:=beq_eq_false_iff_ne.2 r4
      clear r4;go_wp2_with fail;refine (HSn.out HA3.out HG3.out).mono ?_;rintro e w9 ⟨b9,K9,V9,rfl,hS9⟩;go_wp2_with fail;go_ret;exact⟨b9,K9,V9,rfl,hS9⟩
    ·have r5':(r3==5)=false:=beq_eq_false_iff_ne.2 r5
     clear r5;go_wp2_with fail;refine (HSn.out HA3.out HG3.out).mono ?_;rintro e w9 ⟨b9,K9,V9,rfl,hS9⟩;go_wp2_with fail;go_ret;exact⟨b9,K9,V9,rfl,hS9⟩
   ·have HA3:=HA;have HG3:=HG2;by_cases r5:r3=5
    ·subst r5;by_cases r4:s3=4
     ·have HRc:=ah (HRl.out HA3.out HGx.out r4);subst r4;by_cases ref:r1=s1
      ·have ref':(r1==s1)=true:=beq_iff_eq.2 ref
       clear ref;go_wp2_with fail;refine HRc.out.mono ?_;rintro e w6 ⟨b6,K6,rfl,k6,y6,n6⟩;cases b6
       ·have HFl:Hid (StE N w w6 g K V 50 (Zr (.bool false))):=by
         have e6:=n6 rfl;subst e6;exact HNo.out (HA3.out.fails k6 (by unfold dK;omega))
        go_wp2_with fail;go_ret;exact HFl.out
       ·have e6:=y6 rfl;subst e6;have HA3:=ah (HA3.out.same k6);clear k6 y6 n6;go_wp2_with fail;refine (HSn.out HA3.out HG3.out).mono ?_;rintro e w9 ⟨b9,K9,V9,rfl,hS9⟩;go_wp2_with fail;go_ret;exact⟨b9,K9,V9,rfl,hS9⟩
      ·have ref':(r1==s1)=false:=beq_eq_false_iff_ne.2 ref
       clear ref;go_wp2_with fail;refine (HSn.out HA3.out HG3.out).mono ?_;rintro e w9 ⟨b9,K9,V9,rfl,hS9⟩;go_wp2_with fail;go_ret;exact⟨b9,K9,V9,rfl,hS9⟩
     ·have r4':(s3==4)=false:=beq_eq_false_iff_ne.2 r4
      clear r4;go_wp2_with fail;refine (HSn.out HA3.out HG3.out).mono ?_;rintro e w9 ⟨b9,K9,V9,rfl,hS9⟩;go_wp2_with fail;go_ret;exact⟨b9,K9,V9,rfl,hS9⟩
    ·have r5':(r3==5)=false:=beq_eq_false_iff_ne.2 r5
     clear r5;go_wp2_with fail;refine (HSn.out HA3.out HG3.out).mono ?_;rintro e w9 ⟨b9,K9,V9,rfl,hS9⟩;go_wp2_with fail;go_ret;exact⟨b9,K9,V9,rfl,hS9⟩
 ·go_enter Tryz.func34,Tryz.ntmps34;go_wp2_with fail;go_ret;exact HY.out
end
section
variable {N:Nat} {w w':World} {g:Nat} {K K':Kw} {V V':Kv}
theorem Jk (h:KAt N w g K V) (hi:KI K) (gr:Gr K) (hb:Below w.heap.size w w') (c:Nat):StE N w w' g K V c (Zr (.bool true)):=⟨true,K,V,rfl,(Kst.refl h).below hb,hi,by omega,Nat.le_refl _,rfl,fun _=>gr⟩
theorem DR (h:KAt N w g K V) (hi:KI K) (gr:Gr K) (k:Nat) (hk:k<K.net.length) (hm:dA K+1≤900000000000) :
  Calls Tryz.prog 57 #[Zp (some ⟨g,0,O⟩),I J k] w fun e w'=>StE N w w' g K V 1 e:=by
 have z:=hi.sz;obtain⟨n,hn⟩:∃ n:Nat,K.n=n:=⟨K.n.toNat,by have:=z.n3;omega⟩
 have z3:=z.n3;have z1:=z.nds;have z7:=z.n7;have zd:=z.down;have zb:=z.begun;have z10:=z.opn;rw[hn] at z1 z7 z3 zd zb;have HC1:Hid (∀ w2,Below w.heap.size w w2→w2.cell? ⟨g,1,O⟩=some (I J n)):=fun w2 hw2=>by rw[← hn];exact (h.below hw2).cell 1
 obtain⟨aP,cP,hvP⟩:=au h.rP
 have HC7:Hid (∀ w2,Below w.heap.size w w2→w2.cell? ⟨g,7,O⟩=some (Y aP K.net.length cP)):=fun w2 hw2=>by rw[← hvP];exact (h.below hw2).cell 7
 have HP:Hid (∀ w2,Below w.heap.size w w2→gu w2 (Y aP K.net.length cP) K.net):=fun w2 hw2=>by rw[← hvP];exact (h.below hw2).ePk
 obtain⟨aD,cD,hvD⟩:=au h.rD
 have HC3:Hid (∀ w2,Below w.heap.size w w2→w2.cell? ⟨g,3,O⟩=some (Y aD K.down.length cD)):=fun w2 hw2=>by rw[← hvD];exact (h.below hw2).cell 3
 have HD:=ah (fun (w2:World) (hw2:Below w.heap.size w w2)=>KAt.dwn h hvD hw2)
 obtain⟨b1,o1,rfl,_,d1,d2,d3⟩:=(HP.out w (Below.refl _ _)).get k hk
 have c7:=HC7.out w (Below.refl _ _);have j1:(0:Int)≤(k:Int):=by omega
 have j2:(k:Int)<(K.net.length:Int):=by omega
 obtain⟨p1,p2,_⟩:=hi.net _ (List.getElem_mem hk)
 rw[hn] at p2;have HSm:Hid (∀ w2,Below w.heap.size w w2→StE N w w2 g K V 1 (Zr (.bool true))):=fun w2 hw2=>Jk h hi gr hw2 1
 have HAc:Hid (∀ w2 (q:Nat) (s:ByteArray),Below w.heap.size w w2→q<n→Calls Tryz.prog 34 #[Zp (some ⟨g,0,O⟩),I J q,I J 0,Z s] w2 fun e w'=>StE N w w' g K V 1 e):=fun w2 q s hw2 hq=>by
  refine (DN (h.below hw2) hi gr q (by omega) s hm).mono ?_
  intro e w3 hs;exact hs.pre ((Kst.refl h).below hw2) (Nat.le_refl _) (Nat.le_refl _) rfl
 have HHe:Hid (∀ w2 (c:Nat) (s:ByteArray),Below w.heap.size w w2→1≤c→c≤9→Calls Tryz.prog 97 #[Zp (some ⟨g,0,O⟩),I J (c:Int),Z s] w2 fun e w'=>e=Zr (.tuple #[])∧StE N w w' g K V 1 (Zr (.bool true))):=fun w2 c s hw2 h1 h9=>by
  refine (DV (h.below hw2) hi c h1 h9 s).mono ?_;rintro e w3 ⟨rfl,K',k3,rfl|⟨f,rfl⟩⟩
  ·exact⟨rfl,true,_,_,rfl,((Kst.refl h).below hw2).trans k3,hi,by omega,Nat.le_refl _,rfl,fun _=>gr⟩
  ·exact⟨rfl,true,_,_,rfl,((Kst.refl h).below hw2).trans k3,hi.opnf c f,by unfold dA;simp only;omega,Nat.le_refl _,rfl,fun _=>gr⟩
 clear h hi gr z HP HC7;generalize K.net[k].1=fr at *;generalize K.net[k].2.1=qt at *;generalize K.net[k].2.2=tx at *;have hbX:Below w.heap.size w (w.alloc (.cells #[I J fr,I J qt,Z tx] 102)):=(Below.refl _ w).alloc (Nat.le_refl _) _
 have hxX:(w.alloc (.cells #[I J fr,I J qt,Z tx] 102)).heap[w.heap.size]? = some (.cells #[I J fr,I J qt,Z tx] 102):=heap_alloc_new w _
 by_cases h0:qt<0
 ·obtain⟨c,hc⟩:=Int.eq_ofNat_of_zero_le (show 0≤-qt by omega)
  have HQ:=ah (HHe.out _ c tx hbX (by omega) (by omega))
  rw[← hc] at HQ;clear hc;go_enter Tryz.func57,Tryz.ntmps57;go_wp2_with fail;refine HQ.out.mono ?_;rintro e w2 ⟨rfl,hs⟩;have HS:=ah hs;clear hs;go_wp2_with fail;go_ret;exact HS.out
 ·obtain⟨q,rfl⟩:=Int.eq_ofNat_of_zero_le (show 0≤qt by omega)
  have hqd:q<K.down.length:=by omega
  have HQ:=ah (fun w2 hw2=>HAc.out w2 q tx hw2 (by omega))
  have j3:(0:Int)≤(q:Int):=by omega
  have j4:(q:Int)<(K.down.length:Int):=by omega
  obtain⟨b2,o2,rfl,hb2,d4⟩:=HD.out _ hbX q hqd
  have c3:=HC3.out _ hbX;have e0:(w.alloc (.cells #[I J fr,I J (q:Int),Z tx] 102)).cell? ⟨w.heap.size,1,O⟩=some (I J (q:Int)):=(cell_of_row _ _ _ _ _ _ hxX).trans rfl
  have e1:(w.alloc (.cells #[I J fr,I J (q:Int),Z tx] 102)).cell? ⟨w.heap.size,2,O⟩=some (Z tx):=(cell_of_row _ _ _ _ _ _ hxX).trans rfl
  generalize K.down[q]=dq at *;clear hxX;go_enter Tryz.func57,Tryz.ntmps57;go_wp2_with fail;go_quiet (fail);have hbq:=below_drewN hbX nq;have HQq:=ah (HQ.out _ hbq);have HSq:=ah (HSm.out _ hbq);cases dq
  ·go_wp2_with fail;refine HQq.out.mono ?_;rintro e w2 ⟨b9,K9,V9,rfl,hS9⟩;go_wp2_with fail;go_ret;exact⟨b9,K9,V9,rfl,hS9⟩
  ·go_wp2_with fail;go_ret;exact HSq.out
def StQ (N:Nat) (w w':World) (g:Nat) (K:Kw) (V:Kv) (c d:Nat) (e:Ending):Prop:=∃ b K' V',e=Zr (.bool b)∧Kst N w w' g K V K' V'∧KI K'∧dA K'+d≤dA K+c∧K.net.length≤K'.net.length+d∧K'.n=K.n∧(b=true→Gr K')
theorem jT (h:KAt N w g K V) (hi:KI K) (gr:Gr K) (k:Nat) (hk:k<K.net.length) (come stay:Bool) (hm:dA K+1≤900000000000) :
  Calls Tryz.prog 32 #[Zp (some ⟨g,0,O⟩),I J k,.bool come,.bool stay] w fun e w'=>StQ N w w' g K V (if come then 1 else 0) (if stay then 0 else 1) e:=by
 have HC:=ah (DR h hi gr k hk hm);have HS0:Hid (StP N w w g K V 0 true K V):=⟨Kst.refl h,hi,by omega,Nat.le_refl _,rfl,fun _=>gr⟩
 clear h hi gr;cases come
 ·obtain⟨K1,V1,b1,HS,hb1⟩:∃ K1 V1 b1,Hid (StP N w w g K V 0 b1 K1 V1)∧b1=true:=⟨K,V,true,HS0,rfl⟩
  cases stay
  ·have HG:Hid (Calls Tryz.prog 58 #[Zp (some ⟨g,0,O⟩),I J k] w fun e w'=>e=Zr (.tuple #[])∧StQ N w w' g K V 0 1 (Zr (.bool true))):=by
    refine (zP HS.out.kst.at_ k (by have:=HS.out.net;omega) (by have:=iG K1;have:=HS.out.ms;omega)).mono ?_
    rintro e w3 ⟨rfl,v3,k3⟩;exact⟨rfl,true,_,_,rfl,HS.out.kst.trans k3,HS.out.ki.gone k,by have:=HS.out.ms;have:=zU (K:=K1) (k:=k) (by have:=HS.out.net;omega);omega,by have:=HS.out.net;simp;omega,HS.out.n,fun hb=>HS.out.gr hb1⟩
   go_enter Tryz.func32,Tryz.ntmps32;go_wp2_with fail;refine HG.out.mono ?_;rintro e w3 ⟨rfl,hq⟩;have HQ:=ah hq;clear hq;go_wp2_with fail;go_ret;exact HQ.out
  ·have HQ:Hid (StQ N w w g K V 0 0 (Zr (.bool true))):=⟨true,_,_,rfl,HS.out.kst,HS.out.ki,by have:=HS.out.ms;omega,by have:=HS.out.net;omega,HS.out.n,fun _=>HS.out.gr hb1⟩
   go_enter Tryz.func32,Tryz.ntmps32;go_wp2_with fail;go_ret;exact HQ.out
 ·cases stay
  ·go_enter Tryz.func32,Tryz.ntmps32;go_wp2_with fail;refine HC.out.mono ?_;rintro e w2 ⟨b1,K1,V1,rfl,hs⟩;have HS:=ah hs;clear hs;have HG:Hid (Calls Tryz.prog 58 #[Zp (some ⟨g,0,O⟩),I J k] w2 fun e w'=>e=Zr (.tuple #[])∧StQ N w w' g K V 1 1 (Zr (.bool b1))):=by
    refine (zP HS.out.kst.at_ k (by have:=HS.out.net;omega) (by have:=iG K1;have:=HS.out.ms;omega)).mono ?_
    rintro e w3 ⟨rfl,v3,k3⟩;exact⟨rfl,b1,_,_,rfl,HS.out.kst.trans k3,HS.out.ki.gone k,by have:=HS.out.ms;have:=zU (K:=K1) (k:=k) (by have:=HS.out.net;omega);omega,by have:=HS.out.net;simp;omega,HS.out.n,fun hb=>HS.out.gr hb⟩
   go_wp2_with fail;refine HG.out.mono ?_;rintro e w3 ⟨rfl,hq⟩;have HQ:=ah hq;clear hq;go_wp2_with fail;go_ret;exact HQ.out
  ·go_enter Tryz.func32,Tryz.ntmps32;go_wp2_with fail;refine HC.out.mono ?_;rintro e w2 ⟨b1,K1,V1,rfl,hs⟩;have HQ:Hid (StQ N w w2 g K V 1 0 (Zr (.bool b1))):=⟨b1,_,_,rfl,hs.kst,hs.ki,by have:=hs.ms;omega,by have:=hs.net;omega,hs.n,hs.gr⟩
   clear hs;go_wp2_with fail;go_ret;exact HQ.out
end
section
variable {N:Nat} {w w':World} {g:Nat} {K K':Kw} {V V':Kv}
structure Rn (N:Nat) (w wr:World) (g:Nat) (K:Kw) (V:Kv) (c:Nat) (K':Kw) (V':Kv):Prop where
 kst:Kst N w wr g K V K' V'
 ki:KI K'
 ms:dA K'≤dA K+c
 n:K'.n=K.n
 gr:Gr K'
def RnE (N:Nat) (w w':World) (g:Nat) (K:Kw) (V:Kv) (c:Nat) (e:Ending):Prop:=∃ b K' V',e=Zr (.bool b)∧Kst N w w' g K V K' V'∧KI K'∧dA K'≤dA K+c∧K'.n=K.n∧(b=true→Gr K')
theorem Rn.refl (h:KAt N w g K V) (hi:KI K) (gr:Gr K):Rn N w w g K V 0 K V:=⟨Kst.refl h,hi,Nat.le_refl _,rfl,gr⟩
section
variable {wr w2:World} {c d:Nat} {e:Ending}
theorem Rn.below (L:Rn N w wr g K V c K' V') (hb:Below wr.heap.size wr w2):Rn N w w2 g K V c K' V':=⟨L.kst.below hb,L.ki,L.ms,L.n,L.gr⟩
theorem Rn.le (L:Rn N w wr g K V c K' V') (h:c≤d):Rn N w wr g K V d K' V':=⟨L.kst,L.ki,by have:=L.ms;omega,L.n,L.gr⟩
theorem Rn.c1 (L:Rn N w wr g K V c K' V') {n:Nat} (hn:K.n=n):wr.cell? ⟨g,1,O⟩=some (I J n):=by
 have:=L.kst.at_.cell 1
 rw[← hn,← L.n];exact this
theorem Rn.rne (L:Rn N w wr g K V c K' V') (b:Bool) (h:c≤d):RnE N w wr g K V d (Zr (.bool b)):=⟨b,K',V',rfl,L.kst,L.ki,by have:=L.ms;omega,L.n,fun _=>L.gr⟩
theorem Rn.ste (L:Rn N w wr g K V c K' V') (h:StE N wr w2 g K' V' d e):RnE N w w2 g K V (c+d) e:=by
 obtain⟨b,K2,V2,rfl,s⟩:=h
 exact⟨b,K2,V2,rfl,L.kst.trans s.kst,s.ki,by have:=s.ms;have:=L.ms;omega,s.n.trans L.n,s.gr⟩
theorem Rn.rn (L:Rn N w wr g K V c K' V') (h:RnE N wr w2 g K' V' d e):RnE N w w2 g K V (c+d) e:=by
 obtain⟨b,K2,V2,rfl,k,ki,ms,n,gr⟩:=h
 exact⟨b,K2,V2,rfl,L.kst.trans k,ki,by have:=L.ms;omega,n.trans L.n,gr⟩
theorem RnE.le (h:RnE N w wr g K V c e) (hd:c≤d):RnE N w wr g K V d e:=by
 obtain⟨b,K2,V2,rfl,k,ki,ms,n,gr⟩:=h
 exact⟨b,K2,V2,rfl,k,ki,by omega,n,gr⟩
theorem RnE.get (h:RnE N w wr g K V c (Zr (.bool true))):∃ K' V',Rn N w wr g K V c K' V':=by
 obtain⟨b,K2,V2,e,k,ki,ms,n,gr⟩:=h
 cases e;exact⟨K2,V2,k,ki,ms,n,gr rfl⟩
theorem RnE.bool (h:RnE N w wr g K V c e):∃ b,e=Zr (.bool b):=by
 obtain⟨b,K2,V2,rfl,_⟩:=h
 exact⟨b,rfl⟩
end
theorem D5 (h:KAt N w g K V) (hi:KI K) (gr:Gr K) (r:Nat) (hr:r≤1000) (hm:dA K+1000≤900000000000) :
  Calls Tryz.prog 68 #[Zp (some ⟨g,0,O⟩),I J r] w fun e w'=>RnE N w w' g K V 700 e:=by
 have z:=hi.sz;obtain⟨n,hn⟩:∃ n:Nat,K.n=n:=⟨K.n.toNat,by have:=z.n3;omega⟩
 have z3:=z.n3;have z1:=z.nds;have z7:=z.n7;have zd:=z.down;have zb:=z.begun;have z10:=z.opn;rw[hn] at z1 z7 z3 zd zb;have HC1:Hid (∀ w2,Below w.heap.size w w2→w2.cell? ⟨g,1,O⟩=some (I J n)):=fun w2 hw2=>by rw[← hn];exact (h.below hw2).cell 1
 obtain⟨aP,cP,hvP⟩:=au h.rP
 have HC7:Hid (∀ w2,Below w.heap.size w w2→w2.cell? ⟨g,7,O⟩=some (Y aP K.net.length cP)):=fun w2 hw2=>by rw[← hvP];exact (h.below hw2).cell 7
 have HP:Hid (∀ w2,Below w.heap.size w w2→gu w2 (Y aP K.net.length cP) K.net):=fun w2 hw2=>by rw[← hvP];exact (h.below hw2).ePk
 have c7:=HC7.out w (Below.refl _ _);have hnl:K.net.length≤900000000000:=by have:=iG K;omega
 have HR0:=ah (Rn.refl h hi gr);have HH1:Hid (∀ (wr:World) (k:Nat) (K':Kw) (V':Kv),Rn N w wr g K V 0 K' V'→k<K.net.length→K.net.length≤K'.net.length+k→Calls Tryz.prog 32 #[Zp (some ⟨g,0,O⟩),I J 0,.bool true,.bool false] wr fun e w'=>∃ b K2 V2,e=Zr (.bool b)∧(b=false→RnE N w w' g K V 700 (Zr (.bool false)))∧(b=true→Rn N w w' g K V 0 K2 V2∧K.net.length≤K2.net.length+(k+1))):=fun wr k K' V' L hk hl=>by
  refine (jT L.kst.at_ L.ki L.gr 0 (by omega) true false (by have:=L.ms;omega)).mono ?_
  rintro e w2 ⟨b,K2,V2,rfl,k2,ki2,ms2,nl2,n2,gr2⟩;simp only[if_true,Bool.false_eq_true,if_false] at ms2 nl2;have:=L.ms
  exact⟨b,K2,V2,rfl,fun hb=>⟨false,K2,V2,rfl,L.kst.trans k2,ki2,by omega,n2.trans L.n,fun h=>by simp at h⟩,fun hb=>⟨⟨L.kst.trans k2,ki2,by omega,n2.trans L.n,gr2 hb⟩,by omega⟩⟩
 have HA1:Hid (∀ (wr:World) (q c:Nat) (K':Kw) (V':Kv),Rn N w wr g K V c K' V'→q<n→c≤600→Calls Tryz.prog 34 #[Zp (some ⟨g,0,O⟩),I J q,I J 1,Z ⟨#[]⟩] wr fun e w'=>RnE N w w' g K V (c+50) e):=fun wr q c K' V' L hq hc=>by
  refine (rJ L.kst.at_ L.ki L.gr q (by have:=L.ki.sz.nds;rw[L.n,hn] at this;omega) ⟨#[]⟩ (by have:=L.ms;omega)).mono ?_
  intro e w2 hs;exact L.ste hs
 have HA2:Hid (∀ (wr:World) (q c:Nat) (K':Kw) (V':Kv),Rn N w wr g K V c K' V'→q<n→c≤650→Calls Tryz.prog 34 #[Zp (some ⟨g,0,O⟩),I J q,I J 2,Z ⟨#[]⟩] wr fun e w'=>RnE N w w' g K V (c+50) e):=fun wr q c K' V' L hq hc=>by
  refine (xQ L.kst.at_ L.ki L.gr q (by have:=L.ki.sz.nds;rw[L.n,hn] at this;omega) ⟨#[]⟩ (by have:=L.ms;omega)).mono ?_
  intro e w2 hs;exact L.ste hs
 have HLd:Hid (∀ (wr:World) (q c:Nat) (K':Kw) (V':Kv),Rn N w wr g K V c K' V'→q<n→Calls Tryz.prog 112 #[Zp (some ⟨g,0,O⟩),I J q] wr fun e w'=>qK wr w' e):=fun wr q c K' V' L hq=>Ch L.kst.at_ L.ki L.gr q (by have:=L.ki.sz.nds;rw[L.n,hn] at this;omega)
 have hn7:n≤7:=by omega
 have er:((r:Int)).tmod 4=((r % 4:Nat):Int):=by
  rw[Int.tmod_eq_emod_of_nonneg (by omega)]
  exact (Int.natCast_emod r 4).symm
 clear h hi gr z hm HC7;go_enter Tryz.func68,Tryz.ntmps68;go_wp2_with fail;go_loopw [6] (fun i wr=>∃ (k:Nat) (K':Kw) (V':Kv),k≤K.net.length∧i=I J k∧Rn N w wr g K V 0 K' V'∧K.net.length≤K'.net.length+k) (fun i _=>K.net.length-(intOf i).toNat)
 case atStart=>exact⟨0,K,V,Nat.zero_le _,rfl,HR0.out,Nat.le_refl _⟩
 case round =>
  obtain⟨k,K1,V1,hk,rfl,L,hl⟩:=hrel
  have HL:=ah L;clear L;by_cases hlt:k<K.net.length
  ·have j1:(k:Int)<(K.net.length:Int):=by omega
   have HQ:=ah (HH1.out _ k _ _ HL.out hlt hl);go_wp2_with fail;refine HQ.out.mono ?_;rintro e w2 ⟨b,K2,V2,rfl,hno,hyes⟩;cases b
   ·have HF:=ah (hno rfl);clear hno hyes;go_wp2_with fail;go_ret;exact HF.out
   ·have HY:=ah (hyes rfl);clear hno hyes;go_wp2_with fail;go_roundw
    case rel=>exact⟨k+1,K2,V2,by omega,by go_num,HY.out.1,HY.out.2⟩
    case measure=>simp[intOf];omega
  ·have j1:¬(k:Int)<(K.net.length:Int):=by omega
   obtain⟨wL,HwL⟩:∃ x,x=wr:=⟨_,rfl⟩
   subst HwL;go_wp2_with fail;go_loopw [8] (fun i wr=>∃ (q:Nat) (K':Kw) (V':Kv),q≤n∧i=I J q∧Rn N w wr g K V (50*q) K' V') (fun i _=>n-(intOf i).toNat)
   case atStart=>exact⟨0,K1,V1,Nat.zero_le _,rfl,HL.out⟩
   case round =>
    obtain⟨q,K2,V2,hq,rfl,L2⟩:=hrel
    have c1:=L2.c1 hn;have HL2:=ah L2;clear L2;by_cases hlq:q<n
    ·have j2:(q:Int)<(n:Int):=by omega
     have HQ:=ah (HA1.out _ q _ _ _ HL2.out hlq (by omega))
     go_wp2_with fail;refine HQ.out.mono ?_;intro e w3 hs;obtain⟨b,rfl⟩:=hs.bool
     cases b
     ·have HF:=ah (hs.le (d:=700) (by omega))
      clear hs;go_wp2_with fail;go_ret;exact HF.out
     ·obtain⟨K3,V3,L3⟩:=hs.get
      have HL3:=ah (L3.le (d:=50*(q+1)) (by omega))
      clear hs L3;go_wp2_with fail;go_roundw
      case rel=>exact⟨q+1,K3,V3,by omega,by go_num,HL3.out⟩
      case measure=>simp[intOf];omega
    ·have j2:¬(q:Int)<(n:Int):=by omega
     have HL2:=ah (HL2.out.le (d:=350) (by omega))
     obtain⟨wM,HwM⟩:∃ x,x=wr:=⟨_,rfl⟩
     subst HwM;go_wp2_with fail;clear c1;go_loopw [10] (fun i wr=>∃ (q:Nat) (K':Kw) (V':Kv),q≤n∧i=I J q∧Rn N w wr g K V (350+50*q) K' V') (fun i _=>n-(intOf i).toNat)
     case atStart=>exact⟨0,K2,V2,Nat.zero_le _,rfl,HL2.out⟩
     case round =>
      obtain⟨p,K4,V4,hp,rfl,L4⟩:=hrel
      have c1:=L4.c1 hn;have HL4:=ah L4;clear L4;by_cases hlp:p<n
      ·have j3:(p:Int)<(n:Int):=by omega
       by_cases hr4:r % 4=3
       ·have er3:(r:Int).tmod 4=3:=by rw[er,hr4];rfl
        have er2:IntKind.i64.wrap ((r:Int).tmod 4)=3:=by rw[er3];rfl
        have HQ:=ah (HLd.out _ p _ _ _ HL4.out hlp);clear er;go_wp2_with fail;refine HQ.out.mono ?_;rintro e w5 ⟨b5,rfl,hb5⟩;have HL5:=ah (HL4.out.below hb5);cases b5
        ·have HQ5:=ah (HA2.out _ p _ _ _ HL5.out hlp (by omega))
         go_wp2_with fail;refine HQ5.out.mono ?_;intro e w6 hs;obtain⟨b,rfl⟩:=hs.bool
         cases b
         ·have HF:=ah (hs.le (d:=700) (by omega))
          clear hs;go_wp2_with fail;go_ret;exact HF.out
         ·obtain⟨K6,V6,L6⟩:=hs.get
          have HL6:=ah (L6.le (d:=350+50*(p+1)) (by omega))
          clear hs L6;go_wp2_with fail;go_roundw
          case rel=>exact⟨p+1,K6,V6,by omega,by go_num,HL6.out⟩
          case measure=>simp[intOf];omega
        ·have HL6:=ah (HL5.out.le (d:=350+50*(p+1)) (by omega))
         go_wp2_with fail;go_roundw
         case rel=>exact⟨p+1,K4,V4,by omega,by go_num,HL6.out⟩
         case measure=>simp[intOf];omega
       ·have er3:¬(r:Int).tmod 4=3:=by rw[er];omega
        have er2:((r:Int).tmod 4==3)=false:=beq_eq_false_iff_ne.2 er3
        have HF:=ah (HL4.out.rne (d:=700) true (by omega))
        clear er;go_wp2_with fail;go_ret;exact HF.out
      ·have j3:¬(p:Int)<(n:Int):=by omega
       have HF:=ah (HL4.out.rne (d:=700) true (by omega))
       go_wp2_with fail;go_ret;exact HF.out
end
section
variable {N:Nat} {w w':World} {g:Nat} {K K':Kw} {V V':Kv}
theorem Eo {id n life:Int} (hn:3≤n∧n≤7∧0≤id∧id<n) (hl:1≤life∧life≤999):Ok (Rp.restart id n life):=by
 refine⟨hn.1,hn.2.1,hn.2.2.1,hn.2.2.2,?_,fun x hx=>?_,by simp[Rp.restart,Rp.mk0],by simp[Rp.restart,Rp.mk0],by simp[Rp.restart,Rp.mk0],by simp[Rp.restart,Rp.mk0],fQ.nil _,fQ.nil _,by simp[Rp.restart,Rp.mk0],by simp[Rp.restart,Rp.mk0],by simp[Rp.restart,Rp.mk0],by simp[Rp.restart,Rp.mk0],by simp[Rp.restart,Rp.mk0],by simp[Rp.restart,Rp.mk0],by simp[Rp.restart,Rp.mk0]⟩
 ·show ((((bZ n.toNat).set id.toNat life).length:Nat):Int)=n
  rw[List.length_set,yO];omega
 ·have hx:x∈(bZ n.toNat).set id.toNat life:=hx
  rcases List.mem_or_eq_of_mem_set hx with q|rfl
  ·unfold bZ at q;have:=List.eq_of_mem_replicate q
   omega
  ·omega
theorem KI.lives (h:KI K) (x:Int) (hx:0≤x∧x≤999):KI { K with lives:=x }:=⟨⟨h.sz.n3,h.sz.n7,h.sz.nds,h.sz.down,h.sz.begun,h.sz.opn⟩,h.part,h.nod,h.net,h.wish,h.opn,h.list,h.grps,hx,h.gl⟩
theorem Gj {q:Nat} {x x':Nod} (hx:K.nds[q]? = some x) (hl:0≤K.lives) (hl9:K.lives+1≤999) (d:List Bool):dA { gQ { K with lives:=K.lives+1 } q x' with down:=d }≤dA K:=by
 have e:=xY K.nds q x x' hx;unfold dA gQ;simp only
 omega
theorem JG {q:Nat} {x':Nod} (gr:Gr K) (hq:q<K.nds.length) (h3:x'.R.status=3) (d:List Bool) (y:Int):Gr { gQ { K with lives:=y } q x' with down:=d }:=fun z hz=>by
 unfold gQ at hz;simp only at hz
 obtain⟨j,hj⟩:=List.getElem?_of_mem hz
 by_cases e:q=j
 ·subst e;rw[List.getElem?_set_self hq] at hj;cases hj;exact .inl h3
 ·rw[List.getElem?_set_ne e] at hj;exact gr z (List.mem_of_getElem? hj)
theorem Gs {b cap q:Nat} {x':Nod} (h:w.ownsRow 0 29 1 (Y (some ⟨b,0,O⟩) K.nds.length cap) K.nds.length (K.nds.map ku)):(w.setCell ⟨b,q,O⟩ (ku x')).ownsRow 0 29 1 (Y (some ⟨b,0,O⟩) K.nds.length cap) (K.nds.set q x').length ((K.nds.set q x').map ku):=by
 have:=(h.stored q (ku x')).1
 rw[List.length_set,List.map_set];exact this
theorem zO (h:KAt N w g K V) (hi:KI K) (gr:Gr K) (q:Nat) (hq:q<K.nds.length) (hm:dA K+100≤900000000000) :
  Calls Tryz.prog 36 #[Zp (some ⟨g,0,O⟩),I J q] w fun e w'=>RnE N w w' g K V 50 e:=by
 have z:=hi.sz;obtain⟨n,hn⟩:∃ n:Nat,K.n=n:=⟨K.n.toNat,by have:=z.n3;omega⟩
 have z3:=z.n3;have z1:=z.nds;have z7:=z.n7;have zd:=z.down;have zb:=z.begun;have z10:=z.opn;rw[hn] at z1 z7 z3 zd zb;have HC1:Hid (∀ w2,Below w.heap.size w w2→w2.cell? ⟨g,1,O⟩=some (I J n)):=fun w2 hw2=>by rw[← hn];exact (h.below hw2).cell 1
 obtain⟨aD,cD,hvD⟩:=au h.rD
 have HC3:Hid (∀ w2,Below w.heap.size w w2→w2.cell? ⟨g,3,O⟩=some (Y aD K.down.length cD)):=fun w2 hw2=>by rw[← hvD];exact (h.below hw2).cell 3
 have HD:=ah (fun (w2:World) (hw2:Below w.heap.size w w2)=>KAt.dwn h hvD hw2)
 have HC5:Hid (∀ w2,Below w.heap.size w w2→w2.cell? ⟨g,5,O⟩=some (I J K.lives)):=fun w2 hw2=>(h.below hw2).cell 5
 have HSm:Hid (RnE N w w g K V 50 (Zr (.bool true))):=(Rn.refl h hi gr).rne true (by omega)
 have hqd:q<K.down.length:=by omega
 obtain⟨b2,o2,rfl,_,d2⟩:=HD.out w (Below.refl _ _) q hqd
 have c3:=HC3.out w (Below.refl _ _);have c5:=HC5.out w (Below.refl _ _);have f5:=h.free 5;have j1:(0:Int)≤(q:Int):=by omega
 have j3:(q:Int)<(K.down.length:Int):=by omega
 have li:=hi.li;generalize hdq:K.down[q]=dq at *;cases dq
 ·clear h hi gr z;go_enter Tryz.func36,Tryz.ntmps36;go_wp2_with fail;go_ret;exact HSm.out
 ·by_cases h9:K.lives=999
  ·have h9':(K.lives==999)=true:=beq_iff_eq.2 h9
   clear h hi gr z h9;go_enter Tryz.func36,Tryz.ntmps36;go_wp2_with fail;go_ret;exact HSm.out
  ·have h9':(K.lives==999)=false:=beq_eq_false_iff_ne.2 h9
   have HS1:=ah (h.scalar (K':={ K with lives:=K.lives+1 }) 5 (I J (K.lives+1)) rfl rfl rfl)
   have HI1:=ah (hi.lives (K.lives+1) (by omega))
   have HGr:=ah gr;have HKI:=ah hi;have hlv:K.lives+1≤999:=by omega
   have hli:0≤K.lives:=li.1
   have HK0:=ah (Kst.refl h);clear h hi gr z h9 HSm;go_enter Tryz.func36,Tryz.ntmps36;go_wp2_with fail;generalize w.setCell ⟨g,5,O⟩ (I J (K.lives+1))=w1 at *;clear c3 c5 d2 f5;have c1:w1.cell? ⟨g,1,O⟩=some (I J n):=by rw[← hn];exact HS1.out.at_.cell 1
   have c5:w1.cell? ⟨g,5,O⟩=some (I J (K.lives+1)):=HS1.out.at_.cell 5
   have HRs:Hid (∀ w2,Below w1.heap.size w1 w2→Calls Tryz.prog 65 #[I J q,I J n,I J (K.lives+1)] w2 fun e w'=>Am w2 w' e (Rp.restart q n (K.lives+1))):=fun w2 hw2=>CS q n (K.lives+1) w2 (HS1.out.at_.tab.below hw2) ⟨by omega,by omega,by omega,by omega⟩ ⟨by omega,by omega⟩ (by have:=HS1.out.at_.Nlt;have:=hw2.size;omega)
   go_region_with (go_at_call 65;refine (HRs.out _ (Below.refl _ _).drew).mono ?_;rintro e w3 ⟨b3,bl3,W3,F3,V3,rfl,hR3,hv3,hF3,hb3⟩)
   all_goals
    have hb3':Below w1.heap.size w1 w3:=iL hb3
    have hF3':∀ y∈F3,w1.heap.size≤y:=fun y hy=>hF3 y hy
    have h3:=HS1.out.at_.below hb3';obtain⟨bN,cN,hvN,hbN⟩:=nQ h3.rN (by show 0<K.nds.length;omega)
    have hvN:V.vN=Y (some ⟨bN,0,O⟩) K.nds.length cN:=hvN
    have c2:w3.cell? ⟨g,2,O⟩=some (Y (some ⟨bN,0,O⟩) K.nds.length cN):=by rw[← hvN];exact h3.cell 2
    obtain⟨b4,o4,e4,_,d4⟩:=h3.ptr hvN (Below.refl _ _) q hq
    cases e4;simp only[Nat.zero_add] at d4;have fN:=h3.fz (i:=0) (r:=⟨29,1,V.vN,K.nds.length,K.nds.map ku⟩) rfl hvN q;have hrN:=h3.rN;rw[hvN] at hrN;have hj2:(q:Int)<(K.nds.length:Int):=by omega
    have HS4:Hid (Kst N w1 (w3.setCell ⟨bN,q,O⟩ (Zp (some ⟨b3,0,O⟩))) g { K with lives:=K.lives+1 } V (gQ { K with lives:=K.lives+1 } q ⟨b3,bl3,W3,F3,Rp.restart q n (K.lives+1),V3⟩) V) :=
     HS1.out.at_.Lg (x':=⟨b3,bl3,W3,F3,Rp.restart q n (K.lives+1),V3⟩) hb3' hq hR3 hF3' (by rw[hvN];exact (Kp.refl _ _).set bN q _ (.inl (by simp[Value.ownBlock]))) (by rw[hvN];exact Gs (K:=K) (x':=⟨b3,bl3,W3,F3,Rp.restart q n (K.lives+1),V3⟩) hrN)
    have hni:NI K.n q ⟨b3,bl3,W3,F3,Rp.restart q n (K.lives+1),V3⟩:=⟨Eo ⟨by omega,by omega,by omega,by omega⟩ ⟨by omega,by omega⟩,rfl,fun _=>⟨rfl,rfl,rfl,rfl⟩,rfl,hv3,rfl,hn.symm⟩
    have HI4:=ah (HI1.out.gQ (x:=K.nds[q]) (List.getElem?_eq_getElem hq) hni);have HMs:=ah (fun d=>Gj (K:=K) (x':=⟨b3,bl3,W3,F3,Rp.restart q n (K.lives+1),V3⟩) (List.getElem?_eq_getElem hq) hli hlv d)
    have HG4:=ah (fun d=>JG (K:=K) (x':=⟨b3,bl3,W3,F3,Rp.restart q n (K.lives+1),V3⟩) HGr.out hq rfl d (K.lives+1))
    clear hR3 hv3 hF3 hb3 hb3' hF3' h3 hrN hni c1 c5;go_upto_region 8 with fail
    clear c2 d4 fN;generalize w3.setCell ⟨bN,q,O⟩ (Zp (some ⟨b3,0,O⟩))=w4 at *;generalize (⟨b3,bl3,W3,F3,Rp.restart q n (K.lives+1),V3⟩:Nod)=x4 at *;obtain⟨bD,cD',hvD',hbD⟩:=nQ HS4.out.at_.rD (by show 0<K.down.length;omega)
    have hvD':V.vD=Y (some ⟨bD,0,O⟩) K.down.length cD':=hvD'
    have c3:w4.cell? ⟨g,3,O⟩=some (Y (some ⟨bD,0,O⟩) K.down.length cD'):=by rw[← hvD'];exact HS4.out.at_.cell 3
    obtain⟨b5,o5,e5,_,d5⟩:=HS4.out.at_.dwn hvD' (Below.refl _ _) q hqd
    cases e5;simp only[Nat.zero_add] at d5;have fD:=HS4.out.at_.fz (i:=1) (r:=⟨4,1,V.vD,K.down.length,K.down.map Value.bool⟩) rfl hvD' q;have HS5:=ah (HS4.out.at_.setD hvD' q false);have HL:Hid (Rn N w (w4.setCell ⟨bD,q,O⟩ (.bool false)) g K V 0 { gQ { K with lives:=K.lives+1 } q x4 with down:=K.down.set q false } V):=⟨HS1.out.trans (HS4.out.trans HS5.out),HI4.out.down q false,HMs.out _,rfl,HG4.out _⟩
    have HA:Hid (Calls Tryz.prog 34 #[Zp (some ⟨g,0,O⟩),I J q,I J 1,Z ⟨#[]⟩] (w4.setCell ⟨bD,q,O⟩ (.bool false)) fun e w'=>RnE N w w' g K V 50 e):=by
     refine (rJ HL.out.kst.at_ HL.out.ki HL.out.gr q (by simpa [gQ] using hq) ⟨#[]⟩ (by have:=HL.out.ms;omega)).mono ?_
     intro e w6 hs;exact (HL.out.ste hs).le (by omega)
    clear HL HS5;go_wp2_with fail;refine HA.out.mono ?_;rintro e w6 ⟨b6,K6,V6,rfl,hS6⟩;go_wp2_with fail;go_ret;exact⟨b6,K6,V6,rfl,hS6⟩
end
end Go.Proofs.YtajakaadgagejaaGreatDoor
