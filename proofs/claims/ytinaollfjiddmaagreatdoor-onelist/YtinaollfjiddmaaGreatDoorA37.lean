import Derived.Test.YtinaollfjiddmaaGreatDoorA24
set_option maxRecDepth 100000
set_option maxHeartbeats 8000000
set_option linter.all false
namespace Go.Proofs.YtinaollfjiddmaaGreatDoor
open Go.Value renaming int→I,slice→Y,string→Z,pointer→Zp
open Go.Ending renaming returned→Zr
open _root_.ByteArray renaming empty→Ze
open Go.IntKind renaming i64→J
open Option renaming none→O
open Go.RowKit
section
variable {N:Nat} {w w':World} {g:Nat} {K K':Kw} {V V':Kv}
theorem Ow {b1 b2:Nat} {e1 e2:TypeId} {s1 s2 n1 n2:Nat} {v1 v2:Value} {xs1 xs2:List Value} (h1:w.ownsRow b1 e1 s1 v1 n1 xs1) (h2:w.ownsRow b2 e2 s2 v2 n2 xs2) (hne:e1≠e2):∀ k,v1.ownBlock=some k→v2.ownBlock≠some k:=fun k k1 a=>by
 rcases h1.2 with ⟨rfl,_⟩|⟨f,c1,b,rfl,_,e,_⟩
 ·simp[Value.ownBlock] at k1
 rcases h2.2 with ⟨rfl,_⟩|⟨g2,c2,c,rfl,_,d,_⟩
 ·simp[Value.ownBlock] at a
 simp[Value.ownBlock] at k1 a;subst k1;subst a;rw[e] at d;have:=Option.some.inj d
 cases this;exact hne rfl
theorem Hy (W:World) (s:ByteArray) (t:TypeId):Rd (W.alloc (.cells #[Z s] t)) 1 (Y (some ⟨W.heap.size,0,O⟩) 1 1) 1 [Z s]:=⟨rfl,.inr ⟨W.heap.size,0,1,rfl,Nat.le_refl _,by unfold maxLen;omega,by simp,fun j u b=>by
 have:=World.news_of_block (heap_alloc_new W (.cells #[Z s] t)) j u b
 have a:(⟨W.heap.size,0,O⟩:Addr).add j=⟨W.heap.size,0+j,O⟩:=by unfold Addr.add;split <;> simp_all
 rwa [a] at this⟩⟩
theorem yQ {b:Nat} {e:TypeId} {s n:Nat} {v:Value} {xs:List Value} (h:w.ownsRow b e s v n xs) (o:Obj):(w.alloc o).ownsRow b e s v n xs:=h.alloc _
theorem one1 (s:ByteArray):∀ u∈[Z s],u.oneCell'=true:=fun u hu=>by simp at hu;subst hu;rfl
theorem xV {b:Nat} {v:Value} {n:Nat} {l:List ByteArray} {s:ByteArray} (h:w.ownsRow b 9 1 v (n+1) (l.map Value.string++[Z s])) (hn:n=l.length):w.ownsRow b 9 1 v (l++[s]).length ((l++[s]).map Value.string):=by
 subst hn;rw[List.map_append,show (l++[s]).length=l.length+1 by simp];exact h
theorem GJ (h:KAt N w g K V) (hi:KI K) (q:Nat) (hq:q<K.nds.length) :
  Calls Tryz.prog 63 #[Zp (some ⟨g,0,O⟩),I J q] w fun e w'=>Il w w' e:=by
 have z:=hi.sz;obtain⟨i0,W,X,aa,ab⟩:=info_parts Tryz.infoStr
 obtain⟨n,hn,z3,z1,z7,zd,zb,bp⟩:=z.all
 have a6:=ah (h.cv 1 rfl (congrArg (Value.int .i64) hn));obtain⟨aN,cN,ak⟩:=aj h.rN
 have a8:=ah (h.cv 2 rfl ak);have HN:=ah (fun (B:World) (r:Below w.heap.size w B)=>KAt.ptr h ak r)
 obtain⟨aD,cD,al⟩:=aj h.rD
 have ba:=ah (h.cv 3 rfl al);have HD:=ah (fun (B:World) (r:Below w.heap.size w B)=>KAt.dwn h al r)
 have am:=ah (fun (B:World) (r:Below w.heap.size w B)=>KAt.whr h r)
 obtain⟨x,S⟩:∃ x,K.nds[q]=x:=⟨_,rfl⟩
 have hx:K.nds[q]? = some x:=by rw[List.getElem?_eq_getElem hq,S]
 have hok:=(hi.nod q x hx).ok;have bq:=(hi.nod q x hx).n;have HQ:=ah (am.out w (Below.refl _ _) q hq);rw[S] at HQ;have bb:q<K.down.length:=by omega
 obtain⟨b1,o1,rfl,_,d1⟩:=HN.out w (Below.refl _ _) q hq
 rw[S] at d1;have c2:=a8.out w (Below.refl _ _);have j1:(0:Int)≤(q:Int):=by omega
 have j2:(q:Int)<(K.nds.length:Int):=by omega
 have j3:(q:Int)<(K.down.length:Int):=by omega
 have HR:=ah (fun (B:World) (r:Below w.heap.size w B)=>(h.nodes x (List.mem_of_getElem? hx)).below r)
 have E:Hid (x.R.grp.length≤5∧∀ y∈x.R.grp,0≤y∧y≤1000000):=⟨hok.g.1,fun y hy=>by have:=hok.g.2 y hy;have:=hok.n7;omega⟩
 have F:Hid (x.R.old.length≤5∧∀ y∈x.R.old,0≤y∧y≤1000000):=⟨hok.o.1,fun y hy=>by have:=hok.o.2 y hy;have:=hok.n7;omega⟩
 have bc:Hid (∀ (k:Nat) (hk:k<x.R.log.length),2≤x.R.log[k].2.2.size∧x.R.log[k].2.2.size≤10):=fun k hk=>by
  have:=hok.le _ (List.getElem_mem hk)
  exact⟨(oI this.2.2.2.2.1).sz.s2,this.2.2.2.2.2⟩
 have br:=hok.ep;have bs:=hok.lg;have bd:Hid (∀ B,Below w.heap.size w B→Il w B (Zr (Y O 0 0))):=fun B r=>⟨_,[],rfl,World.ownsRow_nil _ _ _ _,by simp,by simp,r⟩
 have an:Hid (∀ l:List Int,l.length≤5→(∀ y∈l,0≤y∧y≤1000000)→(txt l).size≤1000):=fun l hl hb=>by
  have:=Ij l (fun y hy=>by have:=(hb y hy).2;omega)
  omega
 clear h hi z hok hx am HN a6 S;go_enter Tryz.func63,Tryz.ntmps63;go_wp2_with fail;refine HQ.out.mono ?_;rintro e w1 ⟨rfl,nn,ao⟩;have C:Below w.heap.size w w1:=by rw[ao];exact below_drewN (Below.refl _ _) nn
 clear ao c2 d1 HQ;have ap:=ah (bd.out _ C);have c3:=ba.out _ C;obtain⟨b2,o2,rfl,_,d2⟩:=HD.out _ C q bb
 generalize K.down[q]=dq at *;cases dq
 ·by_cases s3:x.R.status=3
  ·have bg:(x.R.status==3)=true:=beq_iff_eq.2 s3
   clear s3;go_wp2;go_ret;exact ap.out
  ·have bg:(x.R.status==3)=false:=beq_eq_false_iff_ne.2 s3
   clear s3;have G:=ah (Cu (HR.out _ C) (by have:=E.out.1;omega))
   go_wp2_with fail;refine G.out.mono ?_;rintro e B ⟨vg,rfl,t,aq⟩;have H:=C.trans (aq.mono C.size)
   have L:=ah (xC vg x.R.grp B (Rd.bX t) (by have:=E.out.1;omega) E.out.2)
   obtain⟨a2,c2,rfl⟩:=aj t
   clear t c3 d2;go_wp2_with fail;refine L.out.mono ?_;rintro e w3 ⟨rfl,ar⟩;have ac:=H.trans (ar.mono H.size);have bh:=an.out x.R.grp E.out.1 E.out.2;generalize txt x.R.grp=t1 at *;have a:Hid (w3.ownsRow w.heap.size 9 1 (Y O 0 0) 0 []):=World.ownsRow_nil _ _ _ _
   clear aq ar H L G;go_wp2_with (at_builtin;refine FW rfl _ _ 48 rfl w.heap.size 9 i0 (Z Ze) 1 16 Tryz.underlying48 W X aa ab rfl (by decide) (w3.alloc (.cells #[Z t1] 9)) _ 0 [] (by rfl) (yQ a.out _) (Y (some ⟨w3.heap.size,0,O⟩) 1 1) 1 [Z t1] (by rfl) (Hy _ _ _) (one1 _) (by unfold maxLen;omega) (by omega) (by have:=ac.size;simp;omega) ?_)
   intro v4 w4 b hg4 hb4;have M:Below w.heap.size w w4:=(ac.alloc ac.size _).trans hb4
   have b:=xV (l:=[]) b rfl;obtain⟨a4,c4,rfl⟩:=aj b
   clear hg4 hb4 a;have j:Hid (∀ s∈([]++[t1]:List ByteArray),s.size≤1000):=fun s hs=>by simp at hs;subst hs;exact bh
   generalize hl4:([]++[t1]:List ByteArray)=l4 at *;have bo:l4.length≤1:=by rw[← hl4];simp
   clear hl4;by_cases s5:x.R.status=5
   focus
    have bi:(x.R.status==5)=true:=beq_iff_eq.2 s5
    clear s5;have G:=ah (OE (HR.out _ M) (by have:=F.out.1;omega))
    have a:=ah b;clear b;go_wp2_with fail;refine G.out.mono ?_;rintro e w5 ⟨vo,rfl,u,ad⟩;have ae:=M.trans (ad.mono M.size);have L:=ah (xC vo x.R.old w5 (Rd.bX u) (by have:=F.out.1;omega) F.out.2)
    obtain⟨a5,c5,rfl⟩:=aj u
    have a:=ah (dh a.out ad);clear u;go_wp2_with fail;refine L.out.mono ?_;rintro e w6 ⟨rfl,af⟩;have ai:=ae.trans (af.mono ae.size);have a:=ah (dh a.out af);have bj:=an.out x.R.old F.out.1 F.out.2;generalize txt x.R.old=t2 at *;clear ad af L G ae M;go_wp2_with (at_builtin;refine FW rfl _ _ 48 rfl w.heap.size 9 i0 (Z Ze) 1 16 Tryz.underlying48 W X aa ab rfl (by decide) (w6.alloc (.cells #[Z t2] 9)) _ l4.length (l4.map Value.string) (by rfl) (yQ a.out _) (Y (some ⟨w6.heap.size,0,O⟩) 1 1) 1 [Z t2] (by rfl) (Hy _ _ _) (one1 _) (by unfold maxLen;omega) (by omega) (by have:=ai.size;simp;omega) ?_)
    intro v7 w7 d hg7 hb7;have T:Below w.heap.size w w7:=(ai.alloc ai.size _).trans hb7
    have d:=xV d rfl;obtain⟨a7,c7,rfl⟩:=aj d
    clear hg7 hb7 a;have j:Hid (∀ s∈(l4++[t2]:List ByteArray),s.size≤1000):=fun s hs=>by
     rcases List.mem_append.1 hs with p|p
     ·exact j.out s p
     ·simp at p;subst p;exact bj
    generalize hl7:l4++[t2]=Q at *;have av:Q.length≤2:=by rw[← hl7];simp;omega
    clear hl7
   rotate_left
   focus
    have bi:(x.R.status==5)=false:=beq_eq_false_iff_ne.2 s5
    clear s5;obtain⟨w7,Q,a7,c7,d,T,U,av,e1,e2,e3,e4⟩:∃ w7 Q a7 c7,w7.ownsRow w.heap.size 9 1 (Y a7 Q.length c7) Q.length (Q.map Value.string)∧Below w.heap.size w w7∧Hid (∀ s∈Q,s.size≤1000)∧Q.length≤2∧w7=w4∧Q=l4∧a7=a4∧c7=c4:=⟨w4,l4,a4,c4,b,M,j,by omega,rfl,rfl,rfl,rfl⟩
    subst e1 e2 e3 e4;have j:=U;clear U
   rotate_left
   all_goals
    have aw:=ah (vR (HR.out _ T) (by omega))
    have a:=ah d;clear d;go_wp2_with fail;refine aw.out.mono ?_;rintro e w8 ⟨vL,rfl,v,ax⟩;have bk:=T.trans (ax.mono T.size);have a:=ah (dh a.out ax);have A:=ah (fB v (Nat.zero_le _));obtain⟨aL,cL,rfl⟩:=aj v
    clear v aw;go_wp2_with fail;go_loopw [10,15,16] (fun ov m i wr=>∃ (k c:Nat) (l:List ByteArray),k≤x.R.log.length∧c≤k∧i=I J k∧m=I J c∧wr.ownsRow w.heap.size 9 1 ov l.length (l.map Value.string)∧(∀ s∈l,s.size≤1000)∧l.length≤2+k∧wr.ownsRow 0 66 3 (Y aL x.R.log.length cL) x.R.log.length (aA x.R.log)∧Below w.heap.size w wr) (fun _ _ i _=>x.R.log.length-(intOf i).toNat)
    case atStart=>exact⟨0,0,Q,Nat.zero_le _,Nat.le_refl _,rfl,rfl,a.out,j.out,by omega,A.out,bk⟩
    case round =>
     obtain⟨k,c,l,hk,bt,rfl,rfl,hO,hS,bu,hL,D⟩:=hrel
     obtain⟨aO,cO,rfl⟩:=aj hO
     have a:=ah hO;have A:=ah hL;have j:=ah hS;clear hO hL hS;by_cases az:k<x.R.log.length
     ·have a0:iw wr (Y aL x.R.log.length cL) x.R.log:=Rd.bX A.out
      obtain⟨be,oe,rfl,_,f1,f2,f3⟩:=a0.get k az
      clear a0;have j4:(0:Int)≤(k:Int):=by omega
      have j5:(k:Int)<(x.R.log.length:Int):=by omega
      obtain⟨s2,bv⟩:=bc.out k az
      generalize x.R.log[k].2.2=P at *;have j6:(0:Int)<(P.size:Int):=by omega
      have j7:(1:Int)≤(P.size:Int):=by omega
      by_cases hr:(P[0].toNat:Int)=114
      ·have bl:((P[0].toNat:Int)==114)=true:=beq_iff_eq.2 hr
       clear hr;by_cases bw:x.R.epoch<(c:Int)+1
       ·go_wp2_with (at_builtin;refine FW rfl _ _ 48 rfl w.heap.size 9 i0 (Z Ze) 1 16 Tryz.underlying48 W X aa ab rfl (by decide) (wr.alloc (.cells #[Z (P.extract 1 P.size)] 9)) _ l.length (l.map Value.string) (by rfl) (yQ a.out _) (Y (some ⟨wr.heap.size,0,O⟩) 1 1) 1 [Z (P.extract 1 P.size)] (by rfl) (Hy _ _ _) (one1 _) (by unfold maxLen;omega) (by omega) (by have:=D.size;simp;omega) ?_)
        intro v9 w9 f hg9 hb9;have bm:Below w.heap.size w w9:=(D.alloc D.size _).trans hb9
        have f:=xV f rfl;have a1:Hid (w9.ownsRow 0 66 3 (Y (some ⟨be,oe,O⟩) x.R.log.length cL) x.R.log.length (aA x.R.log)):=fF (yQ A.out _) (Kp.row hg9) (fun y hy hc=>Ow A.out a.out (by decide) y hy (by simpa using hc))
        have bn:=ah f;have a3:Hid (∀ s∈l++[P.extract 1 P.size],s.size≤1000):=fun s hs=>by
         rcases List.mem_append.1 hs with p|p
         ·exact j.out s p
         ·simp at p;subst p;simp;omega
        obtain⟨a9,c9,rfl⟩:=aj f
        clear f hg9 hb9;go_wp2;go_roundw
        case rel=>exact⟨k+1,c+1,_,by omega,by omega,by go_num,by go_num,bn.out,a3.out,by simp;omega,a1.out,bm⟩
        case measure=>simp[intOf];omega
       ·go_wp2;go_roundw
        case rel=>exact⟨k+1,c+1,l,by omega,by omega,by go_num,by go_num,a.out,j.out,by omega,A.out,D⟩
        case measure=>simp[intOf];omega
      ·have bl:((P[0].toNat:Int)==114)=false:=beq_eq_false_iff_ne.2 hr
       clear hr;go_wp2;go_roundw
       case rel=>exact⟨k+1,c,l,by omega,by omega,by go_num,rfl,a.out,j.out,by omega,A.out,D⟩
       case measure=>simp[intOf];omega
     ·have HF:Hid (Il w wr (Zr (Y aO l.length cO))):=⟨_,l,rfl,a.out,j.out,by omega,D⟩
      go_wp2;go_ret;exact HF.out
 ·go_wp2;go_ret;exact ap.out
end
section
variable {N:Nat} {w w':World} {g:Nat} {K K':Kw} {V V':Kv}
def CrP (N:Nat) (w w':World) (g:Nat) (K:Kw) (V:Kv) (q:Nat) (e:Ending):Prop:=e=Zr (.tuple #[])∧∃ K',Kst N w w' g K V K' V∧(K'=K∨K'={ K with down:=K.down.set q true })
theorem Gy (h:KAt N w g K V) (hi:KI K) (q:Nat) (hq:q<K.nds.length) :
  Calls Tryz.prog 34 #[Zp (some ⟨g,0,O⟩),I J q] w fun e w'=>CrP N w w' g K V q e:=by
 have z:=hi.sz;obtain⟨n,hn,z3,z1,z7,zd,zb,A⟩:=z.all
 have ab:=ah (h.cv 1 rfl (congrArg (Value.int .i64) hn));obtain⟨aD,cD,l⟩:=aj h.rD
 have B:=ah (h.cv 3 rfl l);have HD:=ah (fun (b:World) (a:Below w.heap.size w b)=>KAt.dwn h l a)
 obtain⟨aO,cO,C⟩:=aj h.rO
 have D:=ah (h.cv 9 rfl C);have HO:=ah (fun (b:World) (a:Below w.heap.size w b)=>KAt.opn h C a)
 obtain⟨aW,cW,E⟩:=aj h.rW
 have F:=ah (h.cv 8 rfl E);have HW:Hid (∀ b,Below w.heap.size w b→kV b (Y aW K.wishes.length cW) K.wishes):=fun b a=>by rw[← E];exact (h.below a).eW
 have ac:q<K.down.length:=by omega
 obtain⟨bD,az,eD,a0⟩:=qg h.rD (by omega)
 rw[l] at eD;cases eD;have G:Hid (∀ b,Below w.heap.size w b→b.cell? ⟨bD,q,O⟩=some (.bool K.down[q])):=fun b a=>by
  obtain⟨b2,o2,e2,_,d2⟩:=HD.out b a q ac
  cases e2
  simpa using d2
 have d2:=G.out w (Below.refl _ _);have c3:=B.out w (Below.refl _ _);have j1:(0:Int)≤(q:Int):=by omega
 have j3:(q:Int)<(K.down.length:Int):=by omega
 have HY:Hid (∀ b,Below w.heap.size w b→CrP N w b g K V q (Zr (.tuple #[]))):=fun b a=>⟨rfl,K,(Kst.refl h).below a,.inl rfl⟩
 have ad:Hid (∀ b,Below w.heap.size w b→b.frozen? ⟨bD,q,O⟩=false∧CrP N w (b.setCell ⟨bD,q,O⟩ (.bool true)) g K V q (Zr (.tuple #[]))):=fun b a =>
  ⟨(h.below a).fz (i:=1) (r:=⟨4,1,V.vD,K.down.length,K.down.map Value.bool⟩) rfl l q,rfl,_,((Kst.refl h).below a).trans ((h.below a).setD l q true),.inr rfl⟩
 have ae:Hid (∀ b k,Below w.heap.size w b→k<n→Calls Tryz.prog 63 #[Zp (some ⟨g,0,O⟩),I J (k:Int)] b fun e w'=>Il b w' e):=fun b k a H=>GJ (h.below a) hi k (by omega)
 have L:Hid (∀ b s,Below w.heap.size w b→s.size≤1000→Calls Tryz.prog 28 #[Zp (some ⟨g,0,O⟩),Z s,I J (q:Int)] b fun e w'=>sZ b w' e):=fun b s a hs=>zS (h.below a) z s q (by omega)
 have af:Hid (∀ v∈K.opn,-1≤v∧v<(K.wishes.length:Int)):=hi.opn
 have ai:Hid (∀ (k:Nat) (H:k<K.wishes.length),1≤K.wishes[k].e.2.2.size∧K.wishes[k].e.2.2.size≤9):=fun k H=>⟨(hi.wish _ (List.getElem_mem H)).o1,(hi.wish _ (List.getElem_mem H)).o9⟩
 have M:=ah A;clear h hi z A;generalize hdq:K.down[q]=dq at *;cases dq
 ·go_enter Tryz.func34,Tryz.ntmps34;go_wp2_with fail;clear d2 c3;go_loopw [4] (fun i wr=>∃ k:Nat,k≤n∧i=I J k∧Below w.heap.size w wr) (fun i _=>n-(intOf i).toNat)
  case atStart=>exact⟨0,Nat.zero_le _,rfl,Below.refl _ _⟩
  case round =>
   obtain⟨k,H,rfl,m⟩:=hrel
   have c1:=ab.out _ m;obtain⟨wO,ak⟩:∃ x,x=wr:=⟨_,rfl⟩
   subst ak;by_cases al:k<n
   ·have j4:(k:Int)<(n:Int):=by omega
    have HQ:=ah (ae.out _ k m al);go_wp2_with fail;refine HQ.out.mono ?_;rintro e w1 ⟨v1,p,rfl,f,P,a2,Q⟩;have am:=m.trans (Q.mono m.size);obtain⟨a1,an,rfl⟩:=aj f
    have ao:=ah f;have ap:Hid (∀ (i:Nat) (hi:i<p.length),(p[i]).size≤1000):=fun i hi=>P _ (List.getElem_mem hi)
    clear f P Q c1;go_wp2_with fail;go_loopw [6] (fun i wr=>∃ k:Nat,k≤p.length∧i=I J k∧wr.ownsRow wO.heap.size 9 1 (Y a1 p.length an) p.length (p.map Value.string)∧Below w.heap.size w wr) (fun i _=>p.length-(intOf i).toNat)
    case atStart=>exact⟨0,Nat.zero_le _,rfl,ao.out,am⟩
    case round =>
     obtain⟨i,hi,rfl,hO,d⟩:=hrel
     by_cases R:i<p.length
     ·obtain⟨b3,o3,rfl,_,d3⟩:=Rd.Dg (Rd.bX hO) (k:=i) (u:=Z p[i]) (by rw[List.getElem?_map,List.getElem?_eq_getElem R];rfl)
      have HO:=ah hO;have k1:(0:Int)≤(i:Int):=by omega
      have k2:(i:Int)<(p.length:Int):=by omega
      have aq:=ah (L.out _ _ d (ap.out i R));generalize p[i]=si at *;clear hO;go_wp2_with fail;refine aq.out.mono ?_;rintro e w5 ⟨b5,rfl,S⟩;have T:=d.trans (S.mono d.size);cases b5
      ·have y:=ah (HY.out _ T);go_wp2;exact bodyPost_ret (v:=.tuple #[]) (results_none rfl _ _ _) rfl y.out
      ·have ar:=ah (dh HO.out S);go_wp2;go_roundw
       case rel=>exact⟨i+1,by omega,by go_num,ar.out,T⟩
       case measure=>simp[intOf];omega
     ·go_wp2;go_roundw
      case rel=>exact⟨k+1,by omega,by go_num,d⟩
      case measure=>simp[intOf];omega
   ·have j4:¬(k:Int)<(n:Int):=by omega
    go_wp2_with fail;clear c1;go_loopw [8] (fun i wr=>∃ c:Nat,1≤c∧c≤10∧i=I J c∧Below w.heap.size w wr) (fun i _=>10-(intOf i).toNat)
    case atStart=>exact⟨1,by omega,by omega,rfl,m⟩
    case round =>
     obtain⟨c,a3,hc,rfl,d⟩:=hrel
     by_cases a4:c<10
     ·have U:c<K.opn.length:=by rw[M.out];omega
      obtain⟨b6,o6,rfl,_,d6⟩:=HO.out _ d c U
      have c9:=D.out _ d;have c8:=F.out _ d;have k1:(0:Int)≤(c:Int):=by omega
      have k2:(c:Int)<(K.opn.length:Int):=by omega
      have k3:(c:Int)≤9:=by omega
      have W:=af.out _ (List.getElem_mem U);generalize K.opn[c]=ov at *;by_cases hv:ov<0
      ·have av:decide (ov<0)=true:=decide_eq_true hv
       clear W;go_wp2_with fail;go_quiet (fail);have j:=below_drewN d nq;go_wp2;go_roundw
       case rel=>exact⟨c+1,by omega,by omega,by go_num,j⟩
       case measure=>simp[intOf];omega
      ·have av:decide (ov<0)=false:=decide_eq_false hv
       obtain⟨o,rfl⟩:=Int.eq_ofNat_of_zero_le (show 0≤ov by omega)
       have X:o<K.wishes.length:=by omega
       obtain⟨b7,o7,rfl,_,_,_,d7,_⟩:=(HW.out _ d).get o X
       have k4:(0:Int)≤(o:Int):=by omega
       have k5:(o:Int)<(K.wishes.length:Int):=by omega
       obtain⟨s1,s9⟩:=ai.out o X
       have a5:Hid (∀ b,Below w.heap.size w b→b.cell? ⟨g,8,O⟩=some (Y (some ⟨b7,o7,O⟩) K.wishes.length cW)∧b.cell? ⟨g,9,O⟩=some (Y (some ⟨b6,o6,O⟩) K.opn.length cO)):=fun b a=>⟨F.out _ a,D.out _ a⟩
       generalize K.wishes[o].e.2.2=t at *;have k6:(0:Int)<(t.size:Int):=by omega
       have k7:(1:Int)≤(t.size:Int):=by omega
       have k8:0<t.size:=by omega
       have k9:¬t=Ze:=by intro hc;rw[hc] at k8;exact absurd k8 (by decide)
       clear W hv;by_cases hr:(t[0].toNat:Int)=114
       ·have aw:((t[0].toNat:Int) != 114)=false:=by rw[hr];rfl
        clear hr;have HQ:Hid (∀ b,Below w.heap.size w b→Calls Tryz.prog 28 #[Zp (some ⟨g,0,O⟩),Z (t.extract 1 t.size),I J (q:Int)] b fun e w'=>sZ b w' e):=fun b a=>L.out b _ a (by simp;omega)
        go_wp2_with fail;go_quiet (fail);have j:=below_drewN d nq;go_wp2_with fail;go_region_with (go_at_call 28;refine (HQ.out _ j.drew).mono ?_;rintro e w8 ⟨b8,rfl,ax⟩)
        all_goals
         have aa:Below w.heap.size w w8:=j.drew.trans (ax.mono j.drew.size)
         cases b8
         ·have y:=ah (HY.out _ aa);go_wp2;exact bodyPost_ret (v:=.tuple #[]) (results_none rfl _ _ _) rfl y.out
         ·go_wp2;go_roundw
          case rel=>exact⟨c+1,by omega,by omega,by go_num,aa⟩
          case measure=>simp[intOf];omega
       ·have aw:((t[0].toNat:Int) != 114)=true:=bne_iff_ne.2 hr
        clear hr;go_wp2_with fail;go_quiet (fail);have j:=below_drewN d nq;go_wp2;go_roundw
        case rel=>exact⟨c+1,by omega,by omega,by go_num,j⟩
        case measure=>simp[intOf];omega
     ·have k3:¬(c:Int)≤9:=by omega
      have c3:=B.out _ d;have d2:=G.out _ d;obtain⟨f2,hF⟩:=ad.out _ d
      have y:=ah hF;clear hF;go_wp2_with fail;refine bodyPost_end (results_none rfl _ _ _) rfl ?_;exact y.out
 ·have y:=ah (HY.out _ (Below.refl _ _));go_enter Tryz.func34,Tryz.ntmps34;go_wp2;exact bodyPost_ret (v:=.tuple #[]) (results_none rfl _ _ _) rfl y.out
end
end Go.Proofs.YtinaollfjiddmaaGreatDoor
