import Derived.Test.YtinaollfjiddmaaGreatDoorA16
import Derived.Test.YtinaollfjiddmaaGreatDoorA17
set_option maxRecDepth 100000
set_option maxHeartbeats 8000000
set_option linter.all false
namespace Go.Proofs.YtinaollfjiddmaaGreatDoor
open Go.Value renaming int→I,slice→Y,string→Z,pointer→Zp
open Go.Ending renaming returned→Zr
open _root_.ByteArray renaming empty→Ze
open Go.IntKind renaming i64→J
open Option renaming none→O
open Go.RowKit
theorem uh:∀ (l:List Int) (a:Int),(l.foldl (fun g x=>if g<x then x else g) a=a∨l.foldl (fun g x=>if g<x then x else g) a∈l)∧a≤l.foldl (fun g x=>if g<x then x else g) a∧∀ x∈l,x≤l.foldl (fun g x=>if g<x then x else g) a
 | [],a=>⟨.inl rfl,Int.le_refl _,fun x hx=>by simp at hx⟩
 | y :: l,a=>by
  rw[List.foldl_cons];obtain⟨i1,i2,i3⟩:=uh l (if a<y then y else a)
  have q:a≤(if a<y then y else a)∧y≤(if a<y then y else a):=by split <;> omega
  refine⟨?_,by omega,fun x hx=>?_⟩
  ·rcases i1 with z|z
   ·rw[z]
    split
    ·exact .inr (by simp)
    ·exact .inl rfl
   ·exact .inr (List.mem_cons_of_mem _ z)
  ·rcases List.mem_cons.1 hx with z|z
   ·rw[z];omega
   ·exact i3 x z
theorem LK (l:List Int):cK l=0∨cK l∈l:=(uh l 0).1
theorem LJ {l:List Int} {x:Int} (hx:x∈l):x≤cK l:=(uh l 0).2.2 x hx
def Nb (v b:Pm):Prop:=v.normal≤b.normal∧(v.normal=b.normal→v.log.length≤b.log.length)
theorem Jr (a v:Pm):(qK (some a) v=some v∧Nb a v)∨(qK (some a) v=some a∧Nb v a):=by
 have q:jT v a=(if v.normal=a.normal then decide (a.log.length<v.log.length) else decide (a.normal<v.normal)):=rfl
 unfold qK Nb;cases hb:jT v a
 ·rw[hb] at q
  right
  refine⟨by simp[hb],?_⟩
  split at q
  ·have:=of_decide_eq_false q.symm;omega
  ·have:=of_decide_eq_false q.symm;omega
 ·rw[hb] at q
  left
  refine⟨by simp[hb],?_⟩
  split at q
  ·have:=of_decide_eq_true q.symm;omega
  ·have:=of_decide_eq_true q.symm;omega
theorem wV:∀ (l:List Pm) (a:Pm),∃ b,l.foldl qK (some a)=some b∧(b=a∨b∈l)∧Nb a b∧∀ v∈l,Nb v b
 | [],a=>⟨a,rfl,.inl rfl,⟨Int.le_refl _,fun _=>Nat.le_refl _⟩,fun v hv=>by simp at hv⟩
 | x :: l,a=>by
  rw[List.foldl_cons];rcases Jr a x with ⟨e,n⟩|⟨e,n⟩
  ·rw[e];obtain⟨b,b1,b2,b3,b4⟩:=wV l x
   refine⟨b,b1,.inr ?_,?_,fun v hv=>?_⟩
   ·rcases b2 with z|z
    ·rw[z];simp
    ·exact List.mem_cons_of_mem _ z
   ·unfold Nb at n b3 ⊢;omega
   ·rcases List.mem_cons.1 hv with z|z
    ·rw[z];exact b3
    ·exact b4 v z
  ·rw[e];obtain⟨b,b1,b2,b3,b4⟩:=wV l a
   refine⟨b,b1,?_,b3,fun v hv=>?_⟩
   ·rcases b2 with z|z
    ·exact .inl z
    ·exact .inr (List.mem_cons_of_mem _ z)
   ·rcases List.mem_cons.1 hv with z|z
    ·rw[z];unfold Nb at n b3 ⊢;omega
    ·exact b4 v z
theorem NA {l:List Pm} (hl:l≠[]):∃ b∈l,ji l=some b∧∀ v∈l,Nb v b:=by
 cases l with
 | nil=>exact absurd rfl hl
 | cons a l =>
  obtain⟨b,b1,c,d,e⟩:=wV l a
  refine⟨b,?_,b1,fun v f=>?_⟩
  ·rcases c with z|z
   ·rw[z];simp
   ·exact List.mem_cons_of_mem _ z
  ·rcases List.mem_cons.1 f with z|z
   ·rw[z];exact d
   ·exact e v z
theorem zY {gr:List Int} {x:Int} (hx:gW gr x=true):x∈gr:=by
 unfold gW at hx;obtain⟨y,h1,h2⟩:=List.any_eq_true.1 hx
 rw[← eq_of_beq h2];exact h1
theorem I5 {α:Type} {P:α→Nat→Prop} {f:Nat→Int} {k:α→Int} (hf:∀ v i,P v i→f i=k v):∀ (l:List α),(∀ v∈l,∃ i,P v i)→∃ B:List Nat,B.map f=l.map k∧(∀ i∈B,∃ v∈l,P v i)∧∀ v∈l,∃ i∈B,P v i
 | [],_=>⟨[],rfl,fun i hi=>by simp at hi,fun v hv=>by simp at hv⟩
 | a :: l,hp=>by
  obtain⟨i,hi⟩:=hp a (by simp)
  obtain⟨B,b1,b,c⟩:=I5 hf l (fun v hv=>hp v (List.mem_cons_of_mem _ hv))
  refine⟨i :: B,by rw[List.map_cons,List.map_cons,b1,hf a i hi],fun j d=>?_,fun v hv=>?_⟩
  ·rcases List.mem_cons.1 d with z|z
   ·exact⟨a,by simp,by rw[z];exact hi⟩
   ·obtain⟨v,e,g⟩:=b j z
    exact⟨v,List.mem_cons_of_mem _ e,g⟩
  ·rcases List.mem_cons.1 hv with z|z
   ·exact⟨i,by simp,by rw[z];exact hi⟩
   ·obtain⟨j,h,m⟩:=c v z
    exact⟨j,List.mem_cons_of_mem _ h,m⟩
section
variable {h h':Nat→Sn} {T T':Nat} {g:Int→List Int} {r r':Rp} {cu:Int→Int} {h0:Nat→Sn} {T0:Nat}
theorem Hok.lk (c:Hok g cu h0 T0 h T r) (q:Int):lf (sn r) q≤cu q:=by
 obtain⟨i,i1,i2,_⟩:=c.nr.lst
 have:=c.kn i i1 q
 rw[i2] at this;exact this
theorem Hok.fm (c:Hok g cu h0 T0 h T r) (hs:r.status=1∨r.status=2):∃ i,i<T∧h i=sn r∧gV (h i)∧Fm h g i:=by
 obtain⟨i,i1,i2,_⟩:=c.nr.lst
 have:gV (h i):=by rw[i2];exact hs
 exact⟨i,i1,i2,this,c.hx.fm i1 this⟩
theorem HX.has2 (H:HX h' T' g) (k:∀ i,i<T→h' i=h i) (ht:T≤T') {e v:Int} {l:List En} {c j:Nat} (d:Dc h T g e v l c) (hj:j<T') (ij:gV (h' j)) (hl:e<(h' j).ep∨(e=(h' j).ep∧v<(h' j).nv)):Dc h T g (h' j).ep (h' j).nv (h' j).log c:=by
 rcases d with d|⟨f,m,L,A,p,c1,o,c2,c3⟩
 ·exact .inl d
 ·have a:=(c1.ag k).mono ht
  have q:L <+: (h' j).log:=by
   rcases Int.lt_or_eq_of_le (show f≤(h' j).ep by omega) with z|z
   ·exact H.later (Nat.le_refl _) a hj ij z
   ·have n:=H.nvw j hj ij;exact (safe H (show 0≤f by omega)).2.1 T' m L A p (Nat.le_refl _) a j hj ij z.symm (by omega)
  have b:c≤L.length:=by
   have:=c2.length_le
   rw[List.length_take] at this;omega
  exact .inr ⟨f,m,L,A,p,c1,by omega,by rw[rR q b];exact List.take_prefix _ _,by have:=q.length_le;omega⟩
theorem Hok.grow (c:Hok g cu h0 T0 h T r) (hid:r'.id=r.id) (hlf:life (sn r')=life (sn r)) (hin:Inc (sn r) (sn r')) (hst:1≤r'.status∧r'.status≤5)
  (hr:r.status=3→r'.status≠3→0<life (sn r')→∃ E V Q p,Rc (upd h T (sn r')) g T E V Q p) (hf:gV (sn r')→Fm (upd h T (sn r')) g T):HX (upd h T (sn r')) (T+1) g:=by
 obtain⟨i,b,i2,d⟩:=c.nr.lst
 refine c.hx.ext b (fun j a q=>d j a (by rw[q];exact hid)) (by rw[i2];exact hid.symm) (by rw[i2];exact hlf.symm) (by rw[i2];exact hin) (fun j a=>?_) ?_ (fun q=>hr (by rw[i2] at q;exact q)) hf
 ·have:=c.kn j a r'.id
  have e:=c.own;rw[← hlf,← hid] at e
  show lf (h j) r'.id≤life (sn r')
  omega
 ·show (r'.status=1∨r'.status=2)∨r'.status=3∨r'.status=4∨r'.status=5
  omega
theorem Hok.kN (c:Hok g cu h0 T0 h T r) (hs:r.status=2) (hm:gW r.grp r.id=true):Hok g cu h0 T0 h T r.kN:=by
 obtain⟨i,b,i2,e⟩:=c.nr.lst
 have a:(sn r).nv=r.normal:=if_neg (by omega)
 have d:Dc h T g r.epoch r.normal r.log (r.decided:Int).toNat:=by
  rw[Int.toNat_natCast,← a];exact c.nr.dc
 unfold Rp.kN
 split
 ·refine c.same rfl rfl (Rp.lV c.ok rfl (Rp.rC c.ok)) ⟨⟨i,b,i2,e⟩,c.nr.dc,c.nr.ak,fun v f=>?_,c.nr.an,c.nr.ba⟩ fun o q=>.inl q
  rcases iH f with q|q
  ·subst q;refine⟨hs,i,b,?_⟩
   rw[i2];exact⟨rfl,hs,rfl,rfl,a,rfl,rfl,hm,d,Int.le_refl _,fun q=>Int.le_refl _⟩
  ·exact c.nr.vo v q
 ·exact c.send (Rp.rC c.ok) (by unfold RK;simp[Rp.dw,Rp.head])
   ⟨i,b,by rw[i2];rfl,by rw[i2];rfl,by simp[Rp.dw,Rp.head],by simp[Rp.dw,Rp.head],by simp[Rp.dw,Rp.head],by simp[Rp.dw,Rp.head],fun _=>by rw[i2];exact⟨hs,rfl,rfl,a,rfl⟩,by simp[Rp.dw,Rp.head],by simp[Rp.dw,Rp.head],fun _=>d⟩
theorem Hok.dJ (c:Hok g cu h0 T0 h T r) (hs:r.status=2) (hm:gW r.grp r.id=true):Hok g cu h0 T0 h T r.dJ:=by
 unfold Rp.dJ
 split
 ·exact c
 ·exact c.kN hs hm
theorem Hok.call (c:Hok g cu h0 T0 h T r):Hok g cu h0 T0 h T r.call:=c.LP (.inl rfl)
theorem M7 (hs:r.status=1):(sn r).nv=r.view:=if_pos hs
theorem Hok.want (c:Hok g cu h0 T0 h T r) (hs:r.status=1∨r.status=2) {v:Int} (hv:r.view<v) (h9:v≤999) (hm:gW r.grp r.id=true):Hok g cu h0 T0 (upd h T (sn (r.jH v))) (T+1) (r.want v):=by
 obtain⟨i,e,i2,l,f⟩:=c.fm hs
 have n:=f.nvw;rw[i2] at n;have b:(sn (r.jH v)).nv=(sn r).nv:=by
  show (if (2:Int)=1 then v else if r.status==1 then r.view else r.normal)=if r.status=1 then r.view else r.normal
  rw[if_neg (by decide)]
  by_cases q:r.status=1
  ·rw[if_pos q,if_pos (by simpa using q)]
  ·rw[if_neg q,if_neg (by simpa using q)]
 have m:(sn r).nv≤r.view:=n.2.2.1
 have j:=c.ok.vi;have c1:Hok g cu h0 T0 (upd h T (sn (r.jH v))) (T+1) (r.jH v):=by
  refine c.ext rfl rfl rfl ⟨⟨fun q=>Int.le_refl _,.inr ⟨rfl,by show r.view≤v;omega⟩⟩,fun _ _=>⟨.inr rfl,by rw[b];exact Int.le_refl _,fun _=>List.prefix_refl _⟩,fun q _=>?_,fun _=>by show (2:Int)≠3;decide⟩ c.lk (Rp.vM c.ok (by omega)) ⟨?_,fun x d=>?_,fun v hv=>?_,fun a k=>?_,fun q=>?_,fun q=>?_⟩ (fun q=>by omega) (fun _=>?_) rfl
  ·have q:r.status=4∨r.status=5:=q;omega
  ·rw[b];exact c.nr.dc
  ·have d:0<jW.getD x 0:=d;rw[jy] at d;omega
  ·simp[Rp.jH] at hv
  ·have:=(c.nr.an a k).1;omega
  ·have q:(2:Int)=5:=q;omega
  ·have q:(2:Int)=3:=q;omega
  ·refine f.same e (by rw[i2];rfl) (by rw[i2];exact b) (by rw[i2];rfl) ⟨by rw[b];show _≤v;omega,fun q=>by have q:(2:Int)=1:=q;omega,fun _=>by rw[b];show _<v;omega⟩
 exact c1.call.kN rfl hm
theorem Hok.counted (c:Hok g cu h0 T0 h T r) (hs:r.status=2) (hp:r.dG=true) (hg:r.grp=g r.epoch) (ho:r.grp.length % 2=1) (hq:eP r.grp<r.aI.length):Hk g cu h0 T0 (r.counted ((ji r.aI).getD pm0) (cK (r.aI.map (·.commit)))):=by
 obtain⟨i,i1,i2,ii,f⟩:=c.fm (.inr hs)
 have n:=f.nvw;rw[i2] at n;have W:(sn r).nv<r.view:=n.2.2.2.2 hs
 have N:r.aI≠[]:=fun e=>by
  rw[e] at hq;unfold eP at hq;simp at hq;have:((r.grp.length:Int)-1).tdiv 2=((r.grp.length:Int)-1) / 2:=Int.tdiv_eq_ediv_of_nonneg (by omega)
  rw[this] at hq;omega
 obtain⟨m,Q,X,bb⟩:=NA N
 rw[X]
 show Hk g cu h0 T0 (r.counted m _)
 obtain⟨B,b1,t,R⟩:=I5 (P:=fun (v:Pm) i=>i<T∧(h i).id=v.frm∧(h i).st=2∧(h i).ep=r.epoch∧(h i).vw=r.view∧(h i).nv=v.normal∧(h i).log=v.log∧(h i).lv=v.lives∧gW r.grp v.frm=true∧Dc h T g r.epoch v.normal v.log v.commit.toNat∧lf (sn r) v.frm≤life (h i)∧∀ q,lf (h i) q≤lf (sn r) q) (f:=fun i=>(h i).id) (k:=fun v=>v.frm) (fun v i q=>q.2.1) r.aI (fun v u=>(c.nr.vo v u).2)
 obtain⟨b,bB,K,x2,S,U,x5,x6,D,x8,x9,aa,ab,ac⟩:=R m Q
 have M:=c.hx.fm K (.inr S);have nb:=M.nvw;have F:r.id=fJ (g r.epoch) r.view:=by
  unfold Rp.dG Rp.gZ at hp;rw[← hg];exact (eq_of_beq hp).symm
 have k:∀ i,i<T→upd h T (sn ((r.over m.log).begin_ r.view)) i=h i:=fun i hi=>dx hi
 have o:upd h T (sn ((r.over m.log).begin_ r.view)) T=sn ((r.over m.log).begin_ r.view):=dK
 have C:∀ j∈B,j<T:=fun j s=>by obtain⟨v,_,y⟩:=t j s;exact y.1
 have qr:Qr h (g r.epoch) r.epoch T B:=by
  refine⟨C,fun j s=>?_,fun j s=>?_,fun j s=>?_,?_,?_,by rw[← hg];exact ho,fun j s l hl=>?_⟩
  ·obtain⟨v,_,y⟩:=t j s;exact y.2.2.2.1
  ·obtain⟨v,_,y⟩:=t j s;exact .inr y.2.2.1
  ·obtain⟨v,_,y⟩:=t j s;rw[y.2.1,← hg];exact zY y.2.2.2.2.2.2.2.2.1
  ·rw[b1];exact c.ok.vn
  ·have:=congrArg List.length b1
   rw[List.length_map,List.length_map] at this;rw[this,← hg];exact hq
  ·obtain⟨v,_,y⟩:=t j s
   obtain⟨w,_,z⟩:=t l hl
   have h1:=y.2.2.2.2.2.2.2.2.2.2.2 (h l).id;have h2:=z.2.2.2.2.2.2.2.2.2.2.1;rw[← z.2.1] at h2;omega
 have fm:Fm (upd h T (sn ((r.over m.log).begin_ r.view))) g T:=by
  refine⟨?_,?_,?_,?_,?_,?_⟩
  ·rw[o];intro _;refine⟨T,B,b,Nat.le_refl _,by rw[o];exact F,by rw[o],by rw[o];rfl,by rw[o];rfl,by rw[o];exact List.prefix_refl _,qr.ag k,fun j s=>?_,bB,by rw[o,k b K];exact D,fun j s=>?_,?_⟩
   ·rw[k j (C j s)];obtain⟨v,_,y⟩:=t j s;exact y.2.2.2.2.1
   ·rw[k j (C j s),k b K];obtain⟨v,u,y⟩:=t j s
    have:=bb v u
    unfold Nb at this;rw[y.2.2.2.2.2.1,y.2.2.2.2.2.2.1,x6,D];exact this
   ·rw[k b K]
    show (h b).nv<r.view
    have:=nb.2.2.2.2 S
    omega
  ·rw[o];exact .inl ⟨T,Nat.le_refl _,by rw[o];exact⟨rfl,rfl,rfl,F,List.prefix_refl _⟩⟩
  ·rw[o];intro E e0 e1;obtain⟨v,L,A,p,ct,y1,V⟩:=M.bas E e0 (by rw[U];exact e1)
   exact⟨v,L,A,p,Li ct (by omega),y1,by rw[D] at V;exact V⟩
  ·rw[o];have:=M.clo
   rw[D,U] at this;exact this
  ·rw[o];exact⟨n.1,by show 0≤r.view;have:=n.2.1;omega,by show r.view≤r.view;omega,fun _=>rfl,fun q=>by have q:(1:Int)=2:=q;omega⟩
  ·rw[o];have:=M.so
   rw[D] at this;exact this
 have G:Inc (sn r) (sn ((r.over m.log).begin_ r.view)):=by
  refine⟨⟨fun q=>Int.le_refl _,.inr ⟨rfl,Int.le_refl _⟩⟩,fun _ _=>⟨.inl rfl,by show (sn r).nv≤r.view;omega,fun q=>by have q:(sn r).nv=r.view:=q;omega⟩,fun q _=>by have q:r.status=4∨r.status=5:=q;omega,fun _=>by show (1:Int)≠3;decide⟩
 have H:=c.grow (r':=(r.over m.log).begin_ r.view) rfl rfl G (by show 1≤(1:Int)∧(1:Int)≤5;decide) (fun q=>by omega) (fun _=>fm)
 have has:∀ {v:Int} {l:List En} {c:Nat},Dc h T g r.epoch v l c→v<r.view→Dc h T g r.epoch r.view m.log c:=fun d u=>by
  have:=H.has2 k (Nat.le_succ T) d (j:=T) (Nat.lt_succ_self T) (by rw[o];exact .inl rfl) (.inr (by rw[o];exact⟨rfl,u⟩))
  rw[o] at this;exact this
 have k1:=Rp.eu c.ok (l:=m.log) (by have:=c.ok.vo m Q;exact Rp.jN this.2 (.inl this.1))
 have k2:=Rp.jO k1.ok (v:=r.view) c.ok.vi;have c1:Hok g cu h0 T0 (upd h T (sn ((r.over m.log).begin_ r.view))) (T+1) ((r.over m.log).begin_ r.view):=by
  refine c.ext rfl rfl rfl G c.lk k2.ok ⟨(has c.nr.dc W).le (Nat.min_le_left _ _),fun x H=>?_,fun v u=>?_,fun a ha=>?_,fun q=>?_,fun q=>?_⟩ (fun q=>by omega) (fun _=>fm) rfl
  ·have H:0<jW.getD x 0:=H;rw[jy] at H;omega
  ·simp[Rp.begin_] at u
  ·have:=(c.nr.an a ha).1;omega
  ·have q:(1:Int)=5:=q;omega
  ·have q:(1:Int)=3:=q;omega
 have c2:=c1.bF (.inl rfl);refine c2.decide (.inl rfl) (k:=(cK (r.aI.map (·.commit))).toNat) ?_ (fun j s _=>by omega)
 rcases LK (r.aI.map (·.commit)) with z|z
 ·rw[z];exact .inl rfl
 ·obtain⟨w,w1,w2⟩:=List.mem_map.1 z
  rw[← w2];obtain⟨j,_,y⟩:=R w w1
  have hw:w.normal<r.view:=by
   have:=(c.hx.nvw j y.1 (.inr y.2.2.1)).2.2.2.2 y.2.2.1
   rw[y.2.2.2.2.2.1,y.2.2.2.2.1] at this;exact this
  exact (has y.2.2.2.2.2.2.2.2.2.1 hw).up k (Nat.le_succ T)
theorem Hok.count (c:Hok g cu h0 T0 h T r) (hs:r.status=2) (hp:r.dG=true) (hg:r.grp=g r.epoch) (ho:r.grp.length % 2=1) {m:Pm} {i:Nat} {qt:Int} (mb:Mb h T g qt m i) (hk:m.kind=118) (hm:dF r.n m) (he:m.epoch=r.epoch) (hv:m.view=r.view) (hf:gW r.grp m.frm=true) (ln:Lnd m i h r):Hk g cu h0 T0 (r.count m):=by
 obtain⟨e,f,j,k,l⟩:=mb.v hk
 have b:=mb.d (.inl hk);rw[if_pos hk] at b;have c1:Hok g cu h0 T0 h T { r with aI:=aK r.aI m }:=by
  refine c.same rfl rfl (Rp.lV c.ok hk hm) ⟨c.nr.lst,c.nr.dc,c.nr.ak,fun v a=>?_,c.nr.an,c.nr.ba⟩ fun o q=>.inl q
  rcases iH a with q|q
  ·subst q;exact⟨hs,i,mb.lt,mb.id,e,by rw[f,he],by rw[j,hv],k,l,mb.lv,hf,by rw[← he];exact b,by rw[← ln.eq];exact Int.le_refl _,ln.all⟩
  ·exact c.nr.vo v q
 unfold Rp.count;dsimp only
 split
 ·exact⟨_,_,c1⟩
 ·rename_i q;exact c1.counted hs hp hg ho (by show eP r.grp<((aK r.aI m).length:Int);omega)
end
theorem QA {l:List En} {e:En} (hs:So l) (h:∀ a∈l,a.1=e.1→a.2.1<e.2.1):So (l++[e]):=by
 unfold So;rw[List.pairwise_append];exact⟨hs,List.pairwise_singleton _ _,fun a d b c=>by simp at c;rw[c];exact h a d⟩
theorem EI {l:List En} (hs:So l) (c:Int):∀ k,k≤l.length→∀ j (hj:j<l.length),j<k→l[j].1=c→l[j].2.1≤Rp.nW l c k
 | 0,_,j,_,hk,_=>by omega
 | k+1,hl,j,hj,hk,he=>by
  have hkl:k<l.length:=by omega
  have a:l.getD k (0,0,⟨#[]⟩)=l[k]:=by rw[List.getD_eq_getElem?_getD,List.getElem?_eq_getElem hkl];rfl
  unfold Rp.nW;rw[a]
  split
  ·rename_i q;rcases Nat.eq_or_lt_of_le (show j≤k by omega) with z|z
   ·subst z;exact Int.le_refl _
   ·have:=List.pairwise_iff_getElem.1 hs j k hj hkl z (by rw[he,q])
    omega
  ·rename_i q;rcases Nat.eq_or_lt_of_le (show j≤k by omega) with z|z
   ·subst z;exact absurd he q
   ·exact EI hs c k (by omega) j hj z he
theorem OT {l:List En} {e:En} (hs:So l) (h:Rp.nW l e.1 l.length<e.2.1):So (l++[e]):=QA hs fun a c d=>by
 obtain⟨j,b,rfl⟩:=List.mem_iff_getElem.1 c
 have:=EI hs e.1 l.length (Nat.le_refl _) j b b d
 omega
structure Gp (g:Int→List Int) (r:Rp):Prop where
 gp:r.grp=g r.epoch
 odd:r.grp.length % 2=1
 nd:r.grp.Nodup
 me:gW r.grp r.id=true
theorem FK {l l':List En} (h:Cmp l l') {k:Nat} (h1:k≤l.length) (h2:k≤l'.length):l.take k <+: l':=by
 rcases h with q|q
 ·exact (List.take_prefix _ _).trans q
 ·rw[rR q h2];exact List.take_prefix _ _
section
variable {h h':Nat→Sn} {T T':Nat} {g:Int→List Int} {r r':Rp} {cu:Int→Int} {h0:Nat→Sn} {T0:Nat} {m:Pm} {i:Nat}
theorem PY {e v:Int} {l l':List En} {k:Nat} (d:Dc h T g e v l' k) (hc:Cmp l l'):Dc h T g e v l (min k l.length):=by
 rcases hc with q|q
 ·exact (d.le (Nat.min_le_left _ _)).back q (Nat.min_le_right _ _)
 ·exact (d.log q).le (Nat.min_le_left _ _)
theorem Hok.cmpM (c:Hok g cu h0 T0 h T r) (hs:r.status=1) (hi:i<T) (h1:(h i).st=1) (he:(h i).ep=r.epoch) (hv:(h i).vw=r.view):Cmp r.log (h i).log:=by
 obtain⟨j,b,a,d,f⟩:=c.fm (.inl hs)
 have n:=(c.hx.nvw i hi (.inl h1)).2.2.2.1 h1;have:=c.hx.cmp b hi d (.inl h1) (by rw[a,he];rfl) (by rw[a,n,hv];exact M7 hs)
 rw[a] at this;exact this
theorem Hok.zw (c:Hok g cu h0 T0 h T r) (hs:r.status=1) {l':List En} {p:Int} (hd:Dc h T g r.epoch r.view l' p.toNat) (hc:Cmp r.log l'):Hk g cu h0 T0 (r.aV p):=by
 refine c.decide (.inl hs) (k:=min p.toNat r.log.length) ?_ (fun j _ _=>by omega)
 rw[M7 hs];exact PY hd hc
theorem Hok.app (c:Hok g cu h0 T0 h T r) (hs:r.status=1) {e:En} (he:iZ r.n e) (hl:r.log.length<10) (hc:¬r.closing=true) (hso:So (r.log++[e])) (hm:(∃ i,i<T∧(h i).st=1∧(h i).ep=r.epoch∧(h i).vw=r.view∧(h i).id=fJ (g r.epoch) r.view∧r.log++[e] <+: (h i).log)∨r.id=fJ (g r.epoch) r.view):Hok g cu h0 T0 (upd h T (sn { r with log:=r.log++[e] })) (T+1) { r with log:=r.log++[e] }:=by
 obtain⟨j,l,b,w,f⟩:=c.fm (.inl hs)
 have m:(regs r.log:Int)≤r.epoch:=by unfold Rp.closing at hc;simp at hc;omega
 have a:(sn { r with log:=r.log++[e] }).nv=r.view:=if_pos hs
 refine c.ext rfl rfl rfl ⟨⟨fun q=>Int.le_refl _,.inr ⟨rfl,Int.le_refl _⟩⟩,fun q _=>⟨q,Int.le_refl _,fun _=>⟨[e],rfl⟩⟩,fun q _=>q,fun q=>q⟩ c.lk (Rp.qd c.ok he hl) ⟨c.nr.dc.log ⟨[e],rfl⟩,c.nr.ak,c.nr.vo,c.nr.an,fun q=>?_,fun q=>?_⟩ (fun q=>by omega) (fun _=>?_) rfl
 ·have q:r.status=5:=q;omega
 ·have q:r.status=3:=q;omega
 ·refine f.more l (by rw[b];rfl) (by rw[b];rfl) (by rw[b];exact⟨[e],rfl⟩) ⟨by rw[a];exact Int.le_refl _,fun _=>a,fun q=>by have q:r.status=2:=q;omega⟩ ?_ (fun k d=>?_) hso
  ·rcases hm with ⟨i,o,p,s,t,u,v⟩|q
   ·exact .inl ⟨i,o,p,s,by rw[a];exact t,by rw[a];exact u,v⟩
   ·exact .inr (.inl ⟨hs,by rw[a];exact q⟩)
  ·show (regs ((r.log++[e]).take k):Int)≤r.epoch
   have d:k<(r.log++[e]).length:=d
   simp at d;rw[List.take_append_of_le_length (by omega)]
   have:=fV r.log k
   omega
theorem Hok.dI (c:Hok g cu h0 T0 h T r) (hs:r.status=1) (mb:Mb h T g r.id m i) (hk:m.kind=112) (hm:dF r.n m) (he:m.epoch=r.epoch) (hv:m.view=r.view):Hk g cu h0 T0 (r.dI m):=by
 obtain⟨e,f,k⟩:=mb.n1 (by omega)
 obtain⟨l,d⟩:=mb.pc (.inl hk)
 obtain⟨y,b⟩:=mb.p hk
 rw[he] at f l d;rw[hv] at k l d;have o:=c.cmpM hs mb.lt e f k;unfold Rp.dI
 split
 ·split
  ·exact⟨_,_,c.bare (by omega)⟩
  ·split
   ·rename_i hp
    split
    ·exact⟨_,_,c⟩
    ·rename_i hcl;rw[hp,show ((r.log.length:Int)+1-1).toNat=r.log.length by omega] at b
     have s:r.log.length<(h i).log.length:=by
      apply Classical.byContradiction
      intro q;rw[List.getElem?_eq_none (by omega)] at b
      cases b
     have a:r.log++[m.ent] <+: (h i).log:=by
      have pre:r.log <+: (h i).log:=o.elim id (fun q=>by have:=q.length_le;omega)
      obtain⟨t,u⟩:=pre
      rw[← u] at b ⊢;cases t with
      | nil=>rw[List.append_nil,List.getElem?_eq_none (Nat.le_refl _)] at b;cases b
      | cons x t =>
       rw[List.getElem?_append_right (Nat.le_refl _),Nat.sub_self] at b;have b:some x=some m.ent:=b
       cases b;exact⟨t,by simp⟩
     have v:=hm.pl (.inl hk);have c1:=c.app hs (hm.en hk) (by omega) hcl (List.Pairwise.sublist a.sublist (c.hx.so i mb.lt (.inl e))) (.inl ⟨i,mb.lt,e,f,k,l,a⟩)
     exact (c1.ack hs).zw hs (l':=(h i).log) (d.up (fun j w=>dx w) (Nat.le_succ T)) (.inl a)
   ·exact (c.ack hs).zw hs d o
 ·exact⟨_,_,c⟩
theorem Hok.dL (c:Hok g cu h0 T0 h T r) (hs:r.status=1) (mb:Mb h T g r.id m i) (hk:m.kind=99) (he:m.epoch=r.epoch) (hv:m.view=r.view):Hk g cu h0 T0 (r.dL m):=by
 obtain⟨e,b,d⟩:=mb.n1 (by omega)
 obtain⟨f,a⟩:=mb.pc (.inr hk)
 rw[he] at b a;rw[hv] at d a;unfold Rp.dL
 split
 ·split
  ·exact⟨_,_,c.bare (by omega)⟩
  ·exact c.zw hs a (c.cmpM hs mb.lt e b d)
 ·exact⟨_,_,c⟩
theorem Hok.ct (c:Hok g cu h0 T0 h T r) (hs:r.status=1) (hp:r.id=fJ (g r.epoch) r.view) (G:Gp g r) {k:Nat} (hk:0<k) (hl:k≤r.log.length) (ha:eP r.grp≤(r.kE k:Int)):∃ A p,Ct h g T r.epoch r.view (r.log.take k) A p:=by
 obtain⟨j,F,w,V,f⟩:=c.fm (.inl hs)
 have y:∀ x∈r.grp.filter (fun x=>(x != r.id)&&Decidable.decide ((k:Int)≤r.acks.getD x.toNat 0)),x∈r.grp∧x≠r.id∧(k:Int)≤r.acks.getD x.toNat 0:=fun x m=>by
  obtain⟨a,b⟩:=List.mem_filter.1 m
  simp only[Bool.and_eq_true,bne_iff_ne,decide_eq_true_eq] at b;exact⟨a,b⟩
 obtain⟨B,b1,H,W⟩:=I5 (P:=fun (x:Int) a=>x∈r.grp∧a<T∧(h a).id=x∧(h a).st=1∧(h a).ep=r.epoch∧(h a).vw=r.view∧k≤(h a).log.length∧life (h a)=lf (sn r) x∧∀ q,lf (h a) q≤lf (sn r) q) (f:=fun i=>(h i).id) (k:=fun x=>x) (fun x i q=>q.2.2.1) (r.grp.filter (fun x=>(x != r.id)&&Decidable.decide ((k:Int)≤r.acks.getD x.toNat 0))) (fun x m=>by
  obtain⟨l,C,n⟩:=y x m
  obtain⟨_,a,o,s,t,u,v,D,E,K⟩:=c.nr.ak x.toNat (by omega)
  have X:=(c.ok.g.2 x l).1;have e:((x.toNat:Nat):Int)=x:=by omega
  rw[e] at s E;exact⟨a,l,o,s,t,u,v,by omega,E,K⟩)
 rw[List.map_id'] at b1;have d:(h j).id=r.id:=by rw[w];rfl
 have all:∀ a∈j :: B,a<T∧(h a).id∈r.grp∧(h a).st=1∧(h a).ep=r.epoch∧(h a).vw=r.view∧k≤(h a).log.length∧life (h a)=lf (sn r) (h a).id∧∀ q,lf (h a) q≤lf (sn r) q:=fun a ha=>by
  rcases List.mem_cons.1 ha with z|z
  ·subst z;refine⟨F,by rw[d];exact zY G.me,?_⟩
   rw[w];exact⟨hs,rfl,rfl,hl,rfl,fun q=>Int.le_refl _⟩
  ·obtain⟨x,_,l,C,n,L,M,N,Q,R,S⟩:=H a z
   exact⟨C,by rw[n];exact l,L,M,N,Q,by rw[n];exact R,S⟩
 refine⟨j :: B,j,⟨fun a ha=>(all a ha).1,fun a ha=>(all a ha).2.2.2.1,fun a ha=>.inl (all a ha).2.2.1,fun a ha=>by rw[← G.gp];exact (all a ha).2.1,?_,?_,by rw[← G.gp];exact G.odd,fun a ha b U=>?_⟩,fun a ha=>(all a ha).2.2.1,fun a ha=>(all a ha).2.2.2.2.1,fun a ha=>?_,by simp,by rw[d];exact hp⟩
 ·rw[List.map_cons,b1,d];refine List.nodup_cons.2 ⟨fun q=>(y _ q).2.1 rfl,G.nd.filter _⟩
 ·have:=congrArg List.length b1
  rw[List.length_map,← List.countP_eq_length_filter] at this;unfold Rp.kE at ha;rw[← G.gp,List.length_cons,this];omega
 ·have h1:=(all a ha).2.2.2.2.2.2.2 (h b).id;have h2:=(all b U).2.2.2.2.2.2.1;omega
 ·obtain⟨o,s,t,u,v,D,_⟩:=all a ha
  exact FK (c.cmpM hs o t u v) hl D
theorem BK (r:Rp):∀ n:Nat,r.kC n=0∨∃ k:Nat,r.kC n=k∧0<k∧k≤n∧eP r.grp≤(r.kE k:Int)
 | 0=>.inl rfl
 | n+1=>by
  unfold Rp.kC
  split
  ·rename_i q;exact .inr ⟨n+1,by omega,by omega,Nat.le_refl _,by simpa using q⟩
  ·rcases BK r n with z|⟨k,a,b,c,d⟩
   ·exact .inl z
   ·exact .inr ⟨k,a,b,by omega,d⟩
theorem Hok.fZ (c:Hok g cu h0 T0 h T r) (G:Gp g r) (mb:Mb h T g r.id m i) (hk:m.kind=107) (hm:dF r.n m) (he:m.epoch=r.epoch) (hv:m.view=r.view) (ln:Lnd m i h r):Hk g cu h0 T0 (r.fZ m):=by
 obtain⟨u,v,w⟩:=mb.n1 (by omega)
 have y:=mb.k hk;unfold Rp.fZ
 split
 ·rename_i hq;have f:=hq.1;unfold Rp.leads Rp.dG Rp.gZ at f;simp only[Bool.and_eq_true,beq_iff_eq] at f;obtain⟨e,B⟩:=f
  have C:∃ b,r.fq m.frm.toNat m.place={ r with acks:=b }∧∀ x:Nat,0<b.getD x 0→0<r.acks.getD x 0∧b.getD x 0=r.acks.getD x 0∨((x:Int)=m.frm∧b.getD x 0=m.place):=by
   unfold Rp.fq
   split
   ·refine⟨_,rfl,fun x d=>?_⟩
    rw[pX] at d ⊢
    split at d
    ·rename_i z;rw[if_pos z];have:=hm.f0
     exact .inr ⟨by omega,rfl⟩
    ·rename_i z;rw[if_neg z];exact .inl ⟨d,rfl⟩
   ·exact⟨r.acks,rfl,fun x d=>.inl ⟨d,rfl⟩⟩
  obtain⟨b,D,E⟩:=C
  have s:=(Rp.oZ c.ok m.frm.toNat m.place).ok;rw[D] at s ⊢;have c1:Hok g cu h0 T0 h T { r with acks:=b }:=by
   refine c.same rfl rfl s ⟨c.nr.lst,c.nr.dc,fun x d=>?_,c.nr.vo,c.nr.an,c.nr.ba⟩ fun o q=>.inl q
   rcases E x d with ⟨z,l⟩|⟨z,l⟩
   ·obtain⟨b1,a,F,H,K,L,M,N,P⟩:=c.nr.ak x z
    exact⟨b1,a,F,H,K,L,M,by show b.getD x 0≤_;rw[l];exact N,P⟩
   ·refine⟨e,i,mb.lt,by rw[mb.id,z],u,by rw[v,he],by rw[w,hv],by show b.getD x 0≤_;rw[l];exact y,?_,ln.all⟩
    rw[← ln.eq,z];rfl
  have Q:Gp g { r with acks:=b }:=⟨G.gp,G.odd,G.nd,G.me⟩
  refine c1.decide (.inl e) (k:=({ r with acks:=b }:Rp).oO.toNat) ?_ (fun j _ _=>by omega)
  rcases BK { r with acks:=b } r.log.length with z|⟨k,k1,R,t,S⟩
  ·have:({ r with acks:=b }:Rp).oO=0:=z
   rw[this];exact .inl rfl
  ·have:({ r with acks:=b }:Rp).oO=k:=k1
   rw[this,Int.toNat_natCast];obtain⟨A,p,ct⟩:=c1.ct e (by show r.id=fJ (g r.epoch) r.view;rw[← G.gp];exact B.symm) Q R t S
   exact .inr ⟨_,_,_,A,p,ct,.inr ⟨rfl,by rw[M7 (r:={ r with acks:=b }) e];exact Int.le_refl _⟩,List.prefix_refl _,t⟩
 ·exact⟨_,_,c⟩
theorem Hok.propose (c:Hok g cu h0 T0 h T r) (hl:r.leads=true) (hg:r.grp=g r.epoch) {e:En} (he:iZ r.n e) (hn:Rp.nW r.log e.1 r.log.length<e.2.1):Hk g cu h0 T0 (r.propose e):=by
 unfold Rp.propose
 split
 ·exact⟨_,_,c⟩
 ·rename_i q;have a:=hl;unfold Rp.leads Rp.dG Rp.gZ at hl;simp only[Bool.and_eq_true,beq_iff_eq] at hl;obtain⟨j,i,d,k,f⟩:=c.fm (.inl hl.1)
  have b:=f.so;rw[d] at b;have c1:=c.app hl.1 he (by omega) (fun z=>q (.inl z)) (OT b hn) (.inr (by rw[← hg];exact hl.2.symm))
  exact⟨_,_,c1.aQ a hg _⟩
theorem Hok.eU (c:Hok g cu h0 T0 h T r) {e:En} (h1:1≤e.1):Hok g cu h0 T0 h T (r.eU e):=by
 unfold Rp.eU
 split
 ·exact c.reply h1
 ·exact c
theorem Hok.bQ (c:Hok g cu h0 T0 h T r) (hg:r.status=1→r.grp=g r.epoch) (hm:Rp.FU m) (hk:m.kind=113∨m.kind=109):Hk g cu h0 T0 (r.bQ m):=by
 unfold Rp.bQ
 split
 ·rename_i hl;have hg:=hg (by unfold Rp.leads at hl;simp only[Bool.and_eq_true,beq_iff_eq] at hl;exact hl.1)
  split
  ·exact⟨_,_,c⟩
  ·rename_i n1
   split
   ·exact⟨_,_,c.eU hm.c.1⟩
   ·rename_i n2
    split
    ·exact⟨_,_,c⟩
    ·split
     ·exact⟨_,_,c.reply hm.c.1⟩
     ·rename_i q;refine c.propose hl hg (Rp.yY hm hk (fun c=>q ⟨c.1,.inr c.2⟩)) ?_
      unfold Rp.iQ at n1 n2;omega
 ·exact⟨_,_,c⟩
theorem Hok.bS (c:Hok g cu h0 T0 h T r) (hs:r.status=1) (G:Gp g r) (mb:Mb h T g r.id m i) (hm:dF r.n m) (he:m.epoch=r.epoch) (hv:m.view=r.view) (ln:Lnd m i h r):Hk g cu h0 T0 (r.bS m):=by
 unfold Rp.bS
 split
 ·exact⟨_,_,c.tell (.inl hs)⟩
 ·split
  ·split
   ·rename_i hk;exact c.dI hs mb hk hm he hv
   ·split
    ·rename_i hk;exact c.dL hs mb hk he hv
    ·split
     ·rename_i hk;exact c.fZ G mb hk hm he hv ln
     ·split
      ·exact⟨_,_,c.tell (.inl hs)⟩
      ·exact⟨_,_,c⟩
  ·exact⟨_,_,c⟩
end
section
variable {h h':Nat→Sn} {T T':Nat} {g:Int→List Int} {r r':Rp} {cu:Int→Int} {h0:Nat→Sn} {T0:Nat} {m:Pm} {i:Nat}
theorem NC {e:Int} {l:List En} (b:Bs e l) (h1:1≤e):dP l e=l:=by
 obtain⟨k,a⟩:∃ k:Nat,e=k:=⟨e.toNat,by omega⟩
 subst a;have f:=b.1;obtain⟨c,d⟩:=Bs.upto (l:=l) (e:=k) (by omega) (by omega)
 exact c.eq b d
theorem Ba.cert {e:Int} {l:List En} (b:Ba h T g e l) (h1:1≤e):∃ v A p,Ct h g T (e-1) v l A p:=by
 obtain⟨v,L,A,p,ct,a,c⟩:=b.ct (e-1) (by omega) (by omega)
 rw[show e-1+1=e by omega] at a
 rw[a.eq b.bs c] at ct;exact⟨v,A,p,ct⟩
theorem Ba.full {e:Int} {l:List En} (b:Ba h T g e l) (h1:1≤e) (v:Int):Dc h T g e v l l.length:=by
 obtain⟨v0,A,p,ct⟩:=b.cert h1
 exact .inr ⟨_,v0,l,A,p,ct,.inl (by omega),by rw[List.take_length];exact List.prefix_refl _,Nat.le_refl _⟩
theorem Ba.dc (H:HX h T g) {e e' v' v:Int} {l l':List En} {c:Nat} (b:Ba h T g e l) (h1:1≤e) (d:Dc h T g e' v' l' c) (hlt:e'<e):Dc h T g e v l (min c l.length):=by
 rcases d with d|⟨f,i,L,A,p,c1,j,c2,c3⟩
 ·exact .inl (by omega)
 ·obtain⟨v0,k,m,ct⟩:=b.cert h1
  have a:c≤L.length:=by
   have:=c2.length_le
   rw[List.length_take] at this;omega
  exact .inr ⟨f,i,L,A,p,c1,.inl (by omega),FK (H.one (Nat.le_refl _) (Nat.le_refl _) ct c1) (Nat.min_le_right _ _) (by omega),Nat.min_le_right _ _⟩
theorem Ba.pre (H:HX h T g) {e:Int} {l:List En} (b:Ba h T g e l) {j:Nat} (hj:j<T) (ij:gV (h j)) (he:(h j).ep=e):l <+: (h j).log:=by
 rcases Int.lt_or_eq_of_le b.e0 with z|z
 ·obtain⟨v0,f,i,ct⟩:=b.cert z
  obtain⟨v,L,A,p,c,a,d⟩:=H.bas j hj ij (e-1) (by omega) (by omega)
  rw[show e-1+1=e by omega] at a
  rcases H.one (Nat.le_refl _) (by omega) ct c with q|q
  ·exact q.trans d
  ·rw[← a.eq b.bs q];exact d
 ·rcases Nat.eq_or_lt_of_le (Nat.zero_le l.length) with w|w
  ·rw[List.length_eq_zero_iff.1 w.symm];exact List.nil_prefix
  ·have:=b.bs.2 0 w
   simp[regs] at this;omega
theorem Hok.bP (c:Hok g cu h0 T0 h T r) (hs:r.status=1∨r.status=2) (h0':0≤m.epoch):Hok g cu h0 T0 h T (r.bP m):=by
 unfold Rp.bP
 split
 ·rename_i q;exact c.tell (.inl (by simpa using q))
 ·split
  ·exact c.jL hs (by omega)
  ·split
   ·exact c.bare (.inl rfl)
   ·exact c
theorem Hok.aF (c:Hok g cu h0 T0 h T r) (hs:r.status=1∨r.status=2) (mb:Mb h T g r.id m i) (hk:m.kind=115) (hm:dF r.n m) (he:m.epoch=r.epoch):Hk g cu h0 T0 (r.aF m):=by
 have C:=mb.d (.inr (.inl hk));rw[if_neg (by omega),he] at C
 obtain⟨j,H,E,K,f⟩:=c.fm hs
 have n:=f.nvw;rw[E] at n;have u:=Rp.jN hm (.inr (.inl hk));have k:∀ S,∀ i,i<T→upd h T S i=h i:=fun _ i L=>dx L
 unfold Rp.aF
 split
 ·rename_i q;have F:(sn r).nv<m.view:=by
   rcases q with q|q
   ·have:(sn r).nv≤r.view:=n.2.2.1
    omega
   ·have:(sn r).nv<r.view:=n.2.2.2.2 q.2
    omega
  have M:=n.2.1;rcases mb.s hk with ⟨o,l,p,w⟩|⟨z,_⟩
  ·rw[he] at l;have y:=c.hx.fm mb.lt (.inl o);have A:=y.nvw.2.2.2.1 o;have c1:Hok g cu h0 T0 (upd h T (sn ((r.begin_ m.view).over m.log))) (T+1) ((r.begin_ m.view).over m.log):=by
    refine c.ext rfl rfl rfl ⟨⟨fun q=>Int.le_refl _,.inr ⟨rfl,by show r.view≤m.view;omega⟩⟩,fun _ _=>⟨.inl rfl,by show (sn r).nv≤m.view;omega,fun z=>by have z:(sn r).nv=m.view:=z;omega⟩,fun z _=>by have z:r.status=4∨r.status=5:=z;omega,fun _=>by show (1:Int)≠3;decide⟩ c.lk (Rp.eu (Rp.jO c.ok ⟨hm.v0,hm.v1⟩).ok u).ok ⟨?_,fun x G=>?_,fun v D=>?_,fun a N=>?_,fun q=>?_,fun q=>?_⟩ (fun q=>by omega) (fun _=>?_) rfl
    ·have:=c.hx.has c.nr.dc mb.lt (.inl o) (.inr ⟨l.symm,by rw[A,p];exact F⟩)
     rw[l,A,p,w] at this;exact this.le (Nat.min_le_left _ _)
    ·have G:0<jW.getD x 0:=G;rw[jy] at G;omega
    ·simp[Rp.begin_,Rp.over] at D
    ·have:=(c.nr.an a N).1;omega
    ·have q:(1:Int)=5:=q;omega
    ·have q:(1:Int)=3:=q;omega
    ·exact y.same mb.lt (by rw[l];rfl) (by rw[A,p];rfl) (by rw[w];rfl) ⟨Int.le_refl _,fun _=>rfl,fun q=>by have q:(1:Int)=2:=q;omega⟩
   exact c1.bY rfl (C.up (k _) (Nat.le_succ T))
  ·omega
 ·rename_i q1
  split
  ·split
   ·rename_i q;exact⟨_,_,c.tell (.inl (by simpa using q))⟩
   ·exact⟨_,_,c⟩
  ·rename_i q2;have D:m.view=r.view:=by omega
   have t:r.status=1:=by omega
   split
   ·rename_i q3;rw[D] at C;rcases mb.s hk with ⟨o,l,p,w⟩|⟨z,b⟩
    ·rw[he] at l;rw[D] at p;have pre:r.log <+: m.log:=by
      have:=c.cmpM t mb.lt o l p
      rw[w] at this;exact this.elim id (fun q=>by have:=q.length_le;omega)
     have y:=c.hx.fm mb.lt (.inl o);have A:=y.nvw.2.2.2.1 o;have e:(sn (r.over m.log)).nv=r.view:=if_pos t
     have B:min r.decided m.log.length=r.decided:=by
      have:=c.ok.dc
      have:=pre.length_le
      omega
     have c1:Hok g cu h0 T0 (upd h T (sn (r.over m.log))) (T+1) (r.over m.log):=by
      refine c.ext rfl rfl rfl ⟨⟨fun q=>Int.le_refl _,.inr ⟨rfl,Int.le_refl _⟩⟩,fun q _=>⟨q,Int.le_refl _,fun _=>pre⟩,fun q _=>q,fun q=>q⟩ c.lk (Rp.eu c.ok u).ok ⟨?_,c.nr.ak,c.nr.vo,c.nr.an,fun q=>?_,fun q=>?_⟩ (fun q=>by omega) (fun _=>?_) rfl
      ·show Dc h T g r.epoch (sn r).nv m.log (min r.decided m.log.length)
       rw[B];exact c.nr.dc.log pre
      ·have q:r.status=5:=q;omega
      ·have q:r.status=3:=q;omega
      ·exact y.same mb.lt (by rw[l];rfl) (by rw[A,p];exact e) (by rw[w];rfl) ⟨by rw[e];exact Int.le_refl _,fun _=>e,fun q=>by have q:r.status=2:=q;omega⟩
     exact c1.bY t (by rw[e];exact C.up (k _) (Nat.le_succ T))
    ·exfalso
     rw[he] at b;have:=(b.pre c.hx H K (by rw[E];rfl)).length_le
     rw[E] at this;have:m.log.length≤r.log.length:=this
     omega
   ·split
    ·exact⟨_,_,c⟩
    ·exact⟨_,_,c.bare (by omega)⟩
theorem uQ:∀ (f:Nat) (r:Rp) (p:Int),(regs r.log:Int)≤r.epoch→(Rp.dZ f r p).status=r.status
 | 0,_,_,_=>rfl
 | f+1,r,p,hr=>by
  unfold Rp.dZ
  split
  ·dsimp only;have lg:=Rp.lQ (r:=r) (r.log.getD r.decided (0,0,⟨#[]⟩));have dd:=Rp.iF (r:=r) (r.log.getD r.decided (0,0,⟨#[]⟩));have ep:=Rp.iL (r:=r) (r.log.getD r.decided (0,0,⟨#[]⟩));have st:=(BN (r:=r) (r.log.getD r.decided (0,0,⟨#[]⟩))).1
   split
   ·rename_i ht;unfold Rp.turns at ht;simp only[Bool.and_eq_true,decide_eq_true_eq] at ht;have:=ht.2
    rw[lg,dd,ep] at this;have:=fV r.log (r.decided+1)
    omega
   ·rw[uQ f _ p (by rw[lg,ep];exact hr),st]
  ·rfl
theorem Hok.bI (c:Hok g cu h0 T0 h T r) (hs:r.status≠3) (mb:Mb h T g r.id m i) (hk:m.kind=115) (hm:dF r.n m) (he:r.epoch<m.epoch):Hk g cu h0 T0 (r.bI m):=by
 have G:=mb.d (.inr (.inl hk));rw[if_neg (by omega)] at G
 have w:=Rp.jN hm (.inr (.inl hk));have K:=c.ok.ep.1;have k:∀ S,∀ i,i<T→upd h T S i=h i:=fun _ i L=>dx L
 have E:∀ a∈r.answers,False:=fun a t=>hs (c.nr.an a t).1
 have inc:∀ {x:Rp},x.lives=r.lives→x.epoch=m.epoch→x.status≠3→Inc (sn r) (sn x):=fun {x} h1 M h3 =>
  ⟨⟨fun q=>by show r.lives.getD _ 0≤x.lives.getD _ 0;rw[h1];exact Int.le_refl _,.inl (by show r.epoch<x.epoch;omega)⟩,fun _ q=>by have q:r.epoch=x.epoch:=q;omega,fun _ q=>by have q:r.epoch=x.epoch:=q;omega,fun _=>h3⟩
 unfold Rp.bI
 split
 ·have c1:Hok g cu h0 T0 (upd h T (sn ((r.enter m).over m.log))) (T+1) ((r.enter m).over m.log):=by
   refine c.ext rfl rfl rfl (inc rfl rfl (by show (1:Int)≠3;decide)) c.lk (Rp.eu (Rp.iW c.ok (.inl hk) hm) w).ok ⟨?_,fun x f=>?_,fun v y=>?_,fun a t=>(E a t).elim,fun q=>?_,fun q=>?_⟩ (fun q=>absurd q hs) (fun _=>?_) rfl
   ·rcases mb.s hk with ⟨l,u,B,A⟩|⟨z,b⟩
    ·have C:=c.hx.fm mb.lt (.inl l);have F:=C.nvw.2.2.2.1 l;have:=c.hx.has c.nr.dc mb.lt (.inl l) (.inl (by rw[u];exact he))
     rw[u,F,B,A] at this;exact this.le (Nat.min_le_left _ _)
    ·exact b.dc c.hx (by omega) c.nr.dc he
   ·have f:0<jW.getD x 0:=f;rw[jy] at f;omega
   ·simp[Rp.enter,Rp.begin_,Rp.over] at y
   ·have q:(1:Int)=5:=q;omega
   ·have q:(1:Int)=3:=q;omega
   ·rcases mb.s hk with ⟨l,u,B,A⟩|⟨z,b⟩
    ·have C:=c.hx.fm mb.lt (.inl l);have F:=C.nvw.2.2.2.1 l;exact C.same mb.lt (by rw[u];rfl) (by rw[F,B];rfl) (by rw[A];rfl) ⟨Int.le_refl _,fun _=>rfl,fun q=>by have q:(1:Int)=2:=q;omega⟩
    ·exact Ba.fm (S:=sn ((r.enter m).over m.log)) b z z rfl
  exact (c1.LP (k:=116) (by omega)).bY rfl (G.up (k _) (Nat.le_succ T))
 ·split
  ·have D:Ba h T g m.epoch (dP m.log m.epoch):=by
    rcases mb.s hk with ⟨l,u,B,A⟩|⟨z,b⟩
    ·have:=Ba.upto (c.hx.fm mb.lt (.inl l)) mb.lt (by rw[u];omega)
     rw[u,A] at this;exact this
    ·rw[NC b.bs (by omega)];exact b
   have e:=Rp.iW c.ok (.inl hk) hm;have N:Ok (r.enter m).leave0:=⟨e.n3,e.n7,e.i0,e.i1,e.ll,e.lb,by simp[Rp.leave0],e.ep,by simp[Rp.leave0],by simp[Rp.leave0],e.g,e.o,e.lg,e.le,e.dc,e.vo,e.vn,e.an,e.nn⟩
   have c1:Hok g cu h0 T0 (upd h T (sn ((r.enter m).leave0.over (dP m.log m.epoch)))) (T+1) ((r.enter m).leave0.over (dP m.log m.epoch)):=by
    refine c.ext rfl rfl rfl (inc rfl rfl (by show (5:Int)≠3;decide)) c.lk (Rp.eu N (w.upto _)).ok ⟨D.dc c.hx (by omega) c.nr.dc he,fun x f=>?_,fun v y=>?_,fun a t=>(E a t).elim,fun _=>⟨D,rfl,rfl⟩,fun q=>?_⟩ (fun q=>absurd q hs) (fun q=>?_) rfl
    ·have f:0<jW.getD x 0:=f;rw[jy] at f;omega
    ·simp[Rp.enter,Rp.begin_,Rp.over,Rp.leave0] at y
    ·have q:(5:Int)=3:=q;omega
    ·have q:(5:Int)=1∨(5:Int)=2:=q;omega
   have H:(regs (dP m.log m.epoch):Int)≤m.epoch:=by rw[D.bs.1];exact Int.le_refl _
   obtain⟨M,T2,c2⟩:=c1.decide (.inr ⟨rfl,H⟩) (p:=m.commit) (k:=(dP m.log m.epoch).length) ((D.full (by omega) _).up (k _) (Nat.le_succ T)) (fun j _ q=>q)
   exact⟨_,_,c2.bF (.inr (uQ _ _ _ H))⟩
  ·have c1:Hok g cu h0 T0 (upd h T (sn { r.enter m with status:=4 })) (T+1) { r.enter m with status:=4 }:=by
    refine c.ext rfl rfl rfl (inc rfl rfl (by show (4:Int)≠3;decide)) c.lk (Rp.fM (Rp.iW c.ok (.inl hk) hm) (by decide)).ok ⟨c.nr.dc.lift (.inl he),fun x f=>?_,fun v y=>?_,fun a t=>(E a t).elim,fun q=>?_,fun q=>?_⟩ (fun q=>absurd q hs) (fun q=>?_) rfl
    ·have f:0<jW.getD x 0:=f;rw[jy] at f;omega
    ·simp[Rp.enter,Rp.begin_] at y
    ·have q:(4:Int)=5:=q;omega
    ·have q:(4:Int)=3:=q;omega
    ·have q:(4:Int)=1∨(4:Int)=2:=q;omega
   exact⟨_,_,c1⟩
theorem tT (h:r.carries=true):r.status=1∨r.status=2:=by unfold Rp.carries at h;simpa using h
theorem Hok.dQ (c:Hok g cu h0 T0 h T r) (hs:r.status≠3) (mb:Mb h T g r.id m i) (hk:m.kind=115) (hm:dF r.n m):Hk g cu h0 T0 (r.dQ m):=by
 unfold Rp.dQ
 split
 ·rename_i q;exact c.bI hs mb hk hm q
 ·split
  ·rename_i q1 q2
   split
   ·exact⟨_,_,c.bP (tT q2) hm.e0⟩
   ·exact c.aF (tT q2) mb hk hm (by omega)
  ·exact⟨_,_,c⟩
theorem Hok.dV (c:Hok g cu h0 T0 h T r):Hk g cu h0 T0 (r.dV m):=by
 unfold Rp.dV
 split
 ·rename_i q;simp only[Bool.and_eq_true,beq_iff_eq] at q;have i:=q.1.1;have c1:Hok g cu h0 T0 h T { r with started:=r.started.set m.frm.toNat true }:=c.same rfl rfl c.ok ⟨c.nr.lst,c.nr.dc,c.nr.ak,c.nr.vo,c.nr.an,c.nr.ba⟩ fun o q=>.inl q
  dsimp only
  split
  ·have b:(sn { r with started:=r.started.set m.frm.toNat true,status:=4 }).nv=(sn r).nv:=by
    show (if (4:Int)=1 then r.view else r.normal)=if r.status=1 then r.view else r.normal
    rw[if_neg (by decide),if_neg (by omega)]
   have c2:Hok g cu h0 T0 (upd h T (sn { r with started:=r.started.set m.frm.toNat true,status:=4 })) (T+1) { r with started:=r.started.set m.frm.toNat true,status:=4 }:=by
    refine c1.ext rfl rfl rfl ⟨⟨fun q=>Int.le_refl _,.inr ⟨rfl,Int.le_refl _⟩⟩,fun q _=>by have q:r.status=1∨r.status=2:=q;omega,fun _ _=>.inl rfl,fun _=>by show (4:Int)≠3;decide⟩ c.lk (Rp.fM c.ok (by decide)).ok ⟨by rw[b];exact c.nr.dc,fun x d=>by have:=(c.nr.ak x d).1;omega,fun v e=>by have:=(c.nr.vo v e).1;omega,fun a f=>by have:=(c.nr.an a f).1;omega,fun q=>?_,fun q=>?_⟩ (fun q=>by have q:r.status=3:=q;omega) (fun q=>?_) rfl
    ·have q:(4:Int)=5:=q;omega
    ·have q:(4:Int)=3:=q;omega
    ·have q:(4:Int)=1∨(4:Int)=2:=q;omega
   exact⟨_,_,c2⟩
  ·exact⟨_,_,c1⟩
 ·exact⟨_,_,c⟩
theorem Hok.bZ (c:Hok g cu h0 T0 h T r):Hok g cu h0 T0 h T (r.bZ m):=by
 unfold Rp.bZ
 split
 ·exact c.bare (by omega)
 ·split
  ·rename_i q;simp only[Bool.and_eq_true,beq_iff_eq] at q;exact c.tell (.inr q.1.2)
  ·exact c
theorem Hok.aT (c:Hok g cu h0 T0 h T r) (hs:r.status=2) (G:Gp g r) (mb:Mb h T g r.id m i) (hm:dF r.n m) (he:m.epoch=r.epoch) (hv:m.view=r.view) (ln:Lnd m i h r):Hk g cu h0 T0 (r.aT m):=by
 unfold Rp.aT
 split
 ·rename_i hf
  split
  ·exact⟨_,_,c.bare (by omega)⟩
  ·split
   ·exact⟨_,_,c.dJ hs G.me⟩
   ·split
    ·rename_i q;exact c.count hs q.2 G.gp G.odd mb q.1 hm he hv hf ln
    ·exact⟨_,_,c⟩
 ·exact⟨_,_,c⟩
theorem QH (v:Int):∃ vo o,r.want v={ r.jH v with aI:=vo,out:=o }:=by
 unfold Rp.want Rp.kN
 split
 ·exact⟨_,_,rfl⟩
 ·exact⟨_,_,rfl⟩
theorem Hok.bR (c:Hok g cu h0 T0 h T r) (hs:r.status=1∨r.status=2) (G:Gp g r) (mb:Mb h T g r.id m i) (hm:dF r.n m) (he:m.epoch=r.epoch) (hv:r.view<m.view) (ln:Lnd m i h r):Hk g cu h0 T0 (r.bR m):=by
 unfold Rp.bR
 split
 ·rename_i hf;have c1:=c.want hs hv hm.v1 G.me
  split
  ·rename_i q;simp only[Bool.and_eq_true,beq_iff_eq] at q;have a:Mb _ _ g r.id m i:=mb.up (fun i d=>dx (S:=sn (r.jH m.view)) d) (Nat.le_succ T)
   obtain⟨f,o,e⟩:=QH (r:=r) m.view
   have b:=q.2;rw[e] at c1 b ⊢;exact c1.count rfl b G.gp G.odd a q.1 hm he rfl hf ⟨fun q=>by rw[dx mb.lt];exact ln.all q,by rw[dx mb.lt];exact ln.eq⟩
  ·exact⟨_,_,c1⟩
 ·exact⟨_,_,c⟩
theorem Hok.bH (c:Hok g cu h0 T0 h T r) (hs:r.status=1∨r.status=2) (G:Gp g r) (mb:Mb h T g r.id m i) (hm:dF r.n m) (ln:Lnd m i h r):Hk g cu h0 T0 (r.bH m):=by
 unfold Rp.bH
 split
 ·rename_i q
  split
  ·rename_i q2;exact c.aT q2 G mb hm q.1 q.2 ln
  ·rename_i q2;exact c.bS (by omega) G mb hm q.1 q.2 ln
 ·split
  ·rename_i q
   split
   ·exact c.bR hs G mb hm q.1 q.2 ln
   ·exact⟨_,_,c.bare (by omega)⟩
  ·split
   ·exact⟨_,_,c.bare (by omega)⟩
   ·exact⟨_,_,c.bP hs hm.e0⟩
end
section
variable {h h':Nat→Sn} {T T':Nat} {g:Int→List Int} {r r':Rp} {cu:Int→Int} {h0:Nat→Sn} {T0:Nat} {m:Pm} {i:Nat}
theorem G9 {l:List Pm} {a:Pm} (ha:fI l=some a) (hG:∀ x∈l,x.grp=g x.epoch) :
  a∈eH l a.epoch (g a.epoch)∧eP (g a.epoch)<(eH l a.epoch (g a.epoch)).length∧a.frm=fJ (g a.epoch) a.view∧∀ x∈eH l a.epoch (g a.epoch),x.view≤a.view:=by
 unfold fI IL at ha
 split at ha
 ·cases ha
 ·rename_i hq;have c:=List.mem_of_find?_eq_some ha;have b:=List.find?_some ha;simp only[Bool.and_eq_true,beq_iff_eq] at b;have d:=c;unfold eH at d;obtain⟨h,e⟩:=List.mem_filter.1 d
  simp only[Bool.and_eq_true,beq_iff_eq] at e;have i:cK (l.map (·.epoch))=a.epoch:=e.1.symm
  rw[i] at c b hq;have j:iV l a.epoch=g a.epoch:=by
   unfold iV;cases hf:l.reverse.find? (fun m=>m.epoch==a.epoch) with
   | none =>
    have:=List.find?_eq_none.1 hf a (List.mem_reverse.2 h)
    simp at this
   | some x =>
    have k:=List.mem_of_find?_eq_some hf;have f:=List.find?_some hf;simp only[beq_iff_eq] at f
    show x.grp=_
    rw[hG x (List.mem_reverse.1 k),f]
  rw[j] at c b hq;refine⟨c,by omega,by rw[b.2];exact b.1,fun x n=>?_⟩
  rw[b.2];exact LJ (List.mem_map.2 ⟨x,n,rfl⟩)
theorem Hok.resume (c:Hok g cu h0 T0 h T r) (hs:r.status=3) {a:Pm} (ha:fI r.answers=some a) (hr:(regs a.log:Int)≤a.epoch) (hG:∀ x∈r.answers,x.grp=g x.epoch∧(g x.epoch).length % 2=1):Hk g cu h0 T0 (r.resume a):=by
 obtain⟨E,X,l3,F⟩:=G9 ha (fun x n=>(hG x n).1)
 have t:∀ x∈eH r.answers a.epoch (g a.epoch),x∈r.answers∧x.epoch=a.epoch∧gW (g a.epoch) x.frm=true:=fun x n=>by
  unfold eH at n;obtain⟨al,G⟩:=List.mem_filter.1 n
  simp only[Bool.and_eq_true,beq_iff_eq] at G;exact⟨al,G⟩
 have u:=(t a E).1
 obtain⟨Q,b1,o,b3⟩:=I5 (P:=fun (a:Pm) i=>i<T∧(h i).id=a.frm∧a.frm≠r.id∧(h i).st=1∧(h i).ep=a.epoch∧(h i).vw=a.view∧(h i).log=a.log∧(h i).lv=a.lives∧Dc h T g a.epoch a.view a.log a.commit.toNat∧life (sn r)≤lf (h i) r.id∧lf (sn r) a.frm≤life (h i)∧∀ q,lf (h i) q≤lf (sn r) q) (f:=fun i=>(h i).id) (k:=fun v=>v.frm) (fun v i q=>q.2.1) (eH r.answers a.epoch (g a.epoch)) (fun v d=>(c.nr.an v (t v d).1).2)
 obtain⟨p,pQ,s,p2,p3,H,p5,K,B,p8,p9,aa,ab,ac⟩:=b3 a E
 have m:∀ j∈Q,j<T:=fun j b=>by obtain⟨v,_,y⟩:=o j b;exact y.1
 have qr:Qr h (g a.epoch) a.epoch T Q:=by
  refine⟨m,fun j b=>?_,fun j b=>?_,fun j b=>?_,?_,?_,(hG a u).2,fun j b l hl=>?_⟩
  ·obtain⟨v,d,y⟩:=o j b;rw[y.2.2.2.2.1];exact (t v d).2.1
  ·obtain⟨v,_,y⟩:=o j b;exact .inl y.2.2.2.1
  ·obtain⟨v,d,y⟩:=o j b;rw[y.2.1];exact zY (t v d).2.2
  ·rw[b1];unfold eH;exact c.ok.nn.sublist (List.Sublist.map _ List.filter_sublist)
  ·have:=congrArg List.length b1
   rw[List.length_map,List.length_map] at this;rw[this];exact X
  ·obtain⟨v,_,y⟩:=o j b
   obtain⟨w,_,z⟩:=o l hl
   have L:=y.2.2.2.2.2.2.2.2.2.2.2 (h l).id;have M:=z.2.2.2.2.2.2.2.2.2.2.1;rw[← z.2.1] at M;omega
 have N:∀ S:Sn,S.id=r.id→S.lv=r.lives→S.ep=a.epoch→S.vw=a.view→(gV S→S.nv=a.view∧S.log=a.log)→Rc (upd h T S) g T a.epoch a.view Q p:=fun S R e2 e3 e4 e5=>by
  have k:∀ i,i<T→upd h T S i=h i:=fun i C=>dx C
  have A:∀ q,lf S q=lf (sn r) q:=fun q=>by show S.lv.getD _ 0=r.lives.getD _ 0;rw[e2]
  refine⟨qr.ag k,fun j b=>?_,fun j b=>?_,fun j b=>?_,fun j b=>?_,fun j b=>?_,pQ,by rw[k p s];exact K,by rw[k p s,p2];exact l3,by rw[k p s,B];exact hr,?_⟩
  ·rw[k j (m j b)];obtain⟨v,_,y⟩:=o j b;exact y.2.2.2.1
  ·rw[k j (m j b),dK];obtain⟨v,_,y⟩:=o j b
   unfold life;rw[A,R];exact y.2.2.2.2.2.2.2.2.2.1
  ·rw[k j (m j b),dK];obtain⟨v,_,y⟩:=o j b
   rw[y.2.1,R];exact y.2.2.1
  ·rw[k j (m j b),dK];obtain⟨v,d,y⟩:=o j b
   refine⟨fun q=>by rw[A];exact y.2.2.2.2.2.2.2.2.2.2.2 q,.inr ⟨by rw[y.2.2.2.2.1,e3];exact (t v d).2.1,by rw[y.2.2.2.2.2.1,e4];exact F v d⟩⟩
  ·rw[k j (m j b)];obtain⟨v,d,y⟩:=o j b
   rw[y.2.2.2.2.2.1];exact F v d
  ·rw[dK,k p s];intro _ q;obtain⟨q1,q2⟩:=e5 q
   exact⟨by omega,fun _=>by rw[q2,B];exact List.prefix_refl _⟩
 obtain⟨z1,z2,z3⟩:=c.nr.ba.2 hs
 have q:=c.ok.an a u;have D:=Rp.jN q.2 (.inr (.inr q.1));have e:=Rp.iW c.ok (.inr q.1) q.2;have U:Ok { r.enter a with answers:=[] }:=Rp.lG e (by simp) (by simp)
 have d0:r.decided=0:=by have:=c.ok.dc;rw[z3] at this;simpa using this
 have inc:∀ {x:Rp},x.lives=r.lives→x.epoch=a.epoch→x.view=a.view→Inc (sn r) (sn x):=fun {x} L M h3 =>
  ⟨⟨fun q=>by show r.lives.getD _ 0≤x.lives.getD _ 0;rw[L];exact Int.le_refl _,by show r.epoch<x.epoch∨(r.epoch=x.epoch∧r.view≤x.view);have:=q.2.e0;have:=q.2.v0;omega⟩,fun q=>by have q:r.status=1∨r.status=2:=q;omega,fun q=>by have q:r.status=4∨r.status=5:=q;omega,fun q=>absurd hs q⟩
 unfold Rp.resume;dsimp only
 split
 ·have V:=c.hx.fm s (.inl H);have np:=V.nvw.2.2.2.1 H;have c1:Hok g cu h0 T0 (upd h T (sn (({ r.enter a with answers:=[] }:Rp).over a.log))) (T+1) (({ r.enter a with answers:=[] }:Rp).over a.log):=by
   refine c.ext rfl rfl rfl (inc rfl rfl rfl) c.lk (Rp.eu U D).ok ⟨.inl (by show min r.decided a.log.length=0;omega),fun x n=>?_,fun v d=>?_,fun a ha=>?_,fun q=>?_,fun q=>?_⟩ (fun _ _ _=>⟨_,_,Q,p,N _ rfl rfl rfl rfl (fun _=>⟨rfl,rfl⟩)⟩) (fun _=>?_) rfl
   ·have n:0<jW.getD x 0:=n;rw[jy] at n;omega
   ·simp[Rp.enter,Rp.begin_,Rp.over] at d
   ·simp[Rp.over] at ha
   ·have q:(1:Int)=5:=q;omega
   ·have q:(1:Int)=3:=q;omega
   ·exact V.same s (by rw[p5];rfl) (by rw[np,K];rfl) (by rw[B];rfl) ⟨Int.le_refl _,fun _=>rfl,fun q=>by have q:(1:Int)=2:=q;omega⟩
  have W:=p9.up (h':=upd h T (sn (({ r.enter a with answers:=[] }:Rp).over a.log))) (fun i C=>dx C) (Nat.le_succ T)
  split
  ·exact c1.decide (.inl rfl) (k:=a.commit.toNat) W (fun j _ _=>by omega)
  ·exact (c1.ack rfl).decide (.inl rfl) (k:=a.commit.toNat) W (fun j _ _=>by omega)
 ·have c1:Hok g cu h0 T0 (upd h T (sn { r.enter a with answers:=[],status:=4 })) (T+1) { r.enter a with answers:=[],status:=4 }:=by
   refine c.ext rfl rfl rfl (inc rfl rfl rfl) c.lk (Rp.fM U (by decide)).ok ⟨.inl d0,fun x n=>?_,fun v d=>?_,fun a ha=>?_,fun q=>?_,fun q=>?_⟩ (fun _ _ _=>⟨_,_,Q,p,N _ rfl rfl rfl rfl (fun q=>?_)⟩) (fun q=>?_) rfl
   ·have n:0<jW.getD x 0:=n;rw[jy] at n;omega
   ·simp[Rp.enter,Rp.begin_] at d
   ·simp at ha
   ·have q:(4:Int)=5:=q;omega
   ·have q:(4:Int)=3:=q;omega
   ·have q:(4:Int)=1∨(4:Int)=2:=q;omega
   ·have q:(4:Int)=1∨(4:Int)=2:=q;omega
  exact⟨_,_,c1⟩
theorem Hok.dH (c:Hok g cu h0 T0 h T r) (hs:r.status=3) (mb:Mb h T g r.id m i) (hk:m.kind=97) (hm:dF r.n m) (ln:Lnd m i h r) (hf:m.frm≠r.id) (hG:∀ x,x∈r.answers∨x=m→x.grp=g x.epoch∧(g x.epoch).length % 2=1):Hk g cu h0 T0 (r.dH m):=by
 unfold Rp.dH
 split
 ·rename_i hl;obtain⟨e,f,j⟩:=mb.n1 (by omega)
  obtain⟨k,l⟩:=mb.a hk
  have b:=mb.d (.inr (.inr hk));rw[if_neg (by omega)] at b
  have c1:Hok g cu h0 T0 h T { r with answers:=aK r.answers m }:=by
   refine c.same rfl rfl (Rp.rz c.ok hk hm) ⟨c.nr.lst,c.nr.dc,c.nr.ak,c.nr.vo,fun v p=>?_,c.nr.ba⟩ fun o q=>.inl q
   rcases iH p with q|q
   ·subst q;exact⟨hs,i,mb.lt,mb.id,hf,e,f,j,k,mb.lv,b,by show r.lives.getD r.id.toNat 0≤_;rw[← hl];exact l,by show lf (sn r) _≤_;rw[ln.eq];exact Int.le_refl _,ln.all⟩
   ·exact c.nr.an v q
  dsimp only
  split
  ·rename_i a ha
   split
   ·rename_i hr;exact c1.resume hs ha hr (fun x s=>hG x ((iH s).elim .inr .inl))
   ·exact⟨_,_,c1⟩
  ·exact⟨_,_,c1⟩
 ·exact⟨_,_,c⟩
structure Gx (g:Int→List Int) (r:Rp):Prop where
 gp:r.status=1∨r.status=2→Gp g r
 an:∀ x∈r.answers,x.grp=g x.epoch∧(g x.epoch).length % 2=1
theorem Hok.aU (c:Hok g cu h0 T0 h T r) (G:Gx g r) (mb:Mb h T g r.id m i) (hm:dF r.n m) (ln:Lnd m i h r) (hf:m.frm≠r.id) (hA:m.kind=97→m.grp=g m.epoch∧(g m.epoch).length % 2=1):Hk g cu h0 T0 (r.aU m):=by
 unfold Rp.aU
 split
 ·rename_i hs
  split
  ·rename_i hk;exact c.dH hs mb hk hm ln hf (fun x a=>a.elim (G.an x) (fun e=>by rw[e];exact hA hk))
  ·exact⟨_,_,c⟩
 ·rename_i hs
  split
  ·rename_i hk;exact c.dQ hs mb hk hm
  ·split
   ·refine⟨_,_,c.answer hm ?_⟩
    rw[ln.eq];unfold life lf;rw[mb.id,mb.lv];exact Int.le_refl _
   ·split
    ·exact c.dV
    ·split
     ·exact⟨_,_,c⟩
     ·split
      ·exact⟨_,_,c.bZ⟩
      ·have:=c.ok.st
       exact c.bH (by omega) (G.gp (by omega)) mb hm ln
theorem Hok.take (c:Hok g cu h0 T0 h T r) (G:Gx g r) (hm:Rp.MOk r.n m) (hb:¬(m.kind=113∨m.kind=109)→Mj h T g r.id m) (hA:m.kind=97→m.grp=g m.epoch∧(g m.epoch).length % 2=1):Hk g cu h0 T0 (r.take m):=by
 unfold Rp.take
 split
 ·rename_i hk;exact c.bQ (fun q=>(G.gp (.inl q)).gp) (hm.1 hk) hk
 ·rename_i hk
  split
  ·rename_i ha;obtain⟨i,f⟩:=hb hk
   have hm:=hm.2 hk;obtain⟨c1,e,j⟩:=c.learn f hm ha
   have a:∀ x∈(r.learn m.lives).pruned.answers,x∈r.answers:=fun x b=>by
    obtain⟨k,l,e⟩:=(lr m.lives r).eq
    rw[e] at b;exact (List.mem_filter.1 b).1
   have d:=f.up (fun i o=>dx (S:=sn (r.learn m.lives).pruned) o) (Nat.le_succ T)
   have p:m.frm≠r.id:=by
    unfold Rp.alive at ha;simp only[Bool.and_eq_true,bne_iff_ne] at ha;exact ha.1
   generalize hR:(r.learn m.lives).pruned=R at *;obtain⟨k,l,s,t,e⟩:=e
   subst e;exact c1.aU ⟨fun q=>⟨(G.gp q).gp,(G.gp q).odd,(G.gp q).nd,(G.gp q).me⟩,fun x b=>G.an x (a x b)⟩ d hm j p hA
  ·exact⟨_,_,c⟩
theorem Hok.askL:∀ (is:List Nat) (r:Rp),Hok g cu h0 T0 h T r→Hok g cu h0 T0 h T (is.foldl Rp.oF r)
 | [],_,c=>c
 | i :: is,r,c=>by
  rw[List.foldl_cons];refine Hok.askL is _ ?_;unfold Rp.oF
  split
  ·exact c.bare (by omega)
  ·exact c
theorem Hok.lu (c:Hok g cu h0 T0 h T r) (G:Gx g r):Hok g cu h0 T0 h T r.lu:=by
 unfold Rp.lu
 split
 ·rename_i hl;exact c.iD hl (G.gp (.inl (by unfold Rp.leads at hl;simp only[Bool.and_eq_true,beq_iff_eq] at hl;exact hl.1))).gp
 ·split
  ·rename_i hs;exact c.call.dJ hs (G.gp (.inr hs)).me
  ·split
   ·exact Hok.askL _ _ c
   ·split
    ·rename_i hs;exact c.bF (.inr hs)
    ·exact c
theorem Hok.suspect (c:Hok g cu h0 T0 h T r) (G:Gx g r):Hk g cu h0 T0 r.suspect:=by
 unfold Rp.suspect
 split
 ·rename_i q;have a:=tT q.1;exact⟨_,_,c.want a (by omega) (by omega) (G.gp a).me⟩
 ·exact⟨_,_,c⟩
end
def Gk (g g':Int→List Int):Prop:=∀ e,g e=g' e∨g e=[]
section
variable {h:Nat→Sn} {T:Nat} {g g':Int→List Int} {r:Rp}
theorem Gk.refl (g:Int→List Int):Gk g g:=fun _=>.inl rfl
theorem Gk.eq (k:Gk g g') {e:Int} (o:(g e).length % 2=1):g e=g' e:=by
 rcases k e with q|q
 ·exact q
 ·rw[q] at o;simp at o
theorem Gk.gZ (k:Gk g g') {e v x:Int} (h0:0≤x) (q:x=fJ (g e) v):x=fJ (g' e) v:=by
 rcases k e with z|z
 ·rw[← z];exact q
 ·rw[z] at q;have:fJ [] v = -1:=by unfold fJ;simp
  omega
theorem Ct.gk {t:Nat} {e v:Int} {L:List En} {A:List Nat} {p:Nat} (a:Ct h g t e v L A p) (k:Gk g g'):Ct h g' t e v L A p:=by
 have e1:=k.eq a.q.odd;exact⟨by rw[← e1];exact a.q,a.n1,a.vw,a.lg,a.pin,by rw[← e1];exact a.pi⟩
theorem Dc.gk {e v:Int} {l:List En} {c:Nat} (d:Dc h T g e v l c) (k:Gk g g'):Dc h T g' e v l c:=by
 rcases d with d|⟨e',v',L,A,p,c1,q⟩
 ·exact .inl d
 ·exact .inr ⟨e',v',L,A,p,c1.gk k,q⟩
theorem Ba.gk {e:Int} {l:List En} (b:Ba h T g e l) (k:Gk g g'):Ba h T g' e l:=⟨b.e0,b.bs,b.so,fun E h0 h1=>by
 obtain⟨v,L,A,p,c,q⟩:=b.ct E h0 h1
 exact⟨v,L,A,p,c.gk k,q⟩⟩
theorem HX.gk (H:HX h T g) (k:Gk g g'):HX h T g':=by
 refine⟨H.inc',H.rt,fun j f a b=>?_,fun j f a b=>?_,fun j f a=>?_,fun j f a E m n=>?_,H.clo,H.nvw,H.so,H.l0,H.sts,H.i0⟩
 ·obtain⟨E,V,Q,p,e⟩:=H.rcv j f a b
  have l:=k.eq e.q.odd;exact⟨E,V,Q,p,by rw[← l];exact e.q,e.n1,e.kn,e.ne,e.le,e.mx,e.pin,e.pv,by rw[← l];exact e.pi,e.rg,e.lv⟩
 ·obtain⟨o,B,b,d⟩:=H.est j f a b
  have l:=k.eq d.q.odd;exact⟨o,B,b,d.le,by rw[← l];exact d.id,d.ep,d.st,d.vw,d.lg,by rw[← l];exact d.q,d.bv,d.bin,d.bl,d.mx,d.lt⟩
 ·rcases H.mst j f a with ⟨i,r,s,t,u,w,x⟩|q
  ·exact .inl ⟨i,r,s,t,u,k.gZ (H.i0 i (by omega)) w,x⟩
  ·exact .inr q
 ·obtain⟨v,L,A,p,c,q⟩:=H.bas j f a E m n
  exact⟨v,L,A,p,c.gk k,q⟩
theorem Mb.gk {qt:Int} {P:Pm} {i:Nat} (b:Mb h T g qt P i) (H:HX h T g) (k:Gk g g'):Mb h T g' qt P i :=
 ⟨b.lt,b.id,b.lv,b.n1,b.k,fun q=>⟨k.gZ (H.i0 i b.lt) (b.pc q).1,(b.pc q).2.gk k⟩,b.p,b.v,fun q=>(b.s q).imp (fun z=>z) (fun z=>⟨z.1,z.2.gk k⟩),b.a,fun q=>(b.d q).gk k⟩
theorem Nr.gk (x:Nr h T g r) (k:Gk g g'):Nr h T g' r:=by
 refine⟨x.lst,x.dc.gk k,x.ak,fun v s=>?_,fun a t=>?_,fun q=>⟨(x.ba.1 q).1.gk k,(x.ba.1 q).2⟩,x.ba.2⟩
 ·obtain⟨b,a,c,b1,d,e,f,j,l,m,n,o,p⟩:=x.vo v s
  exact⟨b,a,c,b1,d,e,f,j,l,m,n,o.gk k,p⟩
 ·obtain⟨b,i,c,b1,d,e,f,j,l,m,n,o⟩:=x.an a t
  exact⟨b,i,c,b1,d,e,f,j,l,m,n.gk k,o⟩
theorem Nr.up {h':Nat→Sn} {T':Nat} (x:Nr h T g r) (k:∀ i,i<T→h' i=h i) (ht:T≤T') (ho:∀ j,T≤j→j<T'→(h' j).id≠r.id):Nr h' T' g r:=by
 obtain⟨i,t,i2,u⟩:=x.lst
 refine⟨⟨i,by omega,by rw[k i t];exact i2,fun j w q=>?_⟩,x.dc.up k ht,fun y A=>?_,fun v B=>?_,fun a C=>?_,fun q=>⟨(x.ba.1 q).1.up k ht,(x.ba.1 q).2⟩,x.ba.2⟩
 ·rcases Nat.lt_or_ge j T with z|z
  ·rw[k j z] at q;exact u j z q
  ·exact absurd q (ho j z w)
 ·obtain⟨b,a,c,D⟩:=x.ak y A
  exact⟨b,a,by omega,by rw[k a c];exact D⟩
 ·obtain⟨b,a,c,b1,d,e,f,l,m,n,o,p,s⟩:=x.vo v B
  exact⟨b,a,by omega,by rw[k a c];exact⟨b1,d,e,f,l,m,n,o,p.up k ht,s⟩⟩
 ·obtain⟨b,i,c,b1,d,e,f,l,m,n,o,p⟩:=x.an a C
  exact⟨b,i,by omega,by rw[k i c];exact⟨b1,d,e,f,l,m,n,o.up k ht,p⟩⟩
theorem Mj.back {qt:Int} {P0 P:Pm} (hk:RK P0.kind) (b:Bk P P0) (m:Mj h T g qt P0):Mj h T g qt P:=by
 obtain⟨i,x⟩:=m
 have e:=b.k;refine⟨i,x.lt,by rw[b.f];exact x.id,by rw[b.lv];exact x.lv,by rw[e,b.e,b.v];exact x.n1,fun q=>?_,fun q=>?_,fun q=>?_,fun q=>?_,fun q=>?_,fun q=>?_,fun q=>?_⟩ <;> rw[e] at q
 ·rw[b.kk q];exact x.k q
 ·rw[b.e,b.v];have:=x.pc q
  rcases q with q|q
  ·rw[(b.p q).2.2];exact this
  ·rw[b.c q];exact this
 ·rw[(b.p q).1,(b.p q).2.1];exact x.p q
 ·rw[b.e,b.v,(b.vv q).1,(b.vv q).2.2];exact x.v q
 ·rw[b.e,b.v,(b.s (.inl q)).2.2];exact x.s q
 ·rw[(b.s (.inr q)).2.2,b.a q];exact x.a q
 ·rw[e,b.e,b.v];have:=x.d q
  rcases q with q|q
  ·rw[(b.vv q).1,(b.vv q).2.1,(b.vv q).2.2];exact this
  ·obtain⟨_,j,l⟩:=b.s q
   rw[if_neg (by omega)] at this ⊢
   rw[j,l];exact this
end
theorem Gq {s:ByteArray} {n:Int} (h:bK s.data.toList n=true):(dN s).Nodup∧(dN s).length % 2=1:=by
 have p:=jJ h;refine⟨?_,by unfold dN;rw[List.length_map];omega⟩
 refine List.pairwise_iff_getElem.2 fun i j f d g e=>?_
 unfold dN at f d e;rw[List.length_map] at f d;rw[List.getElem_map,List.getElem_map] at e;unfold bK gTo at h;simp only[Bool.and_eq_true] at h;have c:=List.all_eq_true.1 h.1 j (List.mem_range.2 d);unfold gAt at c;simp only[Bool.and_eq_true,decide_eq_true_eq] at c;have k:=List.all_eq_true.1 c.2 i (List.mem_range.2 g);have m:s.data.toList.getD j 0=s.data.toList[j]:=by rw[List.getD_eq_getElem?_getD,List.getElem?_eq_getElem d];rfl
 have o:s.data.toList.getD i 0=s.data.toList[i]:=by rw[List.getD_eq_getElem?_getD,List.getElem?_eq_getElem f];rfl
 rw[m] at c;rw[m,o] at k;have a:=tX c.1.1;have b:=tX (l:=[s.data.toList[i]]) (by rw[e];exact c.1.1)
 rw[e,a] at b;simp at b;simp[b] at k
def gK (G:List ByteArray) (e:Int):List Int:=dN (G.getD e.toNat ⟨#[]⟩)
theorem gK_up {G G':List ByteArray} (h:G <+: G'):Gk (gK G) (gK G'):=fun e=>by
 obtain⟨m,rfl⟩:=h
 unfold gK;rcases Nat.lt_or_ge e.toNat G.length with z|z
 ·left
  rw[List.getD_eq_getElem?_getD,List.getD_eq_getElem?_getD,List.getElem?_append_left z]
 ·right
  rw[List.getD_eq_getElem?_getD,List.getElem?_eq_none z];rfl
def cuK (l:List Nod) (q:Int):Int:=match l[q.toNat]? with
 | some x=>life (sn x.R)
 | none=>0
theorem CX {l:List Nod} {q:Int} {x:Nod} (h:l[q.toNat]? = some x):cuK l q=life (sn x.R):=by unfold cuK;rw[h]
theorem Ip {l:List Nod} {q:Nat} {x x1:Nod} (h:l[q]? = some x) (p:Int):cuK (l.set q x1) p=if p.toNat=q then life (sn x1.R) else cuK l p:=by
 have a:q<l.length:=by
  rcases Nat.lt_or_ge q l.length with z|z
  ·exact z
  ·rw[List.getElem?_eq_none z] at h;cases h
 unfold cuK;by_cases z:p.toNat=q
 ·rw[if_pos z,z,List.getElem?_set_self a]
 ·rw[if_neg z,List.getElem?_set_ne (fun e=>z e.symm)]
def Nj (h:Nat→Sn) (T:Nat) (g:Int→List Int) (n qt:Int) (s:ByteArray):Prop:=∀ P,aZ s n≠[]→oL n (aZ s n) P→¬(P.kind=113∨P.kind=109)→Mj h T g qt P
structure HC (K:Kw) (h:Nat→Sn) (T:Nat):Prop where
 hx:HX h T (gK K.groups)
 kn:∀ i,i<T→∀ q:Int,lf (h i) q≤cuK K.nds q
 id:∀ (j:Nat) x,K.nds[j]? = some x→x.R.id=j
 nd:∀ x∈K.nds,Nr h T (gK K.groups) x.R∧life (sn x.R)≤K.lives
 nt:∀ p∈K.net,0≤p.2.1→Nj h T (gK K.groups) K.n p.2.1 p.2.2
 ls:K.list=[]∨∃ e v L A p,Ct h (gK K.groups) T e v L A p∧K.list <+: L
section
variable {h:Nat→Sn} {T:Nat} {K K':Kw}
theorem HC.of (c:HC K h T) (h1:K'.n=K.n) (h2:K'.list=K.list) (h3:K'.groups=K.groups) (h4:K'.nds=K.nds) (h5:K'.lives=K.lives) (h6:∀ p∈K'.net,p∈K.net∨(0≤p.2.1→Nj h T (gK K.groups) K.n p.2.1 p.2.2)):HC K' h T :=
 ⟨by rw[h3];exact c.hx,by rw[h4];exact c.kn,by rw[h4];exact c.id,by rw[h3,h4,h5];exact c.nd,fun p b a=>by
  rw[h1,h3];rcases h6 p b with z|z
  ·exact c.nt p z a
  ·exact z a,by rw[h2,h3];exact c.ls⟩
theorem HC.hok (c:HC K h T) {q:Nat} {x:Nod} (hx:K.nds[q]? = some x) (hok:Ok x.R) (ho:x.R.out=[]):Hok (gK K.groups) (cuK K.nds) h T h T x.R:=by
 have a:=c.id q x hx;exact⟨Nat.le_refl _,fun _ _=>rfl,c.hx,c.kn,by rw[a,CX (x:=x) (by rw[Int.toNat_natCast];exact hx)],hok,(c.nd x (List.mem_of_getElem? hx)).1,by rw[ho];simp,fun j b d=>by omega⟩
theorem Hk.one {g:Int→List Int} {cu:Int→Int} {T':Nat} {h':Nat→Sn} {R:Rp} (k:Hok g cu h T h' T' R) {l:List En} (hl:l=[]∨∃ e v L A p,Ct h g T e v L A p∧l <+: L):Cmp l (R.log.take R.decided)∧So (R.log.take R.decided):=by
 rcases k.nr.dc with d|⟨e,v,L,A,p,c,_,d,_⟩
 ·rw[d,List.take_zero];exact⟨.inr List.nil_prefix,List.Pairwise.nil⟩
 ·constructor
  ·rcases hl with rfl|⟨f,i,j,m,n,b,a⟩
   ·exact .inl List.nil_prefix
   ·rcases k.hx.one (Nat.le_refl _) (Nat.le_refl _) ((b.ag k.ag).mono k.le) c with z|z
    ·exact Cmp.of (a.trans z) d
    ·exact Cmp.of a (d.trans z)
  ·exact List.Pairwise.sublist (d.trans (c.lg p c.pin)).sublist (k.hx.so p (c.q.lt p c.pin) (c.q.st p c.pin))
theorem HC.act (c:HC K h T) {q:Nat} {x x1:Nod} {R':Rp} (hx:K.nds[q]? = some x) {h':Nat→Sn} {T':Nat} (k:Hok (gK K.groups) (cuK K.nds) h T h' T' R') (hid:R'.id=x.R.id) (hn:R'.n=K.n) (hn7:K.n≤7) (hx1:x1.R={ R' with out:=[] }) (hg:K.groups <+: K'.groups) (hl:K'.list=K.list∨K'.list <+: R'.log.take R'.decided)
  (hnet:∀ p∈K'.net,p∈K.net∨(0≤p.2.1→∃ o∈R'.out,o=p.2)) (e1:K'.nds=K.nds.set q x1) (e2:K'.n=K.n) (e3:K'.lives=K.lives):HC K' h' T':=by
 have gk:=gK_up hg;have f:=c.id q x hx;have t:life (sn x1.R)=life (sn x.R):=by
  have l:=k.own;rw[hid,f,CX (x:=x) (by rw[Int.toNat_natCast];exact hx)] at l
  rw[hx1];exact l
 have m:∀ p,cuK (K.nds.set q x1) p=cuK K.nds p:=fun p=>by
  rw[Ip hx]
  split
  ·rename_i z;rw[t,CX (x:=x) (by rw[z];exact hx)]
  ·rfl
 have g:∀ (j:Nat) y,(K.nds.set q x1)[j]? = some y→(j=q∧y=x1)∨(j≠q∧K.nds[j]? = some y):=fun j y a=>by
  by_cases z:j=q
  ·subst z;have D:j<K.nds.length:=by
    rcases Nat.lt_or_ge j K.nds.length with w|w
    ·exact w
    ·rw[List.getElem?_eq_none w] at hx;cases hx
   rw[List.getElem?_set_self D] at a;cases a;exact .inl ⟨rfl,rfl⟩
  ·rw[List.getElem?_set_ne (fun e=>z e.symm)] at a
   exact .inr ⟨z,a⟩
 refine⟨k.hx.gk gk,by rw[e1];exact fun i E p=>by rw[m];exact k.kn i E p,fun j y a=>?_,fun y a=>?_,fun p F r=>?_,?_⟩
 ·rw[e1] at a;rcases g j y a with ⟨rfl,rfl⟩|⟨_,z⟩
  ·rw[hx1];show R'.id=_;rw[hid];exact f
  ·exact c.id j y z
 ·rw[e1] at a;rw[e3];obtain⟨j,G⟩:=List.getElem?_of_mem a
  rcases g j y G with ⟨rfl,rfl⟩|⟨z,w⟩
  ·refine⟨?_,by rw[t];exact (c.nd x (List.mem_of_getElem? hx)).2⟩
   rw[hx1];exact (k.nr.out []).gk gk
  ·obtain⟨H,M⟩:=c.nd y (List.mem_of_getElem? w)
   refine⟨(H.up k.ag k.le (fun i l N=>?_)).gk gk,M⟩
   rw[k.nw i l N,hid,f,c.id j y w];omega
 ·rw[e2];intro P hw hM hc;rcases hnet p F with z|z
  ·obtain⟨i,b⟩:=c.nt p z r P hw hM hc
   exact⟨i,(b.up k.ag k.le).gk k.hx gk⟩
  ·obtain⟨o,Q,u⟩:=z r
   obtain⟨U,s,S,B,C⟩:=k.out o Q (by rw[u];exact r)
   rw[u] at s C;rw[s,sP (by rw[← s];exact hw)] at hM
   obtain⟨i,b⟩:=C.back B (I6 hn7 (by rw[← hn];exact S) B hM)
   exact⟨i,b.gk k.hx gk⟩
 ·rcases hl with z|z
  ·rw[z];rcases c.ls with w|⟨e,v,L,A,p,ct,w⟩
   ·exact .inl w
   ·exact .inr ⟨e,v,L,A,p,((ct.ag k.ag).mono k.le).gk gk,w⟩
  ·rcases k.nr.dc with d|⟨e,v,L,A,p,ct,_,d,_⟩
   ·rw[d,List.take_zero] at z;exact .inl (List.prefix_nil.1 z)
   ·exact .inr ⟨e,v,L,A,p,ct.gk gk,z.trans d⟩
theorem HC.born (c:HC K h T) {q:Nat} {x x1:Nod} (hx:K.nds[q]? = some x) (e0:x1.R=Rp.mk0 q K.n ((cZ K.n.toNat).set q K'.lives) 3 []) (hn:(q:Int)<K.n) (e1:K'.nds=K.nds.set q x1) (e2:K'.n=K.n) (e3:K'.lives=K.lives+1) (h2:K'.list=K.list) (h3:K'.groups=K.groups) (h4:K'.net=K.net) (l0:0≤K.lives):∃ h' T',HC K' h' T':=by
 have s:x1.R.lives=(cZ K.n.toNat).set q (K.lives+1):=by rw[e0,e3];rfl
 have l:∀ p:Int,lf (sn x1.R) p=if p.toNat=q then K.lives+1 else 0:=fun p=>by
  show x1.R.lives.getD p.toNat 0=_
  rw[s,pX];have D:(cZ K.n.toNat).length=K.n.toNat:=by unfold cZ;simp
  have t:(cZ K.n.toNat).getD p.toNat 0=0:=by
   unfold cZ;rw[List.getD_eq_getElem?_getD,List.getElem?_replicate];split <;> rfl
  rw[D,t];by_cases z:p.toNat=q
  ·rw[if_pos ⟨z,by omega⟩,if_pos z]
  ·rw[if_neg (fun w=>z w.1),if_neg z]
 have f:x1.R.id=q:=by rw[e0];rfl
 have g:life (sn x1.R)=K.lives+1:=by
  unfold life;rw[l,if_pos (by show x1.R.id.toNat=q;rw[f];omega)]
 have M:=c.nd x (List.mem_of_getElem? hx);have E:cuK K.nds q=life (sn x.R):=CX (by rw[Int.toNat_natCast];exact hx)
 have k:∀ i,i<T→upd h T (sn x1.R) i=h i:=fun i C=>dx C
 have o:∀ (j:Nat) y,(K.nds.set q x1)[j]? = some y→(j=q∧y=x1)∨(j≠q∧K.nds[j]? = some y):=fun j y d=>by
  by_cases z:j=q
  ·subst z;have F:j<K.nds.length:=by
    rcases Nat.lt_or_ge j K.nds.length with w|w
    ·exact w
    ·rw[List.getElem?_eq_none w] at hx;cases hx
   rw[List.getElem?_set_self F] at d;cases d;exact .inl ⟨rfl,rfl⟩
  ·rw[List.getElem?_set_ne (fun e=>z e.symm)] at d
   exact .inr ⟨z,d⟩
 have u:∀ p,0≤cuK K.nds p:=fun p=>by
  unfold cuK
  split
  ·rename_i y d;obtain⟨i,G,i2,_⟩:=(c.nd y (List.mem_of_getElem? d)).1.lst
   have:=c.hx.l0 i G
   rw[i2] at this;exact this
  ·exact Int.le_refl _
 refine⟨upd h T (sn x1.R),T+1,?_,fun i C p=>?_,fun j y d=>?_,fun y d=>?_,fun p m t=>?_,?_⟩
 ·rw[h3];refine c.hx.born (by rw[e0];rfl) (fun j B=>?_) (by omega) (by show 0≤x1.R.id;rw[f];omega)
  have:=c.kn j B q
  rw[g]
  show lf (h j) x1.R.id<_
  rw[f];omega
 ·rw[e1,Ip hx,g];by_cases z:i=T
  ·subst z;rw[dK,l]
   split
   ·exact Int.le_refl _
   ·exact u p
  ·rw[dx (by omega)]
   have:=c.kn i (by omega) p
   split
   ·rename_i w;have:lf (h i) p=lf (h i) q:=by unfold lf;rw[w];rfl
    have:=c.kn i (by omega) q
    omega
   ·exact this
 ·rw[e1] at d;rcases o j y d with ⟨rfl,rfl⟩|⟨_,z⟩
  ·exact f
  ·exact c.id j y z
 ·rw[e1] at d;rw[h3,e3];obtain⟨j,B⟩:=List.getElem?_of_mem d
  rcases o j y B with ⟨rfl,rfl⟩|⟨z,w⟩
  ·refine⟨Nq.nr ⟨.inl (by rw[e0];rfl),fun p m=>?_,fun v r=>?_,fun v r=>?_,fun z=>?_,fun _=>?_⟩,by omega⟩
   ·rw[e0] at m;have m:0<jW.getD p 0:=m
    rw[jy] at m;omega
   ·rw[e0] at r;simp[Rp.mk0] at r
   ·rw[e0] at r;simp[Rp.mk0] at r
   ·rw[e0] at z;have z:(3:Int)=5:=z
    omega
   ·rw[e0];exact⟨rfl,rfl,rfl⟩
  ·obtain⟨H,N⟩:=c.nd y (List.mem_of_getElem? w)
   refine⟨H.up k (Nat.le_succ T) (fun i a b=>?_),by omega⟩
   obtain rfl:i=T:=by omega
   rw[dK,c.id j y w]
   show x1.R.id≠_
   rw[f];omega
 ·rw[e2,h3];rw[h4] at m;intro P hw hM hc;exact (c.nt p m t P hw hM hc).up k (Nat.le_succ T)
 ·rw[h2,h3];rcases c.ls with w|⟨e,v,L,A,p,ct,w⟩
  ·exact .inl w
  ·exact .inr ⟨e,v,L,A,p,(ct.ag k).mono (Nat.le_succ T),w⟩
theorem HC.begin {n:Int} {gr:List Int} (hl:K.list=[]) (hn:K.net=[]) (hv:K.lives=0) (hd:∀ (j:Nat) x,K.nds[j]? = some x→x.R=Rp.new j n gr):∃ h T,HC K h T:=by
 have a:∀ (j:Nat) (q:Int),lf (sn (Rp.new j n gr)) q=0:=fun j q=>by
  show (cZ n.toNat).getD q.toNat 0=0
  unfold cZ;rw[List.getD_eq_getElem?_getD,List.getElem?_replicate];split <;> rfl
 have d:∀ j:Nat,(Rp.new j n gr).status=1∨(Rp.new j n gr).status=4:=fun j=>by
  show (if gW gr j then (1:Int) else 4)=1∨(if gW gr j then (1:Int) else 4)=4
  split <;> simp
 have b:∀ j:Nat,(sn (Rp.new j n gr)).nv=0:=fun j=>by
  show (if (Rp.new j n gr).status=1 then (0:Int) else 0)=0
  split <;> rfl
 have p:∀ q,cuK K.nds q=0:=fun q=>by
  unfold cuK
  split
  ·rename_i x c;rw[hd _ x c];exact a _ _
  ·rfl
 refine⟨fun j=>sn (Rp.new j n gr),K.nds.length,⟨fun i j _ _ e _=>?_,fun i j _ _ e=>?_,fun j _ _ e=>?_,fun j _ _ e=>?_,fun j _ _=>.inr ⟨b j,rfl,fun k f=>by simp[sn,Rp.new,Rp.mk0] at f⟩,fun j _ _ E r o=>?_,fun j _ _ k f=>by simp[sn,Rp.new,Rp.mk0] at f,fun j _ _=>⟨Int.le_refl _,by rw[b j];exact Int.le_refl _,by rw[b j];exact Int.le_refl _,fun _=>b j,fun e=>?_⟩,fun j _ _=>List.Pairwise.nil,fun j _=>by show 0≤lf (sn (Rp.new j n gr)) _;rw[a];exact Int.le_refl _,fun j _=>?_,fun j _=>by show (0:Int)≤j;omega⟩,fun i _ q=>by rw[p];show lf (sn (Rp.new i n gr)) q≤0;rw[a];exact Int.le_refl _,fun j x c=>by rw[hd j x c];rfl,fun x c=>?_,by rw[hn];simp,.inl hl⟩
 ·have e:(i:Int)=j:=e
  obtain rfl:i=j:=by omega
  exact Inc.refl _
 ·have e:lf (sn (Rp.new i n gr)) _<lf (sn (Rp.new j n gr)) _:=e
  rw[a,a] at e;omega
 ·have e:0<lf (sn (Rp.new j n gr)) _:=e
  rw[a] at e;omega
 ·have e:0<(sn (Rp.new j n gr)).nv:=e
  rw[b] at e;omega
 ·have o:E<0:=o
  omega
 ·have e:(Rp.new j n gr).status=2:=e
  have:=d j
  omega
 ·show ((Rp.new j n gr).status=1∨(Rp.new j n gr).status=2)∨(Rp.new j n gr).status=3∨(Rp.new j n gr).status=4∨(Rp.new j n gr).status=5
  have:=d j
  omega
 ·obtain⟨j,g⟩:=List.getElem?_of_mem c
  have l:j<K.nds.length:=by
   rcases Nat.lt_or_ge j K.nds.length with w|w
   ·exact w
   ·rw[List.getElem?_eq_none w] at g;cases g
  have s:=d j;rw[hd j x g,hv];refine⟨⟨⟨j,l,rfl,fun i _ e=>?_⟩,.inl rfl,fun y m=>?_,fun v hv=>?_,fun v hv=>?_,fun e=>?_,fun e=>?_⟩,by unfold life;rw[a];exact Int.le_refl _⟩
  ·have e:(i:Int)=j:=e
   omega
  ·have m:0<jW.getD y 0:=m
   rw[jy] at m;omega
  ·simp[Rp.new,Rp.mk0] at hv
  ·simp[Rp.new,Rp.mk0] at hv
  ·omega
  ·omega
end
structure Up (L L':List En) (G G':List ByteArray) (B B':List Int):Prop where
 l:L <+: L'
 g:G <+: G'
 gl:G.length=regs L+1
 b:∀ k,B.getD k (-1)≤B'.getD k (-1)
section
variable {L L':List En} {T:Wt} {G G':List ByteArray} {B B':List Int}
theorem Up.regs (u:Up L L' G G' B B'):Go.Proofs.YtinaollfjiddmaaGreatDoor.regs L≤Go.Proofs.YtinaollfjiddmaaGreatDoor.regs L':=by
 obtain⟨m,rfl⟩:=u.l;rw[lX];omega
theorem Up.grp (u:Up L L' G G' B B') {e:Int} (h0:0≤e) (h1:e≤Go.Proofs.YtinaollfjiddmaaGreatDoor.regs L):G'.getD e.toNat ⟨#[]⟩=G.getD e.toNat ⟨#[]⟩:=by
 obtain⟨m,rfl⟩:=u.g
 have:=u.gl
 rw[List.getD_eq_getElem?_getD,List.getD_eq_getElem?_getD,List.getElem?_append_left (by omega)]
theorem Up.beg (u:Up L L' G G' B B') {e:Int} (h0:0≤e) (h1:e≤Go.Proofs.YtinaollfjiddmaaGreatDoor.regs L):iG L' e.toNat=iG L e.toNat:=by
 obtain⟨m,rfl⟩:=u.l
 exact oP _ _ _ (by omega)
theorem MI.up {P:Pm} (h:MI L T G B P) (u:Up L L' G G' B B'):MI L' T G' B' P :=
 ⟨h.q,h.m,fun q=>by
  obtain⟨d,a,b,c⟩:=h.p q
  refine⟨d,by have:=u.regs;omega,b,?_⟩
  rw[u.beg d a];exact c,fun q=>by
  obtain⟨a,b,c⟩:=h.s q
  refine⟨a.mono u.l,?_,c⟩
  rw[u.grp a.e0 a.le];exact b,fun q=>(h.v q).mono u.l,fun q=>Int.le_trans (h.t q) (u.b _)⟩
theorem RI.up {R:Rp} (h:RI L T G B R) (u:Up L L' G G' B B') (ho:Ok R):RI L' T G' B' R :=
 ⟨h.jl,fun a c=>⟨(h.an a c).1.up u,(h.an a c).2⟩,fun v d=>⟨(h.vo v d).1,(h.vo v d).2.mono u.l⟩,h.me,fun q=>by
  obtain⟨a,b⟩:=h.gp q
  refine⟨by have:=u.regs;omega,?_⟩
  rw[u.grp ho.ep.1 a];exact b,fun q=>(h.lg q).mono u.l,fun q k e=>⟨(h.st q k e).1,Int.le_trans (h.st q k e).2 (u.b _)⟩⟩
theorem DL.up {R:Rp} (h:DL L R) (hl:L <+: L'):DL L' R:=by
 obtain⟨m,rfl⟩:=hl
 exact⟨by have:=h.dl;simp;omega,by rw[h.dt,List.take_append_of_le_length h.dl]⟩
def BJ (T:Wt) (y:En×ByteArray):Prop:=∀ z∈T,¬(z.1.1=y.1.1∧z.1.2.1=y.1.2.1)
theorem BJ.ne {y:En×ByteArray} (h:BJ T y) {e:En} (he:∃ z∈T,z.1=e):y.1≠e:=fun q=>by
 obtain⟨z,hz,rfl⟩:=he
 exact h z hz ⟨by rw[q],by rw[q]⟩
theorem Lg.wish {e:Int} {l:List En} (h:Lg L T e l) {y:En×ByteArray} (hf:BJ T y):Lg L (T++[y]) e l :=
 ⟨h.e0,h.le,h.ln,h.pre,h.rg,fun p c d z b a=>by
  rcases List.mem_append.1 b with q|q
  ·exact h.jw p c d z q a
  ·simp at q;subst q;exact absurd a (hf.ne (h.pv _ (List.getElem_mem c))),fun x f=>by
  obtain⟨z,b,q⟩:=h.pv x f
  exact⟨z,List.mem_append_left _ b,q⟩⟩
theorem MI.wish {P:Pm} (h:MI L T G B P) {y:En×ByteArray} (hf:BJ T y):MI L (T++[y]) G B P:=by
 have ex:∀ {e:En},(∃ z∈T,z.1=e)→∃ z∈T++[y],z.1=e:=fun ⟨z,f,q⟩=>⟨z,List.mem_append_left _ f,q⟩
 have i:∀ {e:En} {x:ByteArray},(∃ z∈T,z.1=e)→(∀ z∈T,z.1=e→z.2=x)→∀ z∈T++[y],z.1=e→z.2=x:=fun g h z f d=>by
  rcases List.mem_append.1 f with q|q
  ·exact h z q d
  ·simp at q;subst q;exact absurd d (hf.ne g)
 refine⟨fun q=>⟨(h.q q).1,ex (h.q q).2⟩,fun q=>?_,fun q=>?_,fun q=>⟨(h.s q).1.wish hf,(h.s q).2⟩,fun q=>(h.v q).wish hf,h.t⟩
 ·obtain⟨a,j,b,c⟩:=h.m q
  exact⟨a,j,ex b,i b c⟩
 ·obtain⟨g,a,b,c⟩:=h.p q
  refine⟨g,a,ex b,?_⟩
  rcases c with c|c
  ·exact .inl c
  ·exact .inr fun k=>i b (c k)
theorem RI.wish {R:Rp} (h:RI L T G B R) {y:En×ByteArray} (hf:BJ T y):RI L (T++[y]) G B R :=
 ⟨⟨fun p d g z c b=>by
  rcases List.mem_append.1 c with q|q
  ·exact h.jl.1 p d g z q b
  ·simp at q;subst q;exact absurd b (hf.ne (h.jl.2 _ (List.getElem_mem d))),fun x i=>by
  obtain⟨z,c,q⟩:=h.jl.2 x i
  exact⟨z,List.mem_append_left _ c,q⟩⟩,fun a e=>⟨(h.an a e).1.wish hf,(h.an a e).2⟩,fun v f=>⟨(h.vo v f).1,(h.vo v f).2.wish hf⟩,h.me,h.gp,fun q=>(h.lg q).wish hf,h.st⟩
end
def qTx (e:En):ByteArray:=⟨#[113,32]⟩++dg e.1++SP++dg e.2.1++SP++e.2.2
structure Tw (y:En×ByteArray):Prop where
 c:1≤y.1.1∧y.1.1≤9
 n:1≤y.1.2.1∧y.1.2.1≤999
 q:fA y.1=false→y.2=qTx y.1∧(32:UInt8)∉y.1.2.2.data.toList
 m:fA y.1=true→(∃ E:Int,0≤E∧E≤10∧y.2=mTx y.1 E)∧(32:UInt8)∉(y.1.2.2.extract 1 y.1.2.2.size).data.toList
theorem Qs {op:ByteArray} (h:jk op=true):(⟨#[114]⟩:ByteArray)++op.extract 1 op.size=op:=by
 apply bytes_inj
 unfold jk at h;rw[ByteArray.data_append,Array.toList_append,drop1];cases hq:op.data.toList with
 | nil=>rw[hq] at h;simp at h
 | cons a l =>
  rw[hq] at h;simp at h;subst h
  rfl
theorem IV {L:List En} {T:Wt} {G:List ByteArray} {B:List Int} {n:Int} {P:Pm} {y:En×ByteArray} (hy:y∈T) (hw:Tw y) (hu:∀ z∈T,z.1.1=y.1.1→z.1.2.1=y.1.2.1→z=y) (hM:oL n (bU y.2 32) P):MI L T G B P∧(P.kind=113∨P.kind=109):=by
 have j:=iq (x:=y.1.1) (by have:=hw.c;omega) (by have:=hw.c;omega)
 have k:=iq (x:=y.1.2.1) (by have:=hw.n;omega) hw.n.2
 cases hr:fA y.1
 ·obtain⟨d,f⟩:=hw.q hr
  have e:y.2=⟨#[113]⟩++SP++(dg y.1.1++SP++(dg y.1.2.1++SP++y.1.2.2)):=by
   rw[d];unfold qTx;apply bytes_inj;simp[ByteArray.data_append,SP]
  rw[e,fK (by decide),fK (jY _),fK (jY _),uN f] at hM
  obtain⟨b,k1,g⟩:=hM.kind
  have h:P.kind=113:=by
   have:(⟨#[113]⟩:ByteArray).toList=[b]:=k1
   rw[ByteArray.toList_eq] at this;simp at this;rw[g,← this];rfl
  have i:P.ent=y.1:=by
   have:=hM.q (by show (⟨#[113]⟩:ByteArray).toList=[113];rw[ByteArray.toList_eq])
   rw[this]
   show (aH (dg y.1.1).data.toList,aH (dg y.1.2.1).data.toList,y.1.2.2)=y.1
   rw[j,k]
  exact⟨⟨fun _=>by rw[i];exact⟨hr,y,hy,rfl⟩,fun z=>by omega,fun z=>by omega,fun z=>by omega,fun z=>by omega,fun z=>by omega⟩,.inl h⟩
 ·obtain⟨⟨E,l,o,d⟩,f⟩:=hw.m hr
  have ne:=iq (x:=E) l (by omega)
  have e:y.2=⟨#[109]⟩++SP++(dg y.1.1++SP++(dg y.1.2.1++SP++(dg E++SP++y.1.2.2.extract 1 y.1.2.2.size))):=by
   rw[d];unfold mTx;apply bytes_inj;simp[ByteArray.data_append,SP]
  rw[e,fK (by decide),fK (jY _),fK (jY _),fK (jY _),uN f] at hM
  obtain⟨b,k1,g⟩:=hM.kind
  have h:P.kind=109:=by
   have:(⟨#[109]⟩:ByteArray).toList=[b]:=k1
   rw[ByteArray.toList_eq] at this;simp at this;rw[g,← this];rfl
  obtain⟨p,r⟩:=hM.m (by show (⟨#[109]⟩:ByteArray).toList=[109];rw[ByteArray.toList_eq])
  have s:P.epoch=E:=p.trans ne
  have i:P.ent=y.1:=by
   rw[r]
   show (aH (dg y.1.1).data.toList,aH (dg y.1.2.1).data.toList,(⟨#[114]⟩:ByteArray)++y.1.2.2.extract 1 y.1.2.2.size)=y.1
   rw[j,k,Qs hr]
  exact⟨⟨fun z=>by omega,fun _=>by
   rw[i,s];exact⟨hr,⟨l,o⟩,⟨y,hy,rfl⟩,fun z t a=>by rw[hu z t (by rw[a]) (by rw[a])];exact d⟩,fun z=>by omega,fun z=>by omega,fun z=>by omega,fun z=>by omega⟩,.inr h⟩
def wt (W:List ku):Wt:=W.map (fun x=>(x.e,x.text))
def NT (L:List En) (T:Wt) (G:List ByteArray) (B:List Int) (n:Int) (s:ByteArray):Prop:=∀ P,aZ s n≠[]→oL n (aZ s n) P→MI L T G B P
structure CI (K:Kw):Prop where
 gi:GI K.list K.groups K.n
 tw:∀ y∈wt K.wishes,Tw y
 un:K.wishes.Pairwise (fun a b=>a.e.1=b.e.1→a.e.2.1<b.e.2.1)
 fl:K.floor≤K.list.length∧∀ x∈K.wishes,x.floor≤K.list.length
 bd:∀ x∈K.wishes,x.bad=true→fA x.e=true∧(Rp.fu x.e K.n=true∨∃ E:Int,0≤E∧E≤10∧E<regs K.list∧x.text=mTx x.e E)
 nd:∀ x∈K.nds,RI K.list (wt K.wishes) K.groups K.begun x.R∧(x.R.status≠3→(regs (x.R.log.take x.R.decided):Int)≤x.R.epoch)∧DL K.list x.R
 nt:∀ p∈K.net,0≤p.2.1→NT K.list (wt K.wishes) K.groups K.begun K.n p.2.2
 hs:∃ h T,HC K h T
theorem CI.uniq {K:Kw} (h:CI K):∀ y∈wt K.wishes,∀ z∈wt K.wishes,z.1.1=y.1.1→z.1.2.1=y.1.2.1→z=y:=by
 intro y hy z hz h1 h2;obtain⟨a,e,rfl⟩:=List.mem_map.1 hy
 obtain⟨b,f,rfl⟩:=List.mem_map.1 hz
 obtain⟨i,c,rfl⟩:=List.getElem_of_mem e
 obtain⟨j,d,rfl⟩:=List.getElem_of_mem f
 have p:=List.pairwise_iff_getElem.1 h.un;rcases Nat.lt_trichotomy i j with q|q|q
 ·have:=p i j c d q h1.symm;simp only at h1 h2;omega
 ·subst q;rfl
 ·have:=p j i d c q h1;simp only at h1 h2;omega
theorem NT.wish {K:Kw} (h:CI K) {x:ku} (hx:x∈K.wishes):NT K.list (wt K.wishes) K.groups K.begun K.n x.text:=fun P c b=>by
 rw[sP c] at b;have a:(x.e,x.text)∈wt K.wishes:=List.mem_map.2 ⟨x,hx,rfl⟩
 exact (IV a (h.tw _ a) (fun z d=>h.uniq _ a z d) b).1
theorem Nj.wish {K:Kw} (c:CI K) {x:ku} (hx:x∈K.wishes) {h:Nat→Sn} {T:Nat} {g:Int→List Int} {qt:Int}:Nj h T g K.n qt x.text:=fun P d b f=>by
 rw[sP d] at b;have a:(x.e,x.text)∈wt K.wishes:=List.mem_map.2 ⟨x,hx,rfl⟩
 exact absurd (IV (L:=[]) (G:=[]) (B:=[]) a (c.tw _ a) (fun z i=>c.uniq _ a z i) b).2 f
theorem CI.sub {K:Kw} {M:List (Int×Int×ByteArray)} (c:CI { K with net:=M }) (h:∀ p∈K.net,p∈M):CI K :=
 ⟨c.gi,c.tw,c.un,c.fl,c.bd,c.nd,fun p b=>c.nt p (h p b),by
  obtain⟨a,T,H⟩:=c.hs
  exact⟨a,T,H.of rfl rfl rfl rfl rfl (fun p b=>.inl (h p b))⟩⟩
def Mt (K:Kw) (q:Nat) (s:ByteArray):Prop:=∃ M f,CI { K with net:=M }∧(∀ p∈K.net,p∈M)∧(f,(q:Int),s)∈M
def Mq (K:Kw) (q:Nat) (P:Pm):Prop:=∃ s,Mt K q s∧aZ s K.n≠[]∧oL K.n (aZ s K.n) P
theorem Mq.mi {K:Kw} {q:Nat} {P:Pm} (m:Mq K q P):MI K.list (wt K.wishes) K.groups K.begun P:=by
 obtain⟨s,⟨M,f,c,_,hm⟩,h1,h2⟩:=m
 exact c.nt _ hm (by show (0:Int)≤q;omega) P h1 h2
theorem NT.sent {L:List En} {T:Wt} {G:List ByteArray} {B:List Int} {n:Int} {P:Pm} (hn:n≤7) (hp:dF n P) (hk:RK P.kind) (mi:MI L T G B P):NT L T G B n (fQ P):=fun Q hw hM=>by
 rw[sP hw] at hM;exact Og hn hp hk hM mi
structure ActP (R R':Rp) (c:Nat):Prop where
 ok:Ok R'
 sv:Rp.SvI R'
 rc:Rp.RcI R'
 n:R'.n=R.n
 id:R'.id=R.id
 mz:31*Rp.mz R+R'.out.length≤31*Rp.mz R'+c
 sil:R'.status=3→∀ x∈R'.out,Rp.l5 x.2
theorem D9 {R R':Rp} (h:Ok R) (hs:Rp.SvI R) (hz:Rp.RcI R) (ho:R.out=[]) (hR:R'=R∨∃ P,Rp.MOk R.n P∧R'=R.take P):ActP R R' 1:=by
 rcases hR with rfl|⟨P,c,rfl⟩
 ·exact⟨h,hs,hz,rfl,rfl,by rw[ho];simp,fun _=>by rw[ho];simp⟩
 ·have k:=Rp.NY h c;have q:=Rp.Oq h hz c;refine⟨k.ok,q.sv hs,q.rci hz,k.n,k.id,?_,fun e=>?_⟩
  ·have d:=k.out;rw[ho] at d;simp at d;rcases q.adv with a|⟨a,b⟩
   ·omega
   ·rw[ho] at b;simp at b;omega
  ·rw[(q.rc e).2.2.2.2.2,ho];simp
theorem KX {R:Rp} (h:Ok R) (hs:Rp.SvI R) (hz:Rp.RcI R) (ho:R.out=[]):ActP R R.lu 50:=by
 have k:=Rp.NW h;have q:=Rp.Jl (r:=R);refine⟨k.ok,q.sv hs,q.rci hz,k.n,k.id,?_,fun b=>Rp.Eb ho b⟩
 have a:=k.out;have:=q.mz
 rw[ho] at a;simp at a;omega
theorem D8 {R:Rp} (h:Ok R) (hs:Rp.SvI R) (hz:Rp.RcI R) (ho:R.out=[]):ActP R R.suspect 50:=by
 have k:=Rp.Gi h;have q:=Rp.AU h;refine⟨k.ok,q.sv hs,q.rci hz,k.n,k.id,?_,fun b=>by rw[Rp.AP h ho b];simp⟩
 have a:=k.out;have:=q.mz
 rw[ho] at a;simp at a;omega
def EP:List Nod→Nat
 | []=>0
 | x :: l=>(6655000-Rp.mz x.R)+EP l
theorem Ab:∀ (l:List Nod) (q:Nat) (x x':Nod),l[q]? = some x→EP (l.set q x')+(6655000-Rp.mz x.R)=EP l+(6655000-Rp.mz x'.R)
 | [],_,_,_,h=>by simp at h
 | a :: l,0,x,x',h=>by simp at h;subst h;simp only[List.set_cons_zero,EP];omega
 | a :: l,q+1,x,x',h=>by
  have:=Ab l q x x' (by simpa using h)
  simp only[List.set_cons_succ,EP];omega
theorem IW:∀ l:List Nod,EP l≤6655000*l.length
 | []=>Nat.le_refl _
 | a :: l=>by have:=IW l;simp only[EP,List.length_cons];omega
def dS (K:Kw):Nat:=K.net.length+K.wishes.length+31*EP K.nds+206305000*(999-K.lives.toNat)
theorem jQ (K:Kw):K.net.length≤dS K:=by unfold dS;omega
theorem JX (K:Kw):K.wishes.length≤dS K:=by unfold dS;omega
def tQ (p:Int):Prop:=p=0∨p=16∨p=32
structure NI (n:Int) (q:Nat) (x:Nod):Prop where
 ok:Ok x.R
 sv:Rp.SvI x.R
 rc:Rp.RcI x.R
 ou:x.R.out=[]
 vt:x.V.vt=Y O 0 0
 id:x.R.id=q
 n:x.R.n=n
structure wT (x:ku):Prop where
 n1:1≤x.e.2.1
 n9:x.e.2.1≤999
 o1:1≤x.e.2.2.size
 o9:x.e.2.2.size≤9
 t1:1≤x.text.size
structure KI (K:Kw):Prop where
 sz:KSz K
 part:tQ K.part
 nod:∀ (q:Nat) (x:Nod),K.nds[q]? = some x→NI K.n q x
 net:∀ p∈K.net,-9≤p.2.1∧p.2.1<K.n∧0<p.2.2.size
 wish:∀ x∈K.wishes,wT x
 opn:∀ v∈K.opn,-1≤v∧v<(K.wishes.length:Int)
 list:oD K.n K.list
 grps:∀ t∈K.groups,bK t.data.toList K.n=true
 li:0≤K.lives∧K.lives≤999
 gl:K.groups.length≤K.list.length+1
def Gr (K:Kw):Prop:=CI K
theorem Gr.ep {K:Kw} (h:Gr K):∀ x∈K.nds,x.R.status=3∨x.R.epoch<(K.groups.length:Int):=fun x b=>by
 by_cases a:x.R.status=3
 ·exact .inl a
 ·have:=((CI.nd h x b).1.gp a).1
  have c:=(CI.gi h).len;exact .inr (by omega)
section
variable {N:Nat} {w w':World} {g:Nat} {K K':Kw} {V V':Kv}
theorem KI.log (h:KI K):∀ x∈K.nds,x.R.log.length≤1000:=fun x hx=>by
 obtain⟨q,hq⟩:=List.getElem?_of_mem hx
 have:=(h.nod q x hq).ok.lg
 omega
theorem KI.ep (h:KI K):∀ x∈K.nds,0≤x.R.epoch∧x.R.epoch≤1000:=fun x hx=>by
 obtain⟨q,hq⟩:=List.getElem?_of_mem hx
 have:=(h.nod q x hq).ok.ep
 omega
theorem KI.gsz (h:KI K):∀ t∈K.groups,t.size=3∨t.size=5:=fun t ht=>by
 have hl:=jJ (h.grps t ht);have e:t.data.toList.length=t.size:=by rw[Array.length_toList];rfl
 omega
theorem KI.opsz (h:KI K):∀ e∈K.list,KR e.2.2:=fun e he=>(oI (h.list.2 e he).2.2.2.2.1).sz
theorem KI.fails (h:KI K) {p:Int} (hp:tQ p):KI { K with part:=p }:=⟨⟨h.sz.n3,h.sz.n7,h.sz.nds,h.sz.down,h.sz.begun,h.sz.opn⟩,hp,h.nod,h.net,h.wish,h.opn,h.list,h.grps,h.li,h.gl⟩
theorem KI.post (h:KI K) (f t:Int) (s:ByteArray) (h1 : -9≤t∧t<K.n) (h2:0<s.size):KI { K with net:=K.net++[(f,t,s)] }:=⟨⟨h.sz.n3,h.sz.n7,h.sz.nds,h.sz.down,h.sz.begun,h.sz.opn⟩,h.part,h.nod,fun p a=>by
 rcases List.mem_append.1 a with q|q
 ·exact h.net p q
 ·simp at q;subst q;exact⟨h1.1,h1.2,h2⟩,h.wish,h.opn,h.list,h.grps,h.li,h.gl⟩
theorem Cm (f t:Int) (s:ByteArray):dS { K with net:=K.net++[(f,t,s)] }=dS K+1:=by
 unfold dS;simp only[List.length_append,List.length_cons,List.length_nil];omega
theorem KI.gone (h:KI K) (k:Nat):KI { K with net:=K.net.take k++K.net.drop (k+1) }:=⟨⟨h.sz.n3,h.sz.n7,h.sz.nds,h.sz.down,h.sz.begun,h.sz.opn⟩,h.part,h.nod,fun p a=>by
 rcases List.mem_append.1 a with q|q
 ·exact h.net p (List.mem_of_mem_take q)
 ·exact h.net p (List.mem_of_mem_drop q),h.wish,h.opn,h.list,h.grps,h.li,h.gl⟩
theorem Ck {k:Nat} (hk:k<K.net.length):dS { K with net:=K.net.take k++K.net.drop (k+1) }+1=dS K:=by
 unfold dS;simp only[List.length_append,List.length_take,List.length_drop];omega
structure StP (N:Nat) (w w':World) (g:Nat) (K:Kw) (V:Kv) (c:Nat) (b:Bool) (K':Kw) (V':Kv):Prop where
 kst:Kst N w w' g K V K' V'
 ki:KI K'
 ms:dS K'≤dS K+c
 net:K.net.length≤K'.net.length
 n:K'.n=K.n
 gr:b=true→Gr K'
def StE (N:Nat) (w w':World) (g:Nat) (K:Kw) (V:Kv) (c:Nat) (e:Ending):Prop:=∃ b K' V',e=Zr (.bool b)∧StP N w w' g K V c b K' V'
end
def gG:List ku→Nat→List ku
 | [],_=>[]
 | x :: l,0=>{ x with bad:=true } :: l
 | x :: l,k+1=>x :: gG l k
theorem qz:∀ (l:List ku) (k:Nat),(gG l k).length=l.length
 | [],_=>rfl
 | x :: l,0=>rfl
 | x :: l,k+1=>by simp[gG,qz l k]
theorem vZ:∀ (l:List ku) (k:Nat),k<l.length→bT (gG l k)=(bT l).set (6*k+5) (.bool true)
 | [],_,h=>by simp at h
 | x :: l,0,_=>rfl
 | x :: l,k+1,h=>by
  have:=vZ l k (by simpa using h)
  have e:6*(k+1)+5=(6*k+5)+1+1+1+1+1+1:=by omega
  rw[e];simp only[gG,bT,List.set_cons_succ,this]
theorem Cy:∀ (l:List ku) (k:Nat),(∀ x∈l,wT x)→∀ x∈gG l k,wT x
 | [],_,_,x,hx=>by simp[gG] at hx
 | y :: l,0,h,x,hx=>by
  rcases List.mem_cons.1 hx with rfl|hx
  ·have:=h y (by simp);exact⟨this.n1,this.n9,this.o1,this.o9,this.t1⟩
  ·exact h x (by simp[hx])
 | y :: l,k+1,h,x,hx=>by
  rcases List.mem_cons.1 hx with rfl|hx
  ·exact h _ (by simp)
  ·exact Cy l k (fun x hx=>h x (by simp[hx])) x hx
theorem KI.bad {K:Kw} (h:KI K) (k:Nat):KI { K with wishes:=gG K.wishes k } :=
 ⟨⟨h.sz.n3,h.sz.n7,h.sz.nds,h.sz.down,h.sz.begun,h.sz.opn⟩,h.part,h.nod,h.net,Cy _ k h.wish,fun v a=>by rw[qz];exact h.opn v a,h.list,h.grps,h.li,h.gl⟩
theorem LY (K:Kw) (k:Nat):dS { K with wishes:=gG K.wishes k }=dS K:=by unfold dS;simp only[qz]
theorem Oc (l:List En) (op:ByteArray):(pW l op).size≤10:=by
 unfold pW;have b:OKb.size=2:=rfl
 have c:NOb.size=2:=rfl
 have d:qG.size=1:=rfl
 have a:∀ x,(mJ x).size=1:=fun x=>rfl
 repeat' split
 all_goals (first|omega|(rw[a];omega))
section
variable {N:Nat} {w w':World} {g:Nat} {K K':Kw} {V V':Kv}
theorem qg {e:TypeId} {s n:Nat} {v:Value} {xs:List Value} (h:w.ownsRow 0 e s v n xs) (hn:0<n):∃ b cap,v=Y (some ⟨b,0,O⟩) n cap∧b<w.heap.size:=by
 rcases h.2 with ⟨_,h2⟩|⟨b,cap,cur,rfl,_,hb,_⟩
 ·omega
 ·exact⟨b,cap,rfl,lt_of_block hb⟩
theorem KAt.setRow (h:KAt N w g K V) {i:Nat} {r:Row} (hi:(fC K V)[i]? = some r) {b cap:Nat} (hv:r.v=Y (some ⟨b,0,O⟩) r.n cap) (j:Nat) (u:Value)
  (hc:mg K' V=mg K V) (hr:fC K' V=(fC K V).set i { r with xs:=r.xs.set j u }) (hn:K'.nds=K.nds):Kst N w (w.setCell ⟨b,j,O⟩ u) g K V K' V:=by
 have a:=h.rows r (List.mem_of_getElem? hi);rw[hv] at a;have c:=a.stored j u;refine h.inRow hi (r':={ r with xs:=r.xs.set j u }) ?_ ?_ rfl hc hr hn
 ·rw[hv];exact Kp.row c.2
 ·show (w.setCell ⟨b,j,O⟩ u).ownsRow 0 r.e r.s r.v r.n (r.xs.set j u)
  rw[hv];exact c.1
theorem KAt.fz (h:KAt N w g K V) {i:Nat} {r:Row} (hi:(fC K V)[i]? = some r) {b cap:Nat} (hv:r.v=Y (some ⟨b,0,O⟩) r.n cap) (j:Nat):w.frozen? ⟨b,j,O⟩=false:=by
 have ho:=h.rows r (List.mem_of_getElem? hi);rw[hv] at ho;exact ho.frozenAt j
theorem KAt.gG (h:KAt N w g K V) {b cap:Nat} (hv:V.vW=Y (some ⟨b,0,O⟩) K.wishes.length cap) (k:Nat) (hk:k<K.wishes.length):Kst N w (w.setCell ⟨b,k*6+5,O⟩ (.bool true)) g K V { K with wishes:=gG K.wishes k } V :=
 h.setRow (i:=4) (r:=⟨99,6,V.vW,K.wishes.length,bT K.wishes⟩) rfl hv (k*6+5) (.bool true) rfl (by unfold fC;simp only[qz,vZ _ k hk,Nat.mul_comm 6 k];rfl) rfl
def LMt (K:Kw) (c:Int) (t:ByteArray) (k:Nat):Prop:=∃ h:k<K.list.length,K.list[k].1=c∧t=⟨#[121,32]⟩++dg c++⟨#[32]⟩++dg K.list[k].2.1++⟨#[32]⟩++pW (K.list.take k) K.list[k].2.2
def WMt (K:Kw) (c:Int) (t:ByteArray) (k:Nat):Prop:=∃ h:k<K.wishes.length,K.wishes[k].e.1=c∧b0 K.wishes[k].e.2.2=114∧t=⟨#[121,32]⟩++dg c++⟨#[32]⟩++dg K.wishes[k].e.2.1++⟨#[32,98,97,100]⟩
def AnsP (N:Nat) (w w':World) (g:Nat) (K:Kw) (V:Kv) (c:Int) (t:ByteArray) (e:Ending):Prop:=∃ b K',e=Zr (.bool b)∧Kst N w w' g K V K' V∧((b=true∧(K'=K∨∃ k,WMt K c t k∧(∀ j,¬LMt K c t j)∧K'={ K with wishes:=gG K.wishes k }))∨(b=false∧K'={ K with part:=4 }∧(∀ k,¬LMt K c t k)∧∀ k,¬WMt K c t k))
theorem Nk {a b:ByteArray}:(a.toList==b.toList)=true↔a=b:=by
 rw[ByteArray.toList_eq,ByteArray.toList_eq,beq_iff_eq];exact⟨fun h=>by cases a;cases b;simp only[ByteArray.mk.injEq];exact Array.toList_inj.1 h,fun h=>by rw[h]⟩
theorem PI {a b:ByteArray}:(a.toList==b.toList)=false↔a≠b:=by
 cases h:(a.toList==b.toList)
 ·exact⟨fun _ q=>(by rw[Nk.2 q] at h;cases h),fun _=>rfl⟩
 ·exact⟨fun q=>absurd q (by decide),fun q=>absurd (Nk.1 h) q⟩
theorem Ew (h:KAt N w g K V) (hi:KI K) (c:Int) (hc0:1≤c) (hc1:c≤9) (t:ByteArray) :
  Calls Tryz.prog 109 #[Zp (some ⟨g,0,O⟩),I J c,Z t] w fun e w'=>AnsP N w w' g K V c t e:=by
 obtain⟨aL,cL,ac⟩:=aj h.rL
 have M:=ah (h.cv 10 rfl ac);have HL:Hid (∀ a,Below w.heap.size w a→iw a (Y aL K.list.length cL) K.list):=fun a d=>by rw[← ac];exact (h.below d).eL
 obtain⟨aW,cW,A⟩:=aj h.rW
 have ad:=ah (h.cv 8 rfl A);have HW:Hid (∀ a,Below w.heap.size w a→kV a (Y aW K.wishes.length cW) K.wishes):=fun a d=>by rw[← A];exact (h.below d).eW
 have ap:Hid (∀ a,Below w.heap.size w a→Calls Tryz.prog 65 #[Zp (some ⟨g,0,O⟩),I J 4] a fun e w'=>e=Zr (.bool false)∧Kst N w w' g K V { K with part:=4 } V):=fun a d=>(uy (h.below d) 4).mono (by
  rintro e w3 ⟨rfl,k⟩;exact⟨rfl,((Kst.refl h).below d).trans k⟩)
 have HY:Hid (∀ a,Below w.heap.size w a→AnsP N w a g K V c t (Zr (.bool true))):=fun a d=>⟨true,K,rfl,(Kst.refl h).below d,.inl ⟨rfl,.inl rfl⟩⟩
 have aq:Hid (∀ a,Kst N w a g K V { K with part:=4 } V→(∀ j,j<K.list.length→¬LMt K c t j)→(∀ j,j<K.wishes.length→¬WMt K c t j)→AnsP N w a g K V c t (Zr (.bool false))):=fun a k E q2=>⟨false,_,rfl,k,.inr ⟨rfl,rfl,fun j v=>E j v.1 v,fun j v=>q2 j v.1 v⟩⟩
 have ae:Hid (∀ a,Below w.heap.size w a→∀ b,aW=some ⟨b,0,O⟩→∀ k,(f:k<K.wishes.length)→WMt K c t k→(∀ j,j<K.list.length→¬LMt K c t j)→AnsP N w (a.setCell ⟨b,k*6+5,O⟩ (.bool true)) g K V c t (Zr (.bool true))):=fun a d b hb k f hm hl=>by
  subst hb;exact⟨true,_,rfl,((Kst.refl h).below d).trans ((h.below d).gG A k f),.inl ⟨rfl,.inr ⟨k,hm,fun j v=>hl j v.1 v,rfl⟩⟩⟩
 have ar:Hid (∀ a,Below w.heap.size w a→∀ b,aW=some ⟨b,0,O⟩→∀ j,a.frozen? ⟨b,j,O⟩=false):=fun a d b hb j=>by
  subst hb;exact (h.below d).fz (i:=4) (r:=⟨99,6,V.vW,K.wishes.length,bT K.wishes⟩) rfl A j
 have HA:Hid (0<K.wishes.length→∃ b,aW=some ⟨b,0,O⟩∧b<w.heap.size):=fun hp=>by
  obtain⟨b,bb,e,hb⟩:=qg h.rW hp
  rw[A] at e;cases e;exact⟨b,rfl,hb⟩
 have av:Hid (∀ a,Calls Tryz.prog 30 #[I J c] a fun e w'=>e=Zr (Z (dg c))∧Below a.heap.size a w'):=fun a=>gQ c a (by omega) (by omega)
 have sc:=gu c (by omega)
 have aw:Hid (∀ k,(f:k<K.list.length)→(∀ a,Calls Tryz.prog 30 #[I J K.list[k].2.1] a fun e w'=>e=Zr (Z (dg K.list[k].2.1))∧Below a.heap.size a w')∧(dg K.list[k].2.1).size≤10):=fun k f=>by
  obtain⟨_,_,E,q2,_⟩:=hi.list.2 _ (List.getElem_mem f)
  exact⟨fun a=>gQ _ a (by omega) (by omega),gu _ (by omega)⟩
 have af:Hid (∀ (k:Nat) (f:k<K.list.length) a,Below w.heap.size w a→Calls Tryz.prog 147 #[Zp (some ⟨g,0,O⟩),I J k] a fun e w'=>e=Zr (Z (pW (K.list.take k) K.list[k].2.2))∧Below a.heap.size a w'):=fun k f a d=>yg (h.below d) k f hi.opsz
 have ax:Hid (∀ (k:Nat) (f:k<K.list.length),(pW (K.list.take k) K.list[k].2.2).size≤10):=fun k f=>Oc _ _
 have az:Hid (∀ k,(f:k<K.wishes.length)→(∀ a,Calls Tryz.prog 30 #[I J K.wishes[k].e.2.1] a fun e w'=>e=Zr (Z (dg K.wishes[k].e.2.1))∧Below a.heap.size a w')∧(dg K.wishes[k].e.2.1).size≤10∧1≤K.wishes[k].e.2.2.size):=fun k f=>by
  have q:=hi.wish _ (List.getElem_mem f);exact⟨fun a=>gQ _ a (by have:=q.n1;omega) (by have:=q.n9;omega),gu _ (by have:=q.n9;omega),q.o1⟩
 have bc:=hi.list.1;have bd:K.wishes.length≤9223372036854775807:=by
  obtain⟨_,_,_,E,q2⟩:=h.eW.shape
  omega
 have Q:Hid (∀ (k:Nat) (f:k<K.list.length),K.list[k].1≠c→¬LMt K c t k):=fun k f B ⟨_,R,_⟩=>B R
 have S:Hid (∀ (k:Nat) (f:k<K.list.length),(t.toList==(⟨#[121,32]⟩++dg c++⟨#[32]⟩++dg K.list[k].2.1++⟨#[32]⟩++pW (K.list.take k) K.list[k].2.2).toList)=false→¬LMt K c t k):=fun k f B ⟨_,_,h3⟩=>PI.1 B h3
 have ai:Hid (∀ (k:Nat) (f:k<K.wishes.length),K.wishes[k].e.1=c→b0 K.wishes[k].e.2.2=114→(t.toList==(⟨#[121,32]⟩++dg c++⟨#[32]⟩++dg K.wishes[k].e.2.1++⟨#[32,98,97,100]⟩).toList)=true→WMt K c t k):=fun k f B R h3=>⟨f,B,R,Nk.1 h3⟩
 have ak:Hid (∀ (k:Nat) (f:k<K.wishes.length),K.wishes[k].e.1≠c→¬WMt K c t k):=fun k f B ⟨_,R,_⟩=>B R
 have al:Hid (∀ (k:Nat) (f:k<K.wishes.length),b0 K.wishes[k].e.2.2≠114→¬WMt K c t k):=fun k f B ⟨_,_,R,_⟩=>B R
 have am:Hid (∀ (k:Nat) (f:k<K.wishes.length),(t.toList==(⟨#[121,32]⟩++dg c++⟨#[32]⟩++dg K.wishes[k].e.2.1++⟨#[32,98,97,100]⟩).toList)=false→¬WMt K c t k):=fun k f B ⟨_,_,_,h3⟩=>PI.1 B h3
 clear h hi;generalize LMt K c t=LM at *;generalize WMt K c t=WM at *;generalize dg c=dc at *;have z1:¬9223372036854775807<2+dc.size:=by omega
 have z2:¬9223372036854775807<2+dc.size+1:=by omega
 go_enter Tryz.func109,Tryz.ntmps109;go_wp2_with fail;refine (av.out _).mono ?_;rintro e w1 ⟨rfl,a0⟩;go_wp2_with fail;go_loopw [8] (fun i wr=>∃ k:Nat,k≤K.list.length∧i=I J k∧Below w.heap.size w wr∧∀ j,j<k→¬LM j) (fun i _=>K.list.length-(intOf i).toNat)
 case atStart=>exact⟨0,Nat.zero_le _,rfl,a0,fun j v=>by omega⟩
 case round =>
  obtain⟨k,f,rfl,C,F⟩:=hrel
  have c10:=M.out _ C;by_cases s:k<K.list.length
  ·obtain⟨an,o1,rfl,_,d1,d2,d3⟩:=(HL.out _ C).get k s
   have j1:(0:Int)≤(k:Int):=by omega
   have j2:(k:Int)<(K.list.length:Int):=by omega
   obtain⟨E,q2⟩:=aw.out k s
   have T:=ah E;clear E;have a1:Hid (∀ a,Below w.heap.size w a→Calls Tryz.prog 147 #[Zp (some ⟨g,0,O⟩),I J k] a fun e w'=>e=Zr (Z (pW (K.list.take k) K.list[k].2.2))∧Below a.heap.size a w'):=af.out k s
   have q3:=ax.out k s;have a2:Hid (∀ a,Below w.heap.size w a→a.cell? ⟨g,10,O⟩=some (Y (some ⟨an,o1,O⟩) K.list.length cL)∧a.cell? ⟨an,o1+k*3,O⟩=some (I J K.list[k].1)):=fun a d=>by
    obtain⟨b2,o2,e2,_,f1,_⟩:=(HL.out _ d).get k s
    cases e2;exact⟨M.out _ d,f1⟩
   have U:=ah (Q.out k s);have W:=ah (S.out k s);have y:Hid (¬LM k→∀ j,j<k+1→¬LM j):=fun p j v=>by
    by_cases e:j=k
    ·subst e;exact p
    ·exact F j (by omega)
   clear Q S F;generalize K.list[k].1=P at *;generalize K.list[k].2.1=nu at *;generalize pW (K.list.take k) K.list[k].2.2=rs at *;generalize dg nu=dn at *;have z3:¬9223372036854775807<2+dc.size+1+dn.size:=by omega
   have z4:¬9223372036854775807<2+dc.size+1+dn.size+1:=by omega
   have z5:¬9223372036854775807<2+dc.size+1+dn.size+1+rs.size:=by omega
   go_wp2_with fail;refine (T.out _).mono ?_;rintro e a ⟨rfl,a3⟩;have X:Below w.heap.size w a:=C.trans (a3.mono C.size)
   go_wp2_with fail;refine (a1.out _ X).mono ?_;rintro e w3 ⟨rfl,D⟩;have G:Below w.heap.size w w3:=X.trans (D.mono X.size)
   obtain⟨f1,f2⟩:=a2.out _ G
   clear c10 d1 d2 d3;by_cases p:P=c
   ·have aa:(P==c)=true:=beq_iff_eq.2 p
    clear p;go_wp2_with fail
    ·go_ret;exact HY.out _ G
    ·rename_i hte;have n:=y.out (W.out hte);go_roundw
     case rel=>exact⟨k+1,by omega,by go_num,G,n⟩
     case measure=>simp[intOf];omega
   ·have aa:(P==c)=false:=beq_eq_false_iff_ne.2 p
    have n:=y.out (U.out p);clear p;go_wp2;go_roundw
    case rel=>exact⟨k+1,by omega,by go_num,G,n⟩
    case measure=>simp[intOf];omega
  ·obtain⟨wL,a4⟩:∃ x,x=wr:=⟨_,rfl⟩
   subst a4;have ao:Hid (∀ j,j<K.list.length→¬LM j):=fun j v=>F j (by omega)
   clear F Q S;go_wp2_with fail;go_loopw [11] (fun i wr=>∃ k:Nat,k≤K.wishes.length∧i=I J k∧Below w.heap.size w wr∧∀ j,j<k→¬WM j) (fun i _=>K.wishes.length-(intOf i).toNat)
   case atStart=>exact⟨0,Nat.zero_le _,rfl,C,fun j v=>by omega⟩
   case round =>
    obtain⟨m,hm,rfl,z,H⟩:=hrel
    have c8:=ad.out _ z;by_cases o:m<K.wishes.length
    ·obtain⟨bW,rfl,be⟩:=HA.out (by omega)
     obtain⟨b2,o2,a5,_,d1,d2,d3,_⟩:=(HW.out _ z).get m o
     cases a5;simp only[Nat.zero_add] at d1 d2 d3;obtain⟨E,q2,q3⟩:=az.out m o
     have T:=ah E;clear E;have j1:(0:Int)≤(m:Int):=by omega
     have j2:(m:Int)<(K.wishes.length:Int):=by omega
     have a6:=ah (ai.out m o);have U:=ah (ak.out m o);have W:=ah (al.out m o);have a7:=ah (am.out m o);have y:Hid (¬WM m→∀ j,j<m+1→¬WM j):=fun p j v=>by
      by_cases e:j=m
      ·subst e;exact p
      ·exact H j (by omega)
     clear ai ak al am H;generalize K.wishes[m].e.1=P at *;generalize K.wishes[m].e.2.1=nu at *;generalize K.wishes[m].e.2.2=op at *;generalize dg nu=dn at *;have z3:¬9223372036854775807<2+dc.size+1+dn.size:=by omega
     have z4:¬9223372036854775807<2+dc.size+1+dn.size+4:=by omega
     go_wp2_with fail;refine (T.out _).mono ?_;rintro e w4 ⟨rfl,D⟩;have u:Below w.heap.size w w4:=(z.alloc z.size _).trans (D.mono (by have:=z.size;simp;omega))
     have hx:=(D.block wr.heap.size (by simp)).trans (heap_alloc_new wr _)
     have e0:w4.cell? ⟨wr.heap.size,0,O⟩=some (I J P):=by simp[World.cell?,hx]
     have e1:w4.cell? ⟨wr.heap.size,1,O⟩=some (I J nu):=by simp[World.cell?,hx]
     have e2:w4.cell? ⟨wr.heap.size,2,O⟩=some (Z op):=by simp[World.cell?,hx]
     have bg:=ad.out _ u
     have fz:=ar.out _ u bW rfl (m*6+5);obtain⟨b3,o3,e3,_,_,_,_,_,_,d6⟩:=(HW.out _ u).get m o
     cases e3;simp only[Nat.zero_add] at d6;have j3:(0:Int)<(op.size:Int):=by omega
     clear hx d1 d2 d3 c8 D;by_cases p:P=c
     ·have aa:(P==c)=true:=beq_iff_eq.2 p
      have a8:=ah p;clear p;have L:b0 op=(op[0].toNat:Int):=by unfold b0;rw[atS (by omega)]
      by_cases l:(op[0].toNat:Int)=114
      ·have ab:((op[0].toNat:Int)==114)=true:=beq_iff_eq.2 l
       have a9:=ah (L.trans l);clear l L;go_wp2_with fail
       ·rename_i hte;have hm:=a6.out a8.out a9.out hte;go_ret;exact ae.out _ u bW rfl m o hm ao.out
       ·rename_i hte;have n:=y.out (a7.out hte);go_roundw
        case rel=>exact⟨m+1,by omega,by go_num,u,n⟩
        case measure=>simp[intOf];omega
      ·have ab:((op[0].toNat:Int)==114)=false:=beq_eq_false_iff_ne.2 l
       have n:=y.out (W.out (by rw[L];exact l))
       clear l L;go_wp2;go_roundw
       case rel=>exact⟨m+1,by omega,by go_num,u,n⟩
       case measure=>simp[intOf];omega
     ·have aa:(P==c)=false:=beq_eq_false_iff_ne.2 p
      have n:=y.out (U.out p);clear p;go_wp2;go_roundw
      case rel=>exact⟨m+1,by omega,by go_num,u,n⟩
      case measure=>simp[intOf];omega
    ·have ba:Hid (∀ j,j<K.wishes.length→¬WM j):=fun j v=>H j (by omega)
     clear H;go_wp2_with fail;refine (ap.out _ z).mono ?_;rintro e a ⟨rfl,k2⟩;go_wp2;go_ret;exact aq.out _ k2 ao.out ba.out
end
section
variable {N:Nat} {w w':World} {g:Nat} {K K':Kw} {V V':Kv}
theorem GL (h:KAt N w g K V) (z:KSz K) (he:∀ x∈K.nds,0≤x.R.epoch∧x.R.epoch≤1000) (hlog:∀ x∈K.nds,x.R.log.length≤1000) (hg:∀ t∈K.groups,t.size≤1000000) :
  Calls Tryz.prog 68 #[Zp (some ⟨g,0,O⟩)] w fun e w'=>sZ w w' e:=by
 have l:=z.opn;obtain⟨v,y,f⟩:=aj h.rO
 have m:=ah (fun (d:World) (c:Below w.heap.size w d)=>KAt.opn h f c)
 have j:=ah (h.cv 9 rfl f);have n:Hid (∀ d,Below w.heap.size w d→Calls Tryz.prog 112 #[Zp (some ⟨g,0,O⟩)] d fun e w'=>sZ d w' e):=fun d c=>ED (h.below c) z he hlog hg
 clear h z he hlog hg;go_enter Tryz.func68,Tryz.ntmps68;go_wp2_with fail;go_loopw [3] (fun i wr=>∃ k:Nat,1≤k∧k≤10∧i=I J k∧Below w.heap.size w wr) (fun i _=>10-(intOf i).toNat)
 case atStart=>exact⟨1,by omega,by omega,rfl,Below.refl _ _⟩
 case round =>
  obtain⟨k,o,A,rfl,a⟩:=hrel
  by_cases p:k<10
  ·obtain⟨B,C,rfl,q,D⟩:=m.out _ a k (by omega)
   have c9:=j.out _ a;have E:(0:Int)≤(k:Int):=by omega
   have F:(k:Int)<(K.opn.length:Int):=by omega
   have r:(k:Int)≤9:=by omega
   generalize K.opn[k]=s at *;by_cases G:(0:Int)≤s
   ·go_wp2;go_ret;exact⟨_,rfl,a⟩
   ·go_wp2;go_roundw
    case rel=>exact⟨k+1,by omega,by omega,by go_num,a⟩
    case measure=>simp[intOf];omega
  ·have r:¬(k:Int)≤9:=by omega
   go_wp2_with fail;refine (n.out _ a).mono ?_;rintro e H ⟨b,rfl,u⟩;go_wp2;go_ret;exact⟨_,rfl,a.trans (u.mono a.size)⟩
end
def amB (s:ByteArray) (q:Int):Bool:=s.data.toList.any (fun c=>((c.toNat:Int)-48) % 256==q)
theorem Nv {s:ByteArray} {q:Int} {k:Nat} (hk:k<s.size):(s.data.toList.take (k+1)).any (fun c=>((c.toNat:Int)-48) % 256==q)=((s.data.toList.take k).any (fun c=>((c.toNat:Int)-48) % 256==q)||(((s[k].toNat:Int)-48) % 256==q)):=by
 have a:k<s.data.toList.length:=by rw[Array.length_toList];exact hk
 rw[List.take_succ_eq_append_getElem a,List.any_append];have e:s.data.toList[k]=s[k]:=by simp;rfl
 rw[e];simp
theorem Ev (s:ByteArray) (q:Int) (w:World) (hs:s.size≤1000000000) :
  Calls Tryz.prog 55 #[Z s,I J q] w fun e w'=>e=Zr (.bool (amB s q))∧w'=w:=by
 have g:Hid (∀ k,(a:k<s.size)→(((s[k].toNat:Int)-48) % 256==q)=true→amB s q=true):=fun k a h=>by
  unfold amB;rw[List.any_eq_true];have m:k<s.data.toList.length:=by rw[Array.length_toList];exact a
  have e:s.data.toList[k]=s[k]:=by simp;rfl
  exact⟨s.data.toList[k],List.getElem_mem m,by rw[e];exact h⟩
 have j:Hid ((s.data.toList.take s.size).any (fun c=>((c.toNat:Int)-48) % 256==q)=amB s q):=by
  unfold Hid amB;rw[List.take_of_length_le (by rw[Array.length_toList];exact Nat.le_refl _)]
 have l:Hid (∀ k,(a:k<s.size)→(s.data.toList.take k).any (fun c=>((c.toNat:Int)-48) % 256==q)=false→(((s[k].toNat:Int)-48) % 256==q)=false→(s.data.toList.take (k+1)).any (fun c=>((c.toNat:Int)-48) % 256==q)=false):=fun k a n o=>by rw[Nv a,n,o];rfl
 go_enter Tryz.func55,Tryz.ntmps55;go_wp2_with fail;go_loopw [5] (fun i wr=>∃ k:Nat,k≤s.size∧i=I J k∧wr=w∧(s.data.toList.take k).any (fun c=>((c.toNat:Int)-48) % 256==q)=false) (fun i _=>s.size-(intOf i).toNat)
 case atStart=>exact⟨0,Nat.zero_le _,rfl,rfl,rfl⟩
 case round =>
  obtain⟨k,a,rfl,d,f⟩:=hrel
  subst d;by_cases b:k<s.size
  ·have p:(0:Int)≤(k:Int):=by omega
   have r:(k:Int)<(s.size:Int):=by omega
   go_wp2_with fail
   ·rename_i hq;have:=g.out k b hq
    go_ret;exact⟨by rw[this];rfl,rfl⟩
   ·rename_i hq;have:=l.out k b f hq
    go_roundw
    case rel=>exact⟨k+1,by omega,by go_num,trivial,this⟩
    case measure=>simp[intOf];omega
  ·have e:amB s q=false:=by rw[← j.out,← (show k=s.size by omega)];exact f
   clear g l j f;go_wp2;go_ret;exact⟨by rw[e];rfl,rfl⟩
theorem Jm (l:List Int):txt l=lC l:=by
 unfold txt lC;have:∀ k,k≤l.length→(l.take k).foldl (fun t x=>t++dg x) Ze=kP l k:=fun k=>by
  induction k with
  | zero=>intro _;simp[kP];rfl
  | succ k ih =>
   intro hk;have a:k<l.length:=by omega
   rw[List.take_succ_eq_append_getElem a,List.foldl_append,ih (by omega)]
   have e:l.getD k 0=l[k]:=by rw[List.getD_eq_getElem?_getD,List.getElem?_eq_getElem a];rfl
   show kP l k++dg l[k]=kP l k++dg (l.getD k 0)
   rw[e]
 have:=this l.length (Nat.le_refl _)
 rwa [List.take_length] at this
theorem PW {g:List Int} (h:∀ x∈g,0≤x∧x<10) (q:Int):amB (lC g) q=gW g q:=by
 unfold amB gW;rw[uK h,List.any_map];rw[Bool.eq_iff_iff,List.any_eq_true,List.any_eq_true]
 constructor
 ·rintro⟨x,hx,e⟩
  refine⟨x,hx,?_⟩
  have b:=h x hx;have a:(UInt8.ofNat (48+x.toNat)).toNat=48+x.toNat:=u8n _ (by omega)
  simp only[Function.comp,a,beq_iff_eq] at e ⊢;omega
 ·rintro⟨x,hx,e⟩
  refine⟨x,hx,?_⟩
  have b:=h x hx;have a:(UInt8.ofNat (48+x.toNat)).toNat=48+x.toNat:=u8n _ (by omega)
  simp only[Function.comp,a,beq_iff_eq] at e ⊢;omega
theorem EA (v:Value) (l:List (Int×Int×ByteArray)) (w:World) (hv:iw w v l) (hb:∀ x∈l,0<x.2.2.size) :
  Calls Tryz.prog 107 #[v] w fun e w'=>e=Zr (I J (regs l))∧Below w.heap.size w w':=by
 obtain⟨a,B,rfl,y,E⟩:=hv.shape
 have n:Hid (∀ k,(h:k<l.length)→0<(l[k].2.2).size):=fun k h=>hb _ (List.getElem_mem h)
 have o:Hid (∀ k,(h:k<l.length)→regs (l.take (k+1))=regs (l.take k)+(if b0 l[k].2.2=114 then 1 else 0)):=fun k h=>by
  rw[kH l k h];by_cases q:fA l[k]=true
  ·rw[if_pos q,if_pos (yZ.2 q)]
  ·rw[if_neg q,if_neg (fun z=>q (yZ.1 z))]
 have p:Hid (regs (l.take 0)=0):=by unfold Hid;rfl
 have r:Hid (regs (l.take l.length)=regs l):=by unfold Hid;rw[List.take_length]
 have c:Hid (∀ k,regs (l.take k)≤k):=fun k=>by have:=vQ (l.take k);rw[List.length_take] at this;omega
 generalize hrg:regs l=C at *;clear hrg;go_enter Tryz.func107,Tryz.ntmps107;go_wp2_with fail;go_loopw [3,4] (fun t i wr=>∃ k:Nat,k≤l.length∧i=I J k∧t=I J (regs (l.take k):Nat)∧Below w.heap.size w wr) (fun _ i _=>l.length-(intOf i).toNat)
 case atStart=>exact⟨0,Nat.zero_le _,rfl,by rw[p.out];rfl,Below.refl _ _⟩
 case round =>
  obtain⟨k,F,rfl,rfl,b⟩:=hrel
  have s:=c.out k;by_cases d:k<l.length
  ·obtain⟨b1,G,rfl,_,c1,c2,c3⟩:=(hv.below b).get k d
   have H:(0:Int)≤(k:Int):=by omega
   have K:(k:Int)<(l.length:Int):=by omega
   have D:=n.out k d;have g:=o.out k d;clear n o r p c;generalize l[k].2.2=j at *;have A:b0 j=(j[0].toNat:Int):=by unfold b0;rw[atS D]
   rw[A] at g;clear A;generalize regs (l.take k)=m at *;by_cases f:(j[0].toNat:Int)=114
   ·have u:((j[0].toNat:Int)==114)=true:=beq_iff_eq.2 f
    rw[if_pos f] at g;clear f;go_wp2;go_roundw
    case rel=>exact⟨k+1,by omega,by go_num,by rw[g];go_num,b⟩
    case measure=>simp[intOf];omega
   ·have u:((j[0].toNat:Int)==114)=false:=beq_eq_false_iff_ne.2 f
    rw[if_neg f] at g;clear f;go_wp2;go_roundw
    case rel=>exact⟨k+1,by omega,by go_num,by rw[g];rfl,b⟩
    case measure=>simp[intOf];omega
  ·have e:regs (l.take k)=C:=by rw[← r.out,show k=l.length by omega]
   rw[e] at s ⊢;clear r o p n c;go_wp2;go_ret;exact⟨rfl,b⟩
end Go.Proofs.YtinaollfjiddmaaGreatDoor
