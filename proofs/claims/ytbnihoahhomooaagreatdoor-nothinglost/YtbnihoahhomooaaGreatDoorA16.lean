import Derived.Test.YtbnihoahhomooaaGreatDoorA15
set_option maxRecDepth 100000
set_option maxHeartbeats 8000000
set_option linter.all false
namespace Go.Proofs.YtbnihoahhomooaaGreatDoor
open Go.Value renaming int→I,slice→Y,string→Z,pointer→Zp
open Go.Ending renaming returned→Zr
open _root_.ByteArray renaming empty→Ze
open Go.IntKind renaming i64→J
open Option renaming none→O
open Go.RowKit
structure Cs (L:List En) (T:Wt) (G:List ByteArray) (B:List Int) (r r':Rp):Prop where
 ok:Ok r'
 n:r'.n=r.n
 id:r'.id=r.id
 ri:RI L T G B r'
 sv:Rp.SvI r'
 dr:r'.status≠3→(regs (r'.log.take r'.decided):Int)≤r'.epoch
 out:∀ o∈r'.out,o∈r.out∨OI L T G B r.n r.id o
section
variable {L:List En} {T:Wt} {G:List ByteArray} {B:List Int} {r r1:Rp}
theorem RI.out (h:RI L T G B r1) (o:List (Int×ByteArray)):RI L T G B { r1 with out:=o }:=⟨h.jl,h.an,h.vo,h.me,h.gp,h.lg,h.st⟩
theorem yB (h:Ok r) {k:Int} (hk:0≤k∧k<128) (h1:k≠112) (h2:k≠107) (h3:k≠99) (h4:k≠118) (h5:k≠97) (h6:k≠115):dQ r.n (r.head k) :=
 ⟨hk.1,hk.2,h.i0,h.i1,h.ll,h.lb,h.ep.1,h.ep.2,h.vi.1,h.vi.2,by simp[Rp.head];omega,by simp[Rp.head];omega,by simp[Rp.head];omega,by simp[Rp.head];omega,by simp[Rp.head];omega,by simp[Rp.head];omega,by simp[Rp.head];omega,by simp[Rp.head];omega⟩
theorem Ac (h:Ok r):dQ r.n r.bf :=
  ⟨by simp [Rp.bf, Rp.head], by simp [Rp.bf, Rp.head], h.i0, h.i1, h.ll, h.lb, h.ep.1, h.ep.2, h.vi.1, h.vi.2, by simp [Rp.bf, Rp.head], by simp [Rp.bf, Rp.head], by simp [Rp.bf, Rp.head], by simp [Rp.bf, Rp.head], by simp [Rp.bf, Rp.head],
   fun _ => ⟨by simp [Rp.bf], by have := h.dc; simp [Rp.bf]; omega⟩, fun _ => ⟨h.lg, h.le⟩, fun _ => ⟨h.g, h.o⟩⟩
theorem Cs.put1 (c:Cs L T G B r r1) {o:Int×ByteArray} (ho:OI L T G B r.n r.id o):Cs L T G B r { r1 with out:=r1.out++[o] } :=
 ⟨c.ok,c.n,c.id,c.ri.out _,c.sv,c.dr,fun x hx=>by
  rcases List.mem_append.1 hx with q|q
  ·exact c.out x q
  ·simp at q;subst q;exact .inr ho⟩
theorem Cs.send (c:Cs L T G B r r1) {qt:Int} {P:Pm} (h0:0≤qt) (h1:qt<r.n) (h2:qt≠r.id) (hp:dQ r.n P) (hk:RK P.kind) (hf:P.frm=r.id) (hm:MI L T G B P):Cs L T G B r (r1.send qt P) :=
 c.put1 (.inl ⟨h0,h1,h2,P,rfl,hp,hk,hf,hm⟩)
theorem Cs.fI (c:Cs L T G B r r1) {g:List Int} (hg:fE r.n g) {P:Pm} (hp:dQ r.n P) (hk:RK P.kind) (hf:P.frm=r.id) (hm:MI L T G B P):Cs L T G B r (r1.fI g P) :=
 ⟨c.ok,c.n,c.id,c.ri.out _,c.sv,c.dr,fun x hx=>by
  rcases List.mem_append.1 hx with q|q
  ·exact c.out x q
  ·obtain⟨y,hy,rfl⟩:=List.mem_map.1 q
   obtain⟨hy1,hy2⟩:=List.mem_filter.1 hy
   refine .inr (.inl ⟨(hg.2 y hy1).1,(hg.2 y hy1).2,?_,P,rfl,hp,hk,hf,hm⟩);have:y≠r1.id:=by simpa using hy2
   rw[← c.id];exact this⟩
theorem Cs.pmk (c:Cs L T G B r r1) {P:Pm} (h:dQ r1.n P):dQ r.n P:=by rw[← c.n];exact h
theorem Cs.gk (c:Cs L T G B r r1) {g:List Int} (h:fE r1.n g):fE r.n g:=by rw[← c.n];exact h
theorem Cs.bare (c:Cs L T G B r r1) {qt k:Int} (h0:0≤qt) (h1:qt<r.n) (h2:qt≠r.id) (hk:k=104∨k=103∨k=114):Cs L T G B r (r1.bare qt k) :=
 c.send h0 h1 h2 (c.pmk (yB c.ok (by omega) (by omega) (by omega) (by omega) (by omega) (by omega) (by omega))) (by unfold RK;show k=_∨_;simp only[Rp.head];omega) c.id (MI.bare (by show k=_∨k=_∨k=_∨k=_∨k=_;omega))
theorem Cs.bareT (c:Cs L T G B r r1) {qt:Int} (h0:0≤qt) (h1:qt<r.n) (h2:qt≠r.id) (hb:r1.epoch≤B.getD r.id.toNat (-1)):Cs L T G B r (r1.bare qt 116) :=
 c.send h0 h1 h2 (c.pmk (yB c.ok (by omega) (by omega) (by omega) (by omega) (by omega) (by omega) (by omega))) (by unfold RK;simp[Rp.head]) c.id
  ⟨fun q=>by simp[Rp.head] at q,fun q=>by simp[Rp.head] at q,fun q=>by simp[Rp.head] at q,fun q=>by simp[Rp.head] at q,fun q=>by simp[Rp.head] at q,fun _=>by show r1.epoch≤B.getD r1.id.toNat (-1);rw[c.id];exact hb⟩
theorem Cs.bH (c:Cs L T G B r r1) (hb:r1.epoch≤B.getD r.id.toNat (-1)):Cs L T G B r r1.bH :=
 c.fI (c.gk c.ok.o) (c.pmk (yB c.ok (by omega) (by omega) (by omega) (by omega) (by omega) (by omega) (by omega))) (by unfold RK;simp[Rp.head]) c.id
  ⟨fun q=>by simp[Rp.head] at q,fun q=>by simp[Rp.head] at q,fun q=>by simp[Rp.head] at q,fun q=>by simp[Rp.head] at q,fun q=>by simp[Rp.head] at q,fun _=>by show r1.epoch≤B.getD r1.id.toNat (-1);rw[c.id];exact hb⟩
theorem Cs.call (c:Cs L T G B r r1):Cs L T G B r r1.call :=
 c.fI (c.gk c.ok.g) (c.pmk (yB c.ok (by omega) (by omega) (by omega) (by omega) (by omega) (by omega) (by omega))) (by unfold RK;simp[Rp.head]) c.id (MI.bare (by simp[Rp.head]))
theorem Cs.zP (c:Cs L T G B r r1) (hs:r1.status=1∨r1.status=2∨r1.status=5):MI L T G B r1.bf:=by
 have h3:r1.status≠3:=by omega
 refine⟨fun q=>by simp[Rp.bf,Rp.head] at q,fun q=>by simp[Rp.bf,Rp.head] at q,fun q=>by simp[Rp.bf,Rp.head] at q,fun _=>⟨c.ri.lg hs,(c.ri.gp h3).2,?_⟩,fun q=>by simp[Rp.bf,Rp.head] at q,fun q=>by simp[Rp.bf,Rp.head] at q⟩
 have:=c.dr h3
 simpa [Rp.bf,Rp.head] using this
theorem Cs.bS (c:Cs L T G B r r1) (hs:r1.status=1∨r1.status=2∨r1.status=5):Cs L T G B r r1.bS :=
 c.fI (c.gk c.ok.g) (c.pmk (Ac c.ok)) (by unfold RK;simp[Rp.bf,Rp.head]) c.id (c.zP hs)
theorem Cs.tell (c:Cs L T G B r r1) (hs:r1.status=1∨r1.status=2∨r1.status=5) {qt:Int} (h0:0≤qt) (h1:qt<r.n) (h2:qt≠r.id):Cs L T G B r (r1.tell qt) :=
 c.send h0 h1 h2 (c.pmk (Ac c.ok)) (by unfold RK;simp[Rp.bf,Rp.head]) c.id (c.zP hs)
theorem Cs.kM (c:Cs L T G B r r1) (hs:r1.status=1∨r1.status=2∨r1.status=5) (he:1≤r1.epoch) {qt:Int} (h0:0≤qt) (h1:qt<r.n) (h2:qt≠r.id):Cs L T G B r (r1.kM qt):=by
  have h3 : r1.status ≠ 3 := by omega
  obtain⟨u1,u2,u3⟩:=(c.ri.lg hs).upto he
  have h:=c.ok
  refine c.send h0 h1 h2 (c.pmk ⟨by simp [Rp.kg, Rp.bf, Rp.head], by simp [Rp.kg, Rp.bf, Rp.head], h.i0, h.i1, h.ll, h.lb, h.ep.1, h.ep.2, by simp [Rp.kg], by simp [Rp.kg], by simp [Rp.kg, Rp.bf, Rp.head], by simp [Rp.kg, Rp.bf, Rp.head], by simp [Rp.kg, Rp.bf, Rp.head], by simp [Rp.kg, Rp.bf, Rp.head], by simp [Rp.kg, Rp.bf, Rp.head],
   fun _ => ⟨by simp [Rp.kg], by simp [Rp.kg]⟩, fun _ => h.log.upto _, fun _ => ⟨h.g, h.o⟩⟩) (by unfold RK; simp [Rp.kg, Rp.bf, Rp.head]) c.id ?_
  refine ⟨fun q => by simp [Rp.kg, Rp.bf, Rp.head] at q, fun q => by simp [Rp.kg, Rp.bf, Rp.head] at q, fun q => by simp [Rp.kg, Rp.bf, Rp.head] at q, fun _ => ⟨u2, (c.ri.gp h3).2, ?_⟩, fun q => by simp [Rp.kg, Rp.bf, Rp.head] at q, fun q => by simp [Rp.kg, Rp.bf, Rp.head] at q⟩
  show (regs ((dW r1.log r1.epoch).take ((dW r1.log r1.epoch).length:Int).toNat):Int)≤r1.epoch
  rw[Int.toNat_natCast,List.take_length,u3];omega
theorem Cs.bF (c:Cs L T G B r r1) (hs:r1.status=1) (p:Int):Cs L T G B r (r1.bF p):=by
 unfold Rp.bF
 split
 ·exact c
 ·rename_i q;have hl:=c.ri.lg (.inl hs);have h:=c.ok;have hp:(p-1).toNat<r1.log.length:=by omega
  have he:r1.log.getD (p-1).toNat (0,0,⟨#[]⟩)=r1.log[(p-1).toNat]:=by rw[List.getD_eq_getElem?_getD,List.getElem?_eq_getElem hp];rfl
  have hm:r1.log[(p-1).toNat]∈r1.log:=List.getElem_mem hp
  refine c.fI (c.gk h.g) (c.pmk ⟨by simp[Rp.eP,Rp.head],by simp[Rp.eP,Rp.head],h.i0,h.i1,h.ll,h.lb,h.ep.1,h.ep.2,h.vi.1,h.vi.2,fun _=>⟨by show 0≤p;omega,by show p≤10;have:=h.lg;omega⟩,fun _=>?_,fun _=>⟨by simp[Rp.eP],by have:=h.dc;have:=h.lg;simp[Rp.eP];omega⟩,by simp[Rp.eP,Rp.head],by simp[Rp.eP,Rp.head],by simp[Rp.eP,Rp.head],by simp[Rp.eP,Rp.head],by simp[Rp.eP,Rp.head]⟩) (by unfold RK;simp[Rp.eP,Rp.head]) c.id ?_
  ·show jd r1.n (r1.log.getD (p-1).toNat (0,0,⟨#[]⟩))
   rw[he];exact h.le _ hm
  ·refine⟨fun q=>by simp[Rp.eP,Rp.head] at q,fun q=>by simp[Rp.eP,Rp.head] at q,fun _=>⟨hl.e0,hl.le,?_,?_⟩,fun q=>by simp[Rp.eP,Rp.head] at q,fun q=>by simp[Rp.eP,Rp.head] at q,fun q=>by simp[Rp.eP,Rp.head] at q⟩
   ·show ∃ y∈T,y.1=r1.log.getD (p-1).toNat (0,0,⟨#[]⟩)
    rw[he];exact hl.pv _ hm
   ·show p≤_∨(eT (r1.log.getD (p-1).toNat (0,0,⟨#[]⟩))=true→∀ y∈T,y.1=r1.log.getD (p-1).toNat (0,0,⟨#[]⟩)→y.2=mTx (r1.log.getD (p-1).toNat (0,0,⟨#[]⟩)) r1.epoch)
    rw[he];by_cases hb:p≤(gY L r1.epoch.toNat:Int)
    ·exact .inl hb
    ·refine .inr fun hr y hy hye=>?_
     have h0:=hl.e0;have hg:(regs (r1.log.take (p-1).toNat):Int)=r1.epoch:=by
      have a1:=jI L r1.epoch.toNat (by have:=hl.le;omega)
      rw[← hl.pre] at a1;have a2:=l5 r1.log (i:=gY L r1.epoch.toNat) (j:=(p-1).toNat) (by omega)
      have a3:=mU r1.log _ hp;rw[if_pos hr] at a3;have a4:=iR r1.log ((p-1).toNat+1);have a5:=hl.rg;omega
     rw[hl.jw _ hp hr y hy hye,hg]
theorem yU:∀ (k:Nat) (r1:Rp) (p:Int),Cs L T G B r r1→r1.status=1→Cs L T G B r (Rp.kK k r1 p)
 | 0,_,_,c,_=>c
 | k+1,r1,p,c,hs=>by
  unfold Rp.kK;refine yU k _ _ (c.bF hs p) ?_;unfold Rp.bF
  split
  ·exact hs
  ·exact hs
theorem Cs.iZ (c:Cs L T G B r r1) (hs:r1.status=1):Cs L T G B r r1.iZ:=by
 unfold Rp.iZ;have h:=c.ok
 split
 ·refine c.fI (c.gk h.g) (c.pmk ⟨by simp[Rp.head],by simp[Rp.head],h.i0,h.i1,h.ll,h.lb,h.ep.1,h.ep.2,h.vi.1,h.vi.2,by simp[Rp.head],by simp[Rp.head],fun _=>⟨by simp,by have:=h.dc;have:=h.lg;simp;omega⟩,by simp[Rp.head],by simp[Rp.head],by simp[Rp.head],by simp[Rp.head],by simp[Rp.head]⟩) (by unfold RK;simp[Rp.head]) c.id (MI.bare (by simp[Rp.head]))
 ·exact yU _ _ _ c hs
theorem Cs.ack (c:Cs L T G B r r1) {qt:Int} (h0:0≤qt) (h1:qt<r.n) (h2:qt≠r.id):Cs L T G B r (r1.ack qt):=by
 have h:=c.ok;exact c.send h0 h1 h2 (c.pmk ⟨by simp[Rp.head],by simp[Rp.head],h.i0,h.i1,h.ll,h.lb,h.ep.1,h.ep.2,h.vi.1,h.vi.2,fun _=>⟨by simp,by have:=h.lg;simp;omega⟩,by simp[Rp.head],by simp[Rp.head],by simp[Rp.head],by simp[Rp.head],by simp[Rp.head],by simp[Rp.head],by simp[Rp.head]⟩) (by unfold RK;simp[Rp.head]) c.id (MI.bare (by simp[Rp.head]))
theorem Nu (hG:GI L G r1.n) (c:RI L T G B r1) (h:Ok r1) (hs:r1.status=1∨r1.status=2):r1.iB∈r1.grp:=by
 obtain⟨g1,g2⟩:=c.gp (by omega)
 have hn:=hG.ne h.ep.1 g1;rw[← g2] at hn;unfold Rp.iB oL;have hv:=h.vi.1;rw[if_neg (by omega)]
 have hlt:(r1.view % (r1.grp.length:Int)).toNat<r1.grp.length:=by
  have:=Int.emod_lt_of_pos r1.view (show (0:Int)<r1.grp.length by omega)
  have:=Int.emod_nonneg r1.view (show (r1.grp.length:Int)≠0 by omega)
  omega
 rw[List.getD_eq_getElem?_getD,List.getElem?_eq_getElem hlt];exact List.getElem_mem hlt
theorem Cs.iB (c:Cs L T G B r r1) (hG:GI L G r.n) (hs:r1.status=1∨r1.status=2) (hp:r1.dG=false):0≤r1.iB∧r1.iB<r.n∧r1.iB≠r.id:=by
 have hm:=Nu (by rw[c.n];exact hG) c.ri c.ok hs
 have:=c.ok.g.2 _ hm
 rw[c.n] at this;refine⟨this.1,this.2,?_⟩
 unfold Rp.dG at hp;rw[← c.id]
 simpa using hp
theorem Cs.Ii (c:Cs L T G B r r1) (hs:r1.status=1∨r1.status=2):Lg L T r1.epoch r1.log:=c.ri.lg (by omega)
theorem Cs.O5 (c:Cs L T G B r r1) (hs:r1.status=1∨r1.status=2):MI L T G B r1.dD :=
 ⟨fun q=>by simp[Rp.dD,Rp.head] at q,fun q=>by simp[Rp.dD,Rp.head] at q,fun q=>by simp[Rp.dD,Rp.head] at q,fun q=>by simp[Rp.dD,Rp.head] at q,fun _=>c.Ii hs,fun q=>by simp[Rp.dD,Rp.head] at q⟩
theorem Cs.aI (c:Cs L T G B r r1) {l:List Pm} (hk:Ok { r1 with aI:=l }) (hv:∀ v∈l,v.epoch=r1.epoch∧Lg L T v.epoch v.log):Cs L T G B r { r1 with aI:=l } :=
 ⟨hk,c.n,c.id,⟨c.ri.jl,c.ri.an,hv,c.ri.me,c.ri.gp,c.ri.lg,c.ri.st⟩,c.sv,c.dr,c.out⟩
theorem Cs.oU (c:Cs L T G B r r1) (hG:GI L G r.n) (hs:r1.status=1∨r1.status=2):Cs L T G B r r1.oU:=by
 unfold Rp.oU
 split
 ·refine c.aI (Rp.oK c.ok rfl (Rp.Ab c.ok)) fun v hv=>?_
  rcases kR hv with rfl|q
  ·exact⟨rfl,c.Ii hs⟩
  ·exact c.ri.vo v q
 ·rename_i q;obtain⟨p1,p2,p3⟩:=c.iB hG hs (by simpa using q)
  exact c.send p1 p2 p3 (c.pmk (Rp.Ab c.ok)) (by unfold RK;simp[Rp.dD,Rp.head]) c.id (c.O5 hs)
theorem Cs.dP (c:Cs L T G B r r1) (hG:GI L G r.n) (hs:r1.status=1∨r1.status=2):Cs L T G B r r1.dP:=by
 unfold Rp.dP
 split
 ·exact c
 ·exact c.oU hG hs
theorem Cs.want (c:Cs L T G B r r1) (hG:GI L G r.n) (hs:r1.status=1∨r1.status=2) {v:Int} (hv:0≤v∧v≤999):Cs L T G B r (r1.want v):=by
 have h3:r1.status≠3:=by omega
 have c0:Cs L T G B r (r1.lM v):=⟨Rp.zY c.ok hv,c.n,c.id,⟨c.ri.jl,c.ri.an,fun x hx=>by simp[Rp.lM] at hx,fun _=>⟨fun _=>.inr rfl,fun _=>(c.ri.me h3).2 hs⟩,fun _=>c.ri.gp h3,fun _=>c.Ii hs,fun q=>by simp[Rp.lM] at q⟩,c.sv,fun _=>c.dr h3,c.out⟩
 exact c0.call.oU hG (.inr rfl)
theorem Cs.begin (c:Cs L T G B r r1) (hs:r1.status=1∨r1.status=2) {v:Int} (hv:0≤v∧v≤999):Cs L T G B r (r1.begin_ v):=by
 have h3:r1.status≠3:=by omega
 exact⟨(Rp.kP c.ok hv).ok,c.n,c.id,⟨c.ri.jl,c.ri.an,fun x hx=>by simp[Rp.begin_] at hx,fun _=>⟨fun _=>.inl rfl,fun _=>(c.ri.me h3).2 hs⟩,fun _=>c.ri.gp h3,fun _=>c.Ii hs,fun q=>by simp[Rp.begin_] at q⟩,c.sv,fun _=>c.dr h3,c.out⟩
theorem Cs.over (c:Cs L T G B r r1) (hs:r1.status=1∨r1.status=2∨r1.status=5) {l:List En} (hk:nZ r1.n l) (hl:Lg L T r1.epoch l) (hd:(regs (l.take (min r1.decided l.length)):Int)≤r1.epoch):Cs L T G B r (r1.over l) :=
 ⟨(Rp.fB c.ok hk).ok,c.n,c.id,⟨⟨hl.jw,hl.pv⟩,c.ri.an,c.ri.vo,c.ri.me,c.ri.gp,fun _=>hl,c.ri.st⟩,rfl,fun _=>hd,c.out⟩
end
def Ap (L:List (List Nat)):Prop:=L.Pairwise (fun a b=>∀ x∈a,x∉b)
theorem Ap.ne {L:List (List Nat)} {i j:Nat} {a b:List Nat} (h:Ap L) (hi:L[i]? = some a) (hj:L[j]? = some b) (hne:i≠j):∀ x∈a,x∉b:=by
 obtain⟨li,rfl⟩:=List.getElem?_eq_some_iff.1 hi
 obtain⟨lj,rfl⟩:=List.getElem?_eq_some_iff.1 hj
 have h:=List.pairwise_iff_getElem.1 h;intro x hx hc;rcases Nat.lt_or_ge i j with q|q
 ·exact h i j li lj q x hx hc
 ·exact h j i lj li (by omega) x hc hx
theorem Ap.put {L:List (List Nat)} {i N:Nat} {c:List Nat} (h:Ap L) (hl:∀ a∈L,∀ x∈a,x<N) (hc:∀ a,L[i]? = some a→∀ x∈c,x∈a∨N≤x):Ap (L.set i c):=by
 refine List.pairwise_iff_getElem.2 (fun p q hp hq hlt x hx hx2=>?_)
 simp only[List.length_set] at hp hq;have h:=List.pairwise_iff_getElem.1 h;rw[List.getElem_set] at hx hx2;by_cases e1:i=p
 ·subst e1;rw[if_pos rfl] at hx;rw[if_neg (by omega)] at hx2
  rcases hc _ (List.getElem?_eq_getElem hp) x hx with k|k
  ·exact h i q hp hq hlt x k hx2
  ·have:=hl _ (List.getElem_mem hq) x hx2;omega
 ·rw[if_neg e1] at hx;by_cases e2:i=q
  ·subst e2;rw[if_pos rfl] at hx2;rcases hc _ (List.getElem?_eq_getElem hq) x hx2 with k|k
   ·exact h p i hp hq hlt x hx k
   ·have:=hl _ (List.getElem_mem hp) x hx;omega
  ·rw[if_neg e2] at hx2;exact h p q hp hq hlt x hx hx2
structure Nod where
 b:Nat
 bl:Nat
 W:List Nat
 F:List Nat
 R:Rp
 V:Rv
structure jS where
 e:En
 text:ByteArray
 floor:Int
 bad:Bool
structure Kw where
 part:Int
 n:Int
 nds:List Nod
 down:List Bool
 begun:List Int
 lives:Int
 top:Int
 net:List (Int×Int×ByteArray)
 wishes:List jS
 opn:List Int
 list:List En
 groups:List ByteArray
 floor:Int
structure Kv where
 vN:Value
 vD:Value
 vB:Value
 vP:Value
 vW:Value
 vO:Value
 vL:Value
 vG:Value
structure Row where
 e:TypeId
 s:Nat
 v:Value
 n:Nat
 xs:List Value
def bL:List jS→List Value
 | []=>[]
 | x :: l=>I J x.e.1 :: I J x.e.2.1 :: Z x.e.2.2 :: Z x.text :: I J x.floor :: .bool x.bad :: bL l
def nE (x:Nod):Value:=Zp (some ⟨x.b,0,O⟩)
def mF (K:Kw) (V:Kv):Array Value:=#[I J K.part,I J K.n,V.vN,V.vD,V.vB,I J K.lives,I J K.top,V.vP,V.vW,V.vO,V.vL,V.vG,I J K.floor]
def eY (K:Kw) (V:Kv):List Row :=
  [⟨29,1,V.vN,K.nds.length,K.nds.map nE⟩,⟨4,1,V.vD,K.down.length,K.down.map Value.bool⟩,⟨3,1,V.vB,K.begun.length,K.begun.map (Value.int .i64)⟩,
   ⟨102,3,V.vP,K.net.length,aA K.net⟩,⟨99,6,V.vW,K.wishes.length,bL K.wishes⟩,⟨3,1,V.vO,K.opn.length,K.opn.map (Value.int .i64)⟩,
   ⟨66,3,V.vL,K.list.length,aA K.list⟩,⟨9,1,V.vG,K.groups.length,K.groups.map Value.string⟩]
def dh (g:Nat) (K:Kw) (V:Kv):List (List Nat):=[g] :: ((eY K V).map (fun r=>r.v.ownBlock.toList)++K.nds.map (·.F))
def iy (g:Nat) (K:Kw) (V:Kv):List Nat:=(dh g K V).flatten
structure KAt (N:Nat) (w:World) (g:Nat) (K:Kw) (V:Kv):Prop where
 blk:w.heap[g]? = some (.cells (mF K V) 50 (0,0))
 rows:∀ r∈eY K V,w.ownsRow 0 r.e r.s r.v r.n r.xs
 nodes:∀ x∈K.nds,ay w x.b x.bl x.W x.F x.R x.V
 ap:Ap (dh g K V)
 lo:∀ c∈dh g K V,∀ x∈c,N≤x
 n0:0<N
 tab:Tab w
section
variable {N:Nat} {w w':World} {g:Nat} {K K':Kw} {V V':Kv}
theorem KAt.lt (h:KAt N w g K V):∀ c∈dh g K V,∀ x∈c,x<w.heap.size:=by
 intro c hc x hx;rcases List.mem_cons.1 hc with rfl|hc
 ·simp at hx;subst hx;exact lt_of_block h.blk
 rcases List.mem_append.1 hc with hc|hc
 ·obtain⟨r,hr,rfl⟩:=List.mem_map.1 hc
  exact ((h.rows r hr).lt x (by simpa using hx)).2
 ·obtain⟨r,hr,rfl⟩:=List.mem_map.1 hc
  exact (h.nodes r hr).fl x hx
theorem vT {i:Nat} {r:Row} (hi:(eY K V)[i]? = some r):(dh g K V)[i+1]? = some r.v.ownBlock.toList:=by
 have hl:=(List.getElem?_eq_some_iff.1 hi).1;unfold dh;rw[List.getElem?_cons_succ,List.getElem?_append_left (by simpa using hl),List.getElem?_map,hi]
 rfl
theorem zC {q:Nat} {x:Nod} (hq:K.nds[q]? = some x):(dh g K V)[q+9]? = some x.F:=by
 unfold dh;rw[List.getElem?_cons_succ,List.getElem?_append_right (by simp[eY])]
 simp[eY,hq]
theorem AZ:(dh g K V)[0]? = some [g]:=rfl
def Off (L:List (List Nat)) (S:List Nat) (t:Nat):Prop:=∀ x∈S,∃ i c,i≠t∧L[i]? = some c∧x∈c
theorem Off.one {L:List (List Nat)} {S c:List Nat} {t i:Nat} (hi:L[i]? = some c) (hS:∀ x∈S,x∈c) (hne:i≠t):Off L S t:=fun x hx=>⟨i,c,hne,hi,hS x hx⟩
theorem Off.app {L:List (List Nat)} {S S':List Nat} {t:Nat} (h:Off L S t) (k:Off L S' t):Off L (S++S') t:=fun x hx=>by
 rcases List.mem_append.1 hx with q|q
 ·exact h x q
 ·exact k x q
theorem Off.no {L:List (List Nat)} {S c:List Nat} {t:Nat} (h:Off L S t) (ha:Ap L) (ht:L[t]? = some c):∀ x∈S,x∉c:=fun x hx hc=>by
 obtain⟨i,d,hne,hi,hd⟩:=h x hx
 exact ha.ne hi ht hne x hd hc
theorem KAt.zh (h:KAt N w g K V) {S:List Nat} (k:Kp S w w') (ho:Off (dh g K V) S 0):w'.heap[g]? = w.heap[g]? :=
 k.block g (lt_of_block h.blk) (fun hc=>ho.no h.ap AZ g hc (by simp))
theorem KAt.oO (h:KAt N w g K V) {S:List Nat} {j:Nat} {r:Row} (k:Kp S w w') (hj:(eY K V)[j]? = some r) (ho:Off (dh g K V) S (j+1)):w'.ownsRow 0 r.e r.s r.v r.n r.xs :=
 fq (h.rows r (List.mem_of_getElem? hj)) k (fun x hx hc=>ho.no h.ap (vT hj) x hc (by simp[hx]))
theorem KAt.no0 (h:KAt N w g K V) {S:List Nat} (hS:∀ x∈S,x∈iy g K V):0∉S:=fun hc=>by
 obtain⟨c,h1,h2⟩:=List.mem_flatten.1 (hS 0 hc)
 have:=h.lo c h1 0 h2
 have:=h.n0
 omega
theorem iC {L:List (List Nat)} {i:Nat} {c:List Nat} (hi:L[i]? = some c):∀ x∈c,x∈L.flatten:=fun _ hx=>List.mem_flatten.2 ⟨c,List.mem_of_getElem? hi,hx⟩
theorem KAt.oJ (h:KAt N w g K V) {S:List Nat} {q:Nat} {x:Nod} (k:Kp S w w') (hq:K.nds[q]? = some x) (ho:Off (dh g K V) S (q+9)):ay w' x.b x.bl x.W x.F x.R x.V :=
 (h.nodes x (List.mem_of_getElem? hq)).far k (ho.no h.ap (zC hq)) (h.no0 fun y hy=>by
  obtain⟨i,c,_,hi,hc⟩:=ho y hy
  exact iC hi y hc)
theorem KAt.below (h:KAt N w g K V) (k:Below w.heap.size w w'):KAt N w' g K V :=
 ⟨(k.block g (lt_of_block h.blk)).trans h.blk,fun r hr=>bU (h.rows r hr) k,fun x hx=>(h.nodes x hx).below k,h.ap,h.lo,h.n0,h.tab.below k⟩
structure Kst (N:Nat) (w w':World) (g:Nat) (K:Kw) (V:Kv) (K':Kw) (V':Kv):Prop where
 at_:KAt N w' g K' V'
 kp:Kp (iy g K V) w w'
 sub:∀ x∈iy g K' V',x∈iy g K V∨w.heap.size≤x
theorem Kst.refl (h:KAt N w g K V):Kst N w w g K V K V:=⟨h,Kp.refl _ _,fun _ h=>.inl h⟩
theorem Kst.trans {w1 w2:World} {K1 K2:Kw} {V1 V2:Kv} (h:Kst N w w1 g K V K1 V1) (k:Kst N w1 w2 g K1 V1 K2 V2):Kst N w w2 g K V K2 V2:=by
 have hs:=h.kp.size;refine⟨k.at_,h.kp.trans k.kp (fun x hx hlt=>?_),fun x hx=>?_⟩
 ·rcases h.sub x hx with q|q
  ·exact q
  ·omega
 ·rcases k.sub x hx with q|q
  ·exact h.sub x q
  ·right;omega
theorem Kst.below {w1 w2:World} {K1:Kw} {V1:Kv} (h:Kst N w w1 g K V K1 V1) (k:Below w1.heap.size w1 w2):Kst N w w2 g K V K1 V1:=⟨h.at_.below k,h.kp.aS k,h.sub⟩
theorem KAt.MV (h:KAt N w g K V):∀ x∈iy g K V,N≤x:=fun x hx=>by
 obtain⟨c,hc,hx⟩:=List.mem_flatten.1 hx
 exact h.lo c hc x hx
theorem KAt.Nlt (h:KAt N w g K V):N<w.heap.size:=Nat.lt_of_le_of_lt (h.lo [g] (by simp[dh]) g (by simp)) (lt_of_block h.blk)
theorem KAt.scalar (h:KAt N w g K V) (j:Nat) (v:Value) (hc:mF K' V=(mF K V).setIfInBounds j v) (hr:eY K' V=eY K V) (hn:K'.nds=K.nds):Kst N w (w.setCell ⟨g,j,O⟩ v) g K V K' V:=by
 have k:Kp [g] w (w.setCell ⟨g,j,O⟩ v):=(Kp.refl _ w).set g j v (.inl (by simp))
 have hcm:dh g K' V=dh g K V:=by unfold dh;rw[hr,hn]
 have hft:iy g K' V=iy g K V:=by unfold iy;rw[hcm]
 have hof:∀ t,t≠0→Off (dh g K V) [g] t:=fun t ht=>Off.one (i:=0) AZ (fun _ h=>h) (fun hc=>ht hc.symm)
 refine⟨⟨?_,?_,?_,?_,?_,h.n0,h.tab.kp k (h.no0 (iC (i:=0) AZ))⟩,k.wid (iC (i:=0) AZ),fun x hx=>.inl (hft▸hx)⟩
 ·rw[hc];exact heap_setCell_same w g _ _ _ v h.blk
 ·intro r hr';rw[hr] at hr';obtain⟨i,hi⟩:=List.getElem?_of_mem hr'
  exact h.oO k hi (hof _ (by omega))
 ·intro x hx;rw[hn] at hx;obtain⟨q,hq⟩:=List.getElem?_of_mem hx
  exact h.oJ k hq (hof _ (by omega))
 ·rw[hcm];exact h.ap
 ·rw[hcm];exact h.lo
theorem zD {i:Nat} {r':Row} (hi:i<(eY K V).length) (hr:eY K' V'=(eY K V).set i r') (hn:K'.nds=K.nds):dh g K' V'=(dh g K V).set (i+1) r'.v.ownBlock.toList:=by
 unfold dh;rw[hr,hn,List.set_cons_succ,List.map_set,List.set_append,if_pos (by simpa using hi)]
theorem KAt.newRow {w1:World} {i:Nat} {r r':Row} (h:KAt N w g K V) (hi:(eY K V)[i]? = some r) (k:Kp r.v.ownBlock.toList w w1) (ho:w1.ownsRow 0 r'.e r'.s r'.v r'.n r'.xs) (hb:∀ x,r'.v.ownBlock=some x→r.v.ownBlock=some x∨w.heap.size≤x)
  (j:Nat) (hc:mF K' V'=(mF K V).setIfInBounds j r'.v) (hr:eY K' V'=(eY K V).set i r') (hn:K'.nds=K.nds):Kst N w (w1.setCell ⟨g,j,O⟩ r'.v) g K V K' V':=by
 have hil:=(List.getElem?_eq_some_iff.1 hi).1;have hci:=vT (g:=g) hi;have k2:Kp ([g]++r.v.ownBlock.toList) w (w1.setCell ⟨g,j,O⟩ r'.v):=(k.wid (S':=[g]++r.v.ownBlock.toList) (fun x hx=>by simp at hx;simp[hx])).set g j _ (.inl (by simp))
 have hof:∀ t,t≠0→t≠i+1→Off (dh g K V) ([g]++r.v.ownBlock.toList) t:=fun t h0 h1=>Off.app (Off.one (i:=0) AZ (fun _ h=>h) (fun hc=>h0 hc.symm)) (Off.one hci (fun _ h=>h) (fun hc=>h1 hc.symm))
 have hfo:∀ x∈[g]++r.v.ownBlock.toList,x∈iy g K V:=fun x hx=>by
  rcases List.mem_append.1 hx with q|q
  ·exact iC (i:=0) AZ x q
  ·exact iC hci x q
 have hcm:dh g K' V'=(dh g K V).set (i+1) r'.v.ownBlock.toList:=zD hil hr hn
 have hgl:=lt_of_block h.blk;have hgb:r'.v.ownBlock≠some g:=fun hc=>by
  rcases hb g hc with q|q
  ·exact h.ap.ne hci AZ (by omega) g (by simp[q]) (by simp)
  ·omega
 refine⟨⟨?_,?_,?_,?_,?_,h.n0,h.tab.kp k2 (h.no0 hfo)⟩,k2.wid hfo,?_⟩
 ·rw[hc];exact heap_setCell_same w1 g _ _ _ _ ((h.zh k (Off.one hci (fun _ h=>h) (by omega))).trans h.blk)
 ·intro r0 hr0;rw[hr] at hr0;obtain⟨m,hm⟩:=List.getElem?_of_mem hr0
  by_cases e:i=m
  ·subst e;rw[List.getElem?_set_self hil] at hm;cases hm;exact fq ho ((Kp.refl [g] w1).set g j _ (.inl (by simp))) (fun x hx hc=>by simp at hc;subst hc;exact hgb hx)
  ·rw[List.getElem?_set_ne e] at hm;exact h.oO k2 hm (hof _ (by omega) (by omega))
 ·intro x hx;rw[hn] at hx;obtain⟨q,hq⟩:=List.getElem?_of_mem hx
  have:(eY K V).length=8:=rfl
  exact h.oJ k2 hq (hof _ (by omega) (by omega))
 ·rw[hcm];refine h.ap.put h.lt (fun a ha x hx=>?_)
  rw[hci] at ha;cases ha;rcases hb x (by simpa using hx) with q|q
  ·left;simp[q]
  ·exact .inr q
 ·rw[hcm];intro c hcc x hx;rcases List.mem_or_eq_of_mem_set hcc with q|rfl
  ·exact h.lo c q x hx
  ·rcases hb x (by simpa using hx) with q|q
   ·exact h.lo _ (List.mem_of_getElem? hci) x (by simp[q])
   ·have:=h.Nlt;omega
 ·intro x hx;unfold iy at hx;rw[hcm] at hx;obtain⟨c,hcc,hx⟩:=List.mem_flatten.1 hx
  rcases List.mem_or_eq_of_mem_set hcc with q|rfl
  ·exact .inl (List.mem_flatten.2 ⟨c,q,hx⟩)
  ·rcases hb x (by simpa using hx) with q|q
   ·exact .inl (iC hci x (by simp[q]))
   ·exact .inr q
theorem KAt.inRow {w1:World} {i:Nat} {r r':Row} (h:KAt N w g K V) (hi:(eY K V)[i]? = some r) (k:Kp r.v.ownBlock.toList w w1) (ho:w1.ownsRow 0 r'.e r'.s r'.v r'.n r'.xs) (hv:r'.v=r.v)
  (hc:mF K' V=mF K V) (hr:eY K' V=(eY K V).set i r') (hn:K'.nds=K.nds):Kst N w w1 g K V K' V:=by
 have hil:=(List.getElem?_eq_some_iff.1 hi).1;have hci:=vT (g:=g) hi;have hof:∀ t,t≠i+1→Off (dh g K V) r.v.ownBlock.toList t:=fun t h1=>Off.one hci (fun _ h=>h) (fun hc=>h1 hc.symm)
 have hcm:dh g K' V=dh g K V:=by
  rw[zD hil hr hn,hv];obtain⟨q1,q2⟩:=List.getElem?_eq_some_iff.1 hci
  rw[← q2];exact List.set_getElem_self q1
 have hft:iy g K' V=iy g K V:=by unfold iy;rw[hcm]
 have:(eY K V).length=8:=rfl
 refine⟨⟨?_,?_,?_,hcm▸h.ap,hcm▸h.lo,h.n0,h.tab.kp k (h.no0 (iC hci))⟩,k.wid (iC hci),fun x hx=>.inl (hft▸hx)⟩
 ·rw[hc,← h.blk];exact h.zh k (hof _ (by omega))
 ·intro r0 hr0;rw[hr] at hr0;obtain⟨m,hm⟩:=List.getElem?_of_mem hr0
  by_cases e:i=m
  ·subst e;rw[List.getElem?_set_self hil] at hm;cases hm;exact ho
  ·rw[List.getElem?_set_ne e] at hm;exact h.oO k hm (hof _ (by omega))
 ·intro x hx;rw[hn] at hx;obtain⟨q,hq⟩:=List.getElem?_of_mem hx
  exact h.oJ k hq (hof _ (by omega))
theorem tJ {q:Nat} {x':Nod} (hr:(eY K' V).map (fun r=>r.v.ownBlock.toList)=(eY K V).map (fun r=>r.v.ownBlock.toList)) (hn:K'.nds=K.nds.set q x'):dh g K' V=(dh g K V).set (q+9) x'.F:=by
 unfold dh;rw[hr,hn,List.set_cons_succ,List.set_append,if_neg (by simp[eY]),List.map_set]
 simp[eY]
theorem KAt.nod {w1:World} {q:Nat} {x x':Nod} (h:KAt N w g K V) (hq:K.nds[q]? = some x) (hb:x'.b=x.b) (k:Kp x.F w w1) (hR:ay w1 x'.b x'.bl x'.W x'.F x'.R x'.V) (hF:∀ y∈x'.F,y∈x.F∨w.heap.size≤y):Kst N w w1 g K V { K with nds:=K.nds.set q x' } V:=by
 have hql:=(List.getElem?_eq_some_iff.1 hq).1;have hci:=zC (g:=g) (V:=V) hq;have hof:∀ t,t≠q+9→Off (dh g K V) x.F t:=fun t h1=>Off.one hci (fun _ h=>h) (fun hc=>h1 hc.symm)
 have hr:eY { K with nds:=K.nds.set q x' } V=eY K V:=by
  have e:(K.nds.set q x').map nE=K.nds.map nE:=by
   rw[List.map_set];have:nE x'=(K.nds.map nE)[q]'(by simpa using hql):=by
    rw[List.getElem_map,(List.getElem?_eq_some_iff.1 hq).2];unfold nE;rw[hb]
   rw[this];exact List.set_getElem_self _
  unfold eY;simp only[e,List.length_set]
 have hcm:dh g { K with nds:=K.nds.set q x' } V=(dh g K V).set (q+9) x'.F:=tJ (by rw[hr]) rfl
 refine⟨⟨?_,?_,?_,?_,?_,h.n0,h.tab.kp k (h.no0 (iC hci))⟩,k.wid (iC hci),?_⟩
 ·exact (h.zh k (hof _ (by omega))).trans h.blk
 ·intro r0 hr0;rw[hr] at hr0;obtain⟨m,hm⟩:=List.getElem?_of_mem hr0
  have:(eY K V).length=8:=rfl
  have:=(List.getElem?_eq_some_iff.1 hm).1
  exact h.oO k hm (hof _ (by omega))
 ·intro y hy;obtain⟨m,hm⟩:=List.getElem?_of_mem hy
  by_cases e:q=m
  ·subst e;rw[List.getElem?_set_self hql] at hm;cases hm;exact hR
  ·rw[List.getElem?_set_ne e] at hm;exact h.oJ k hm (hof _ (by omega))
 ·rw[hcm];refine h.ap.put h.lt (fun a ha y hy=>?_)
  rw[hci] at ha;cases ha;exact hF y hy
 ·rw[hcm];intro c hcc y hy;rcases List.mem_or_eq_of_mem_set hcc with p|rfl
  ·exact h.lo c p y hy
  ·rcases hF y hy with p|p
   ·exact h.lo _ (List.mem_of_getElem? hci) y p
   ·have:=h.Nlt;omega
 ·intro y hy;unfold iy at hy;rw[hcm] at hy;obtain⟨c,hcc,hy⟩:=List.mem_flatten.1 hy
  rcases List.mem_or_eq_of_mem_set hcc with p|rfl
  ·exact .inl (List.mem_flatten.2 ⟨c,p,hy⟩)
  ·exact (hF y hy).imp (fun p=>iC hci y p) id
end
def Rp.mk0 (id n:Int) (lives:List Int) (st:Int) (g:List Int):Rp:=⟨id,n,lives,st,0,0,0,g,[],[],0,sv0,yH,[],[],st0,[]⟩
def Rp.new (id n:Int) (g:List Int):Rp:=Rp.mk0 id n (dB n.toNat) (if iQ g id then 1 else 4) g
def Rp.restart (id n life:Int):Rp:=Rp.mk0 id n ((dB n.toNat).set id.toNat life) 3 []
def v0 (vl vg:Value):Rv:=⟨vl,vg,Y O 0 0,Y O 0 0,Y O 0 0,Y O 0 0,Y O 0 0⟩
def mP (R:Rp) (V:Rv):Array Value:=(jT R V++(svC R.sv++gF R V)).toArray
theorem ay.fresh {w:World} {b bl:Nat} {F:List Nat} {id n st:Int} {lives g:List Int} {vl vg:Value} (hb:w.heap[b]? = some (.cells (mP (Rp.mk0 id n lives st g) (v0 vl vg)) 63 (0,0))) (hl:oh w vl bl lives) (hg:Ints w vg g) (hs:Sl [b,bl] (b :: bl :: F) vg) (hF:∀ x∈F,x<w.heap.size) (hT:Tab w) (h0:0∉b :: bl :: F) :
    ay w b bl [b,bl] (b :: bl :: F) (Rp.mk0 id n lives st g) (v0 vl vg) :=
  ⟨⟨hb, rfl, rfl, by intro x hx; have := List.eq_of_mem_replicate hx; omega⟩, rfl, rfl, hl, World.ownsRow_nil _ _ _ _, l9.nil _ _, hg, gD _, Pms.nil _ _ _, Pms.nil _ _ _, hs, Sl.nil _ _, by simp, by simp, In.nil _ _ _, In.nil _ _ _, by intro x hx; simp at hx ⊢; rcases hx with hx | hx <;> simp [hx],
   fun x hx=>by
    simp at hx
    rcases hx with rfl|rfl|hx
    · exact lt_of_block hb
    · exact hl.lt
    · exact hF x hx,hT,h0⟩
theorem qN (id n:Int) (w:World):Calls Tryz.prog 15 #[I J id,I J n] w fun e w'=>e=Zr (.bool (decide (3≤n∧n≤7∧0≤id∧id<n)))∧w'=w:=by
 obtain⟨r,hr⟩:∃ r,r=decide (3≤n∧n≤7∧0≤id∧id<n):=⟨_,rfl⟩
 rw[← hr];have HR:=ah hr;clear hr;by_cases h1:3≤n
 ·by_cases h2:n≤7
  ·by_cases h3:0≤id
   ·by_cases h4:id<n
    ·have HZ:Hid (r=true):=HR.out.trans (decide_eq_true ⟨h1,h2,h3,h4⟩)
     go_enter Tryz.func15,Tryz.ntmps15;go_wp2;go_ret;exact⟨aU HZ.out.symm,rfl⟩
    ·have HZ:Hid (r=false):=HR.out.trans (decide_eq_false (fun q=>h4 q.2.2.2))
     go_enter Tryz.func15,Tryz.ntmps15;go_wp2;go_ret;exact⟨aU HZ.out.symm,rfl⟩
   ·have HZ:Hid (r=false):=HR.out.trans (decide_eq_false (fun q=>h3 q.2.2.1))
    go_enter Tryz.func15,Tryz.ntmps15;go_wp2;go_ret;exact⟨aU HZ.out.symm,rfl⟩
  ·have HZ:Hid (r=false):=HR.out.trans (decide_eq_false (fun q=>h2 q.2.1))
   go_enter Tryz.func15,Tryz.ntmps15;go_wp2;go_ret;exact⟨aU HZ.out.symm,rfl⟩
 ·have HZ:Hid (r=false):=HR.out.trans (decide_eq_false (fun q=>h1 q.1))
  go_enter Tryz.func15,Tryz.ntmps15;go_wp2;go_ret;exact⟨aU HZ.out.symm,rfl⟩
def Cx (w w':World) (e:Ending) (R:Rp):Prop:=∃ b bl W F V,e=Zr (.tuple #[Zp (some ⟨b,0,O⟩),I J 0])∧ay w' b bl W F R V∧V.vt=Y O 0 0∧(∀ x∈F,w.heap.size≤x)∧Below w.heap.size w w'
theorem GU (id n:Int) (s:ByteArray) (w:World) (hs:s.size≤maxLen) (hn:3≤n∧n≤7∧0≤id∧id<n) (hg:aV s.data.toList n=false) :
  Calls Tryz.prog 9 #[I J id,I J n,Z s] w fun e w'=>e=Zr (.tuple #[Zp O,I J 1])∧Below w.heap.size w w':=by
 have HO:=ah (qN id n w);rw[decide_eq_true hn] at HO;have HG:=ah (fun w=>rJ s n w hs)
 have HN:Hid (aV s.data.toList n=false):=hg
 have hnl:=fun w a n c=>Lib.run_eql_slice_nil (P:=Tryz.prog) w 44 3 a n c 0 0 Tryz.underlying44
 clear hg hn;go_enter Tryz.func9,Tryz.ntmps9;go_wp2_with fail;refine HO.out.mono ?_;rintro e w' ⟨rfl,hw'⟩;subst hw';go_wp2_with fail;refine (HG.out _).mono ?_;rintro e w1 ⟨v1,rfl,_,hv,hb1⟩;have:=hv.2 HN.out
 subst this;clear hv;go_wp2;go_ret2;exact⟨rfl,hb1⟩
theorem BN {s:ByteArray} {n:Int} (h:aV s.data.toList n=true):dz s n=dA s∧0<(dA s).length∧(dA s).length≤5:=by
 have q:=mE h;exact⟨by unfold dz;rw[if_pos h],by rw[jA];exact q.1,by rw[jA];exact q.2⟩
theorem nR (id n:Int) (s:ByteArray) (w:World) (hT:Tab w) (hs:s.size≤maxLen) (hn:3≤n∧n≤7∧0≤id∧id<n) (hg:aV s.data.toList n=true) (h0:0<w.heap.size) :
  Calls Tryz.prog 9 #[I J id,I J n,Z s] w fun e w'=>Cx w w' e (Rp.new id n (dA s)):=by
 have HO:=ah (qN id n w);rw[decide_eq_true hn] at HO;obtain⟨nn,hnn⟩:∃ m:Nat,n=m:=⟨n.toNat,by omega⟩
 subst hnn;obtain⟨g1,g2,g3⟩:=BN hg
 have HG:Hid (∀ w,Calls Tryz.prog 16 #[Z s,I J (nn:Int)] w fun e w'=>∃ v,e=Zr v∧w'.ownsRow w.heap.size 3 1 v (dA s).length ((dA s).map (Value.int .i64))∧Below w.heap.size w w'):=fun w=>(rJ s nn w hs).mono (fun e w' q=>by
  obtain⟨v,q1,q2,_,q4⟩:=q
  rw[g1] at q2;exact⟨v,q1,q2,q4⟩)
 have hnl:=fun w a n c=>Lib.run_eql_slice_nil (P:=Tryz.prog) w 44 3 a n c 0 0 Tryz.underlying44
 have hmk:=BX (nn:Int) (by omega) (by omega)
 rw[Int.toNat_natCast] at hmk;have HNw:Hid (Rp.new id nn (dA s)=if iQ (dA s) id then Rp.mk0 id nn (dB nn) 1 (dA s) else Rp.mk0 id nn (dB nn) 4 (dA s)):=by unfold Hid Rp.new;rw[Int.toNat_natCast];split <;> rfl
 have HOk:Hid (Ok (Rp.mk0 id nn (dB nn) 4 (dA s))):=by
  have hz:(dB nn).length=nn:=by simp[dB]
  exact⟨hn.1,hn.2.1,hn.2.2.1,hn.2.2.2,by show ((dB nn).length:Int)=nn;rw[hz],fun x hx=>by have:=List.eq_of_mem_replicate hx;subst this;omega,by show (1:Int)≤4∧(4:Int)≤5;omega,by show (0:Int)≤0∧(0:Int)≤10;omega,by show (0:Int)≤0∧(0:Int)≤999;omega,by show (0:Int)≤0∧(0:Int)≤999;omega,yx hg,fE.nil _,Nat.zero_le _,(by intro e he;cases he),Nat.le_refl _,(by intro m hm;cases hm),List.nodup_nil,(by intro m hm;cases hm),List.nodup_nil⟩
 clear hg g1 hs;go_enter Tryz.func9,Tryz.ntmps9;go_wp2_with fail;refine HO.out.mono ?_;rintro e w' ⟨rfl,hw'⟩;subst hw';obtain⟨w,Hw⟩:∃ x,x=w':=⟨_,rfl⟩
 subst Hw;go_wp2_with fail;refine (HG.out _).mono ?_;rintro e w1 ⟨v1,rfl,hO1,hb1⟩;rcases hO1.2 with ⟨rfl,h3⟩|⟨g,cap,cur,rfl,hg1,hg2,hg3,hg4,hg5,hg6⟩
 ·omega
 have hI1:Ints w1 (Y (some ⟨g,0,O⟩) (dA s).length cap) (dA s):=Rd.bR hO1
 have hglt:=lt_of_block hg2;clear hg2 hg3 hg4 hg5 hg6 hO1;have hbL:Below w1.heap.size w1 (w1.alloc (.cells (iM nn) 3)):=(Below.refl _ w1).alloc (Nat.le_refl _) _
 have hOL:oh (w1.alloc (.cells (iM nn) 3)) (Y (some ⟨w1.heap.size,0,O⟩) nn nn) w1.heap.size (dB nn):=Ce w1 nn (by omega)
 go_upto_region 7 with fail
 have hz:((((Tryz.zeroCells63.setIfInBounds 0 (I J id)).setIfInBounds 1 (I J (nn:Int))).setIfInBounds 2 (Y (some ⟨w1.heap.size,0,O⟩) nn nn)).setIfInBounds 7 (Y (some ⟨g,0,O⟩) (dA s).length cap)).setIfInBounds 3 (I J 4)=mP (Rp.mk0 id nn (dB nn) 4 (dA s)) (v0 (Y (some ⟨w1.heap.size,0,O⟩) nn nn) (Y (some ⟨g,0,O⟩) (dA s).length cap)):=rfl
 rw[hz];have hsz:(w1.alloc (.cells (iM nn) 3)).heap.size=w1.heap.size+1:=by simp
 have hnew:=heap_alloc_new (w1.alloc (.cells (iM nn) 3)) (.cells (mP (Rp.mk0 id nn (dB nn) 4 (dA s)) (v0 (Y (some ⟨w1.heap.size,0,O⟩) nn nn) (Y (some ⟨g,0,O⟩) (dA s).length cap))) 63);rw[hsz] at hnew;have hbR:Below w1.heap.size w1 ((w1.alloc (.cells (iM nn) 3)).alloc (.cells (mP (Rp.mk0 id nn (dB nn) 4 (dA s)) (v0 (Y (some ⟨w1.heap.size,0,O⟩) nn nn) (Y (some ⟨g,0,O⟩) (dA s).length cap))) 63)):=hbL.alloc hbL.size _
 have hOL2:=hOL.kp (S:=[]) (Kp.of_below ((Below.refl _ _).alloc (Nat.le_refl _) (.cells (mP (Rp.mk0 id nn (dB nn) 4 (dA s)) (v0 (Y (some ⟨w1.heap.size,0,O⟩) nn nn) (Y (some ⟨g,0,O⟩) (dA s).length cap))) 63))) (by simp)
 have hI2:=hI1.below hbR;have hT2:=(hT.below hb1).below hbR;clear hOL hbL hz hI1;generalize (w1.alloc (.cells (iM nn) 3)).alloc (.cells (mP (Rp.mk0 id nn (dB nn) 4 (dA s)) (v0 (Y (some ⟨w1.heap.size,0,O⟩) nn nn) (Y (some ⟨g,0,O⟩) (dA s).length cap))) 63)=w2 at *;have hb1s:=hb1.size;have hbR2:=hbR.size;have hRp:=ay.fresh (F:=[g]) hnew hOL2 hI2 ⟨fun k hk hc=>by
  simp[Value.ownBlock] at hk;subst hk;simp at hc;omega,fun k hk=>by simp[Value.ownBlock] at hk;subst hk;simp⟩ (fun x hx=>by simp at hx;subst hx;omega) hT2 (by simp;omega)
 have hRF:∀ x∈(w1.heap.size+1) :: w1.heap.size :: [g],w.heap.size≤x:=fun x hx=>by
  simp at hx;rcases hx with rfl|rfl|rfl <;> omega
 have HRF:=ah hRF;have HB:=ah (hb1.trans (hbR.mono hb1.size));have HMb:=ah (lV hRp HOk.out id);have HR:=ah hRp;have HME:Hid ((Rp.mk0 id nn (dB nn) 4 (dA s)).mem id=iQ (dA s) id):=rfl
 have c3:=hRp.c3;have f3:=hRp.free 3;clear hRp hRF hnew hOL2 hI2 hT2 hbR hb1 hT;rw[HME.out] at HMb;cases hm:iQ (dA s) id
 ·rw[hm] at HMb HNw;go_wp2_with fail;refine HMb.out.mono ?_;rintro e w3 ⟨rfl,hw3⟩;subst hw3;go_wp2;go_ret2;exact⟨_,_,_,_,_,rfl,by rw[HNw.out];exact HR.out,rfl,HRF.out,HB.out⟩
 ·rw[hm] at HMb HNw;have HS:=ah (HR.out.iW 1);have HB2:Hid (Below w.heap.size w (w2.setCell ⟨w1.heap.size+1,3,O⟩ (I J 1))):=HB.out.setCell (p:=⟨w1.heap.size+1,3,O⟩) (by show w.heap.size≤w1.heap.size+1;omega) _
  go_wp2_with fail;refine HMb.out.mono ?_;rintro e w3 ⟨rfl,hw3⟩;subst hw3;go_wp2;go_ret2;exact⟨_,_,_,_,_,rfl,by rw[HNw.out];exact HS.out,rfl,HRF.out,HB2.out⟩
theorem EH (id n life:Int) (w:World) (hT:Tab w) (hn:3≤n∧n≤7∧0≤id∧id<n) (hl:1≤life∧life≤999) (h0:0<w.heap.size) :
  Calls Tryz.prog 65 #[I J id,I J n,I J life] w fun e w'=>Cx w w' e (Rp.restart id n life):=by
 have HO:=ah (qN id n w);rw[decide_eq_true hn] at HO;obtain⟨nn,hnn⟩:∃ m:Nat,n=m:=⟨n.toNat,by omega⟩
 subst hnn;obtain⟨i,hii⟩:∃ m:Nat,id=m:=⟨id.toNat,by omega⟩
 subst hii;have hmk:=BX (nn:Int) (by omega) (by omega)
 rw[Int.toNat_natCast] at hmk;have HNw:Hid (Rp.restart i nn life=Rp.mk0 i nn ((dB nn).set i life) 3 []):=by unfold Hid Rp.restart;rw[Int.toNat_natCast,Int.toNat_natCast]
 have l1:=hl.1;have l2:=hl.2;have j1:(0:Int)≤(i:Int):=by omega
 have j2:(i:Int)<(nn:Int):=by omega
 go_enter Tryz.func65,Tryz.ntmps65;go_wp2_with fail;refine HO.out.mono ?_;rintro e w1 ⟨rfl,hw1⟩;subst hw1;have hbL:Below w1.heap.size w1 (w1.alloc (.cells (iM nn) 3)):=(Below.refl _ w1).alloc (Nat.le_refl _) _
 have hOL:oh (w1.alloc (.cells (iM nn) 3)) (Y (some ⟨w1.heap.size,0,O⟩) nn nn) w1.heap.size (dB nn):=Ce w1 nn (by omega)
 go_upto_region 4 with fail
 have hz:(((Tryz.zeroCells63.setIfInBounds 0 (I J (i:Int))).setIfInBounds 1 (I J (nn:Int))).setIfInBounds 2 (Y (some ⟨w1.heap.size,0,O⟩) nn nn)).setIfInBounds 3 (I J 3)=mP (Rp.mk0 i nn (dB nn) 3 []) (v0 (Y (some ⟨w1.heap.size,0,O⟩) nn nn) (Y O 0 0)):=rfl
 rw[hz];have hsz:(w1.alloc (.cells (iM nn) 3)).heap.size=w1.heap.size+1:=by simp
 have hnew:=heap_alloc_new (w1.alloc (.cells (iM nn) 3)) (.cells (mP (Rp.mk0 i nn (dB nn) 3 []) (v0 (Y (some ⟨w1.heap.size,0,O⟩) nn nn) (Y O 0 0))) 63);rw[hsz] at hnew;have hbR:Below w1.heap.size w1 ((w1.alloc (.cells (iM nn) 3)).alloc (.cells (mP (Rp.mk0 i nn (dB nn) 3 []) (v0 (Y (some ⟨w1.heap.size,0,O⟩) nn nn) (Y O 0 0))) 63)):=hbL.alloc hbL.size _
 have hOL2:=hOL.kp (S:=[]) (Kp.of_below ((Below.refl _ _).alloc (Nat.le_refl _) (.cells (mP (Rp.mk0 i nn (dB nn) 3 []) (v0 (Y (some ⟨w1.heap.size,0,O⟩) nn nn) (Y O 0 0))) 63))) (by simp)
 have hT2:=hT.below hbR;clear hOL hbL hz;generalize (w1.alloc (.cells (iM nn) 3)).alloc (.cells (mP (Rp.mk0 i nn (dB nn) 3 []) (v0 (Y (some ⟨w1.heap.size,0,O⟩) nn nn) (Y O 0 0))) 63)=w2 at *;have hRp:=ay.fresh (F:=[]) hnew hOL2 (gD _) (Sl.nil _ _) (fun x hx=>by cases hx) hT2 (by simp;omega)
 have hRF:∀ x∈(w1.heap.size+1) :: w1.heap.size :: [],w1.heap.size≤x:=fun x hx=>by
  simp at hx;rcases hx with rfl|rfl <;> omega
 have HRF:=ah hRF;have HS:=ah (hRp.IC i life);have HB2:Hid (Below w1.heap.size w1 (w2.setCell ⟨w1.heap.size,i,O⟩ (I J life))):=hbR.setCell (p:=⟨w1.heap.size,i,O⟩) (Nat.le_refl _) _
 have c2:w2.cell? ⟨w1.heap.size+1,2,O⟩=some (Y (some ⟨w1.heap.size,0,O⟩) nn nn):=hRp.c2
 have zl:(dB nn).length=nn:=by simp[dB]
 have hrl:=hRp.lives.rd;obtain⟨b4,o4,hb4e,hb4,z4⟩:=Ints.get hrl i (by show i<(dB nn).length;omega)
 simp only[Option.some.injEq,Addr.mk.injEq] at hb4e;obtain⟨rfl,rfl,_⟩:=hb4e
 simp only[Nat.zero_add] at z4;have zf:=hRp.lives.frozen i;obtain⟨va,z4'⟩:∃ v,w2.cell? ⟨w1.heap.size,i,O⟩=some (I J v):=⟨_,z4⟩
 clear z4;clear hRp hRF hnew hOL2 hT2 hbR hT zl hrl;go_wp2;go_ret2;exact⟨_,_,_,_,_,rfl,by rw[HNw.out];exact HS.out,rfl,HRF.out,HB2.out⟩
theorem Tryz.infoPk:(Tryz.prog.info? 102).map (fun i=>(i.zero,i.size,i.bytes))=some (some (.agg #[I J 0,I J 0,Z Ze]),3,32):=by kernel_rfl
section
variable {N:Nat} {w w':World} {g:Nat} {K K':Kw} {V V':Kv}
theorem KAt.cell (h:KAt N w g K V) (j:Nat):w.cell? ⟨g,j,O⟩=(mF K V)[j]?:=by simp[World.cell?,h.blk]
theorem KAt.free (h:KAt N w g K V) (j:Nat):w.frozen? ⟨g,j,O⟩=false:=by simp[World.frozen?,h.blk]
theorem KAt.lb (h:KAt N w g K V):g<w.heap.size:=lt_of_block h.blk
theorem KAt.rN (h:KAt N w g K V):w.ownsRow 0 29 1 V.vN K.nds.length (K.nds.map nE):=h.rows _ (List.mem_of_getElem? (i:=0) rfl)
theorem KAt.rD (h:KAt N w g K V):w.ownsRow 0 4 1 V.vD K.down.length (K.down.map Value.bool):=h.rows _ (List.mem_of_getElem? (i:=1) rfl)
theorem KAt.rB (h:KAt N w g K V):w.ownsRow 0 3 1 V.vB K.begun.length (K.begun.map (Value.int .i64)):=h.rows _ (List.mem_of_getElem? (i:=2) rfl)
theorem KAt.rP (h:KAt N w g K V):w.ownsRow 0 102 3 V.vP K.net.length (aA K.net):=h.rows _ (List.mem_of_getElem? (i:=3) rfl)
theorem KAt.rW (h:KAt N w g K V):w.ownsRow 0 99 6 V.vW K.wishes.length (bL K.wishes):=h.rows _ (List.mem_of_getElem? (i:=4) rfl)
theorem KAt.rO (h:KAt N w g K V):w.ownsRow 0 3 1 V.vO K.opn.length (K.opn.map (Value.int .i64)):=h.rows _ (List.mem_of_getElem? (i:=5) rfl)
theorem KAt.rL (h:KAt N w g K V):w.ownsRow 0 66 3 V.vL K.list.length (aA K.list):=h.rows _ (List.mem_of_getElem? (i:=6) rfl)
theorem KAt.rG (h:KAt N w g K V):w.ownsRow 0 9 1 V.vG K.groups.length (K.groups.map Value.string):=h.rows _ (List.mem_of_getElem? (i:=7) rfl)
theorem KAt.gne (h:KAt N w g K V) {i:Nat} {r:Row} (hi:(eY K V)[i]? = some r):some g≠r.v.ownBlock:=fun hc =>
 h.ap.ne (vT hi) AZ (by omega) g (by simp[← hc]) (by simp)
theorem mG (h:KAt N w g K V) (p:Int):Calls Tryz.prog 66 #[Zp (some ⟨g,0,O⟩),I J p] w fun e w'=>e=Zr (.bool false)∧Kst N w w' g K V { K with part:=p } V:=by
 have c0:w.cell? ⟨g,0,O⟩=some (I J K.part):=h.cell 0
 have f0:=h.free 0;have HS:=ah (h.scalar (K':={ K with part:=p }) 0 (I J p) rfl rfl rfl)
 clear h;go_enter Tryz.func66,Tryz.ntmps66;go_wp2;go_ret;exact⟨rfl,HS.out⟩
theorem lY (h:KAt N w g K V) (f t:Int) (s:ByteArray) (hl:K.net.length≤1000000000000) :
  Calls Tryz.prog 55 #[Zp (some ⟨g,0,O⟩),I J f,I J t,Z s] w fun e w'=>e=Zr (.tuple #[])∧∃ v,Kst N w w' g K V { K with net:=K.net++[(f,t,s)] } { V with vP:=v }:=by
 obtain⟨i0,hi,hz0,hz1,hz2⟩:=info_parts Tryz.infoPk
 have hrow:=h.rP;obtain⟨aP,cP,hvP⟩:=aj hrow
 have c7:w.cell? ⟨g,7,O⟩=some V.vP:=h.cell 7
 have f7:=h.free 7;have hne:some g≠V.vP.ownBlock:=h.gne (i:=3) rfl
 rw[hvP] at hrow c7 hne;have hlb:=h.lb;have HH:=ah h;clear h;go_enter Tryz.func55,Tryz.ntmps55;go_wp2_with (refine wpList_append_lies (w:=w.alloc (.cells #[I J f,I J t,Z s] 102)) (by rfl) (.tmp 12) (.tmp 17) 45 (by rfl) 0 102 i0 (.agg #[I J 0,I J 0,Z Ze]) 3 32 Tryz.underlying45 hi hz0 hz1 hz2 rfl (by decide) (Y aP K.net.length cP) K.net.length (aA K.net) (by rfl) (hrow.alloc _) ⟨w.heap.size,0,O⟩ 1 1 [I J f,I J t,Z s] (by rfl) (by rfl) (World.news_of_block (heap_alloc_new w (.cells #[I J f,I J t,Z s] 102))) (by intro u hu;simp at hu;rcases hu with rfl|rfl|rfl <;> rfl) (by decide) (by unfold maxLen;omega) (by omega) (Nat.zero_le _) (w.heap.size+1) (by simp) ?_;intro g4 cap4 w4 hown4 hg4 hat4 hlt4;have t7:w4.cell? ⟨g,7,O⟩=some (Y aP K.net.length cP):=(hg4.cell_far ⟨g,7,O⟩ (by simp;omega) hne).trans ((((Below.refl _ w).alloc (Nat.le_refl _) _).cell (p:=⟨g,7,O⟩) hlb).trans c7);have g7:w4.frozen? ⟨g,7,O⟩=false:=(hg4.frozen_far ⟨g,7,O⟩ (by simp;omega) hne).trans ((((Below.refl _ w).alloc (Nat.le_refl _) _).frozen (p:=⟨g,7,O⟩) hlb).trans f7))
 have hb2:Below w.heap.size w (w.alloc (.cells #[I J f,I J t,Z s] 102)):=(Below.refl _ w).alloc (Nat.le_refl _) _
 have e2:aA (K.net++[(f,t,s)])=aA K.net++[I J f,I J t,Z s]:=by simp[aA]
 have ho4:w4.ownsRow 0 102 3 (Y (some ⟨g4,0,O⟩) (K.net.length+1) cap4) (K.net++[(f,t,s)]).length (aA (K.net++[(f,t,s)])):=by
  rw[e2,show (K.net++[(f,t,s)]).length=K.net.length+1 by simp];exact hown4
 have HS:=ah (HH.out.newRow (V':={ V with vP:=Y (some ⟨g4,0,O⟩) (K.net.length+1) cap4 }) (K':={ K with net:=K.net++[(f,t,s)] }) (i:=3) (w1:=w4) (r:=⟨102,3,V.vP,K.net.length,aA K.net⟩) (r':=⟨102,3,Y (some ⟨g4,0,O⟩) (K.net.length+1) cap4,(K.net++[(f,t,s)]).length,aA (K.net++[(f,t,s)])⟩) rfl
  ((Kp.of_below hb2).trans' (by rw[hvP];exact Kp.row hg4)) ho4 (fun x hx=>by
   simp[Value.ownBlock] at hx;subst hx
   show V.vP.ownBlock=_∨_
   rw[hvP];exact hat4.imp id (fun q=>by omega)) 7 rfl rfl rfl)
 clear hown4 hg4 hat4 hlt4 ho4 e2 hb2;go_wp2;exact bodyPost_end (results_none rfl _ _ _) rfl ⟨rfl,_,HS.out⟩
end
def iO (key:Int) (v:Int) (op:ByteArray):Int :=
 if b1 op=key∧b0 op≠114 then (if b0 op=112 then bN op 2 else if b0 op=100 then 0 else if b0 op=99 then (if v=bN op 2 then bN op 3 else v) else v) else v
def jK (l:List En) (key:Int):Int:=l.foldl (fun v e=>iO key v e.2.2) 0
structure Kc (op:ByteArray):Prop where
 s2:2≤op.size
 s3:b0 op=112→3≤op.size
 s4:b0 op=99→4≤op.size
section
variable {N:Nat} {w w':World} {g:Nat} {K K':Kw} {V V':Kv}
theorem KAt.eL (h:KAt N w g K V):gW w V.vL K.list:=Rd.bR h.rL
theorem zM (h:KAt N w g K V) (n:Nat) (hn:n≤K.list.length) (key:Int) (hs:∀ e∈K.list,Kc e.2.2) :
  Calls Tryz.prog 146 #[Zp (some ⟨g,0,O⟩),I J n,I .u8 key] w fun e w'=>e=Zr (I .u8 (jK (K.list.take n) key))∧Below w.heap.size w w':=by
 have hP:=h.eL;obtain⟨aP,cP,hvP,hcap,hmax⟩:=hP.shape
 rw[hvP] at hP;have HC:Hid (∀ w2,Below w.heap.size w w2→w2.cell? ⟨g,10,O⟩=some (Y aP K.list.length cP)):=fun w2 hw2=>by rw[← hvP];exact (h.below hw2).cell 10
 have HT:Hid (∀ k,(hk:k<K.list.length)→Kc K.list[k].2.2):=fun k hk=>hs _ (List.getElem_mem hk)
 have HS:Hid (∀ k,(hk:k<K.list.length)→jK (K.list.take (k+1)) key=iO key (jK (K.list.take k) key) K.list[k].2.2):=fun k hk=>by
  rw[List.take_succ_eq_append_getElem hk];unfold jK;rw[List.foldl_append];rfl
 clear h hs;go_enter Tryz.func146,Tryz.ntmps146;go_wp2_with fail;go_loopw [7,8] (fun v i wr=>∃ k:Nat,k≤n∧i=I J k∧v=I .u8 (jK (K.list.take k) key)∧Below w.heap.size w wr) (fun _ i _=>n-(intOf i).toNat)
 case atStart=>exact⟨0,Nat.zero_le _,rfl,rfl,Below.refl _ _⟩
 case round =>
  obtain⟨k,hk,rfl,rfl,hbw⟩:=hrel
  have c7:=HC.out _ hbw;by_cases hlt:k<n
  ·obtain⟨b1',o1,rfl,_,d1,d2,d3⟩:=(hP.below hbw).get k (by omega)
   have j1:(0:Int)≤(k:Int):=by omega
   have j2:(k:Int)<(K.list.length:Int):=by omega
   have j3:(k:Int)<(n:Int):=by omega
   have sz:=HT.out k (by omega)
   have HE:=ah (HS.out k (by omega))
   generalize K.list[k].2.2=op at *;generalize jK (K.list.take k) key=v at *;have y2:=sz.s2;have z0:(0:Int)<(op.size:Int):=by omega
   have z1:(1:Int)<(op.size:Int):=by omega
   have hbn:∀ (k:Nat) (hk:k<op.size),bN op k=(op[k].toNat:Int):=fun k hk=>by unfold bN;rw[atS hk]
   have e0:b0 op=(op[0].toNat:Int):=hbn 0 (by omega)
   have e1:b1 op=(op[1].toNat:Int):=hbn 1 (by omega)
   have HX:Hid (iO key v op=if (op[1].toNat:Int)=key∧(op[0].toNat:Int)≠114 then (if (op[0].toNat:Int)=112 then bN op 2 else if (op[0].toNat:Int)=100 then 0 else if (op[0].toNat:Int)=99 then (if v=bN op 2 then bN op 3 else v) else v) else v):=by
    unfold iO;rw[e0,e1];trivial
   have S3:Hid ((op[0].toNat:Int)=112→(2:Int)<(op.size:Int)∧∃ h:2<op.size,bN op 2=(op[2].toNat:Int)):=fun hc=>by
    have:=sz.s3 (e0.trans hc);exact⟨by omega,by omega,hbn 2 (by omega)⟩
   have S4:Hid ((op[0].toNat:Int)=99→(2:Int)<(op.size:Int)∧(3:Int)<(op.size:Int)∧(∃ h:2<op.size,bN op 2=(op[2].toNat:Int))∧∃ h:3<op.size,bN op 3=(op[3].toNat:Int)):=fun hc=>by
    have:=sz.s4 (e0.trans hc);exact⟨by omega,by omega,⟨by omega,hbn 2 (by omega)⟩,by omega,hbn 3 (by omega)⟩
   clear e0 e1 hbn sz;by_cases h1:(op[1].toNat:Int)=key
   ·have h1':((op[1].toNat:Int)==key)=true:=beq_iff_eq.2 h1
    by_cases h0:(op[0].toNat:Int)=114
    ·have h0':((op[0].toNat:Int)==114)=true:=beq_iff_eq.2 h0
     have HY:Hid (iO key v op=v):=by rw[HX.out,if_neg (fun hc=>hc.2 h0)];trivial
     clear h0;go_wp2;go_roundw
     case rel=>exact⟨k+1,by omega,by go_num,by rw[HE.out,HY.out],hbw⟩
     case measure=>simp[intOf];omega
    ·have h0':((op[0].toNat:Int)==114)=false:=beq_eq_false_iff_ne.2 h0
     rw[if_pos ⟨h1,h0⟩] at HX;by_cases g1:(op[0].toNat:Int)=112
     ·obtain⟨y3,y4,y5⟩:=S3.out g1
      have g1':((op[0].toNat:Int)==112)=true:=beq_iff_eq.2 g1
      have HY:Hid (iO key v op=(op[2].toNat:Int)):=by rw[HX.out,if_pos g1];exact y5
      clear h0 g1 y5;go_wp2;go_roundw
      case rel=>exact⟨k+1,by omega,by go_num,by rw[HE.out,HY.out],hbw⟩
      case measure=>simp[intOf];omega
     ·have g1':((op[0].toNat:Int)==112)=false:=beq_eq_false_iff_ne.2 g1
      rw[if_neg g1] at HX;by_cases g2:(op[0].toNat:Int)=100
      ·have g2':((op[0].toNat:Int)==100)=true:=beq_iff_eq.2 g2
       have HY:Hid (iO key v op=0):=by rw[HX.out,if_pos g2];trivial
       clear h0 g1 g2;go_wp2;go_roundw
       case rel=>exact⟨k+1,by omega,by go_num,by rw[HE.out,HY.out],hbw⟩
       case measure=>simp[intOf];omega
      ·have g2':((op[0].toNat:Int)==100)=false:=beq_eq_false_iff_ne.2 g2
       rw[if_neg g2] at HX;by_cases g3:(op[0].toNat:Int)=99
       ·obtain⟨y3,y4,⟨y5,y6⟩,y7,y8⟩:=S4.out g3
        have g3':((op[0].toNat:Int)==99)=true:=beq_iff_eq.2 g3
        rw[if_pos g3,y6,y8] at HX;by_cases g4:v=(op[2].toNat:Int)
        ·have g4':(v==(op[2].toNat:Int))=true:=beq_iff_eq.2 g4
         have HY:Hid (iO key v op=(op[3].toNat:Int)):=by rw[HX.out,if_pos g4];trivial
         clear h0 g1 g2 g3 g4 y6 y8;go_wp2;go_roundw
         case rel=>exact⟨k+1,by omega,by go_num,by rw[HE.out,HY.out],hbw⟩
         case measure=>simp[intOf];omega
        ·have g4':(v==(op[2].toNat:Int))=false:=beq_eq_false_iff_ne.2 g4
         have HY:Hid (iO key v op=v):=by rw[HX.out,if_neg g4];trivial
         clear h0 g1 g2 g3 g4 y6 y8;go_wp2;go_roundw
         case rel=>exact⟨k+1,by omega,by go_num,by rw[HE.out,HY.out],hbw⟩
         case measure=>simp[intOf];omega
       ·have g3':((op[0].toNat:Int)==99)=false:=beq_eq_false_iff_ne.2 g3
        have HY:Hid (iO key v op=v):=by rw[HX.out,if_neg g3];trivial
        clear h0 g1 g2 g3;go_wp2;go_roundw
        case rel=>exact⟨k+1,by omega,by go_num,by rw[HE.out,HY.out],hbw⟩
        case measure=>simp[intOf];omega
   ·have h1':((op[1].toNat:Int)==key)=false:=beq_eq_false_iff_ne.2 h1
    have HY:Hid (iO key v op=v):=by rw[HX.out,if_neg (fun hc=>h1 hc.1)];trivial
    go_wp2;go_roundw
    case rel=>exact⟨k+1,by omega,by go_num,by rw[HE.out,HY.out],hbw⟩
    case measure=>simp[intOf];omega
  ·have hkn:k=n:=by omega
   subst hkn;go_wp2;go_ret;exact⟨rfl,hbw⟩
end
section
variable {w w0:World} {b bl:Nat} {W F:List Nat} {R:Rp} {V:Rv} {P:Pm} {vl vg vo vL:Value}
theorem l6 (h:ay w b bl W F R V):Calls Tryz.prog 30 #[Zp (some ⟨b,0,O⟩)] w fun e w'=>e=Zr (.tuple #[I J R.epoch,I J R.view,I J R.status,I J (R.decided:Int)])∧∃ n,w'=w.drewN n:=by
 have c3:=h.c3;have c4:=h.c4;have c5:=h.c5;have c10:=h.c10;go_enter Tryz.func30,Tryz.ntmps30;go_wp2_with fail;go_quiet (fail);rename_i nq;go_wp2;exact bodyPost_ret (v:=.tuple #[I J R.epoch,I J R.view,I J R.status,I J (R.decided:Int)]) (by simp[results,Tryz.results30,go_sem]) rfl ⟨rfl,nq,rfl⟩
theorem Ci (h:ay w b bl W F R V) (k:Int) (hk0:0≤k) (hk1:k≤255):Calls Tryz.prog 11 #[Zp (some ⟨b,0,O⟩),I .u8 k] w fun e w'=>e=Zr (Z (vI R.sv k))∧w'=w:=by
 have HC:Hid (Calls Tryz.prog 25 #[Zp (some ⟨b,11,O⟩),I .u8 k] w fun e w'=>e=Zr (Z (vI R.sv k))∧w'=w):=J2 h.sv k hk0 hk1
 go_enter Tryz.func11,Tryz.ntmps11;go_wp2_with fail;refine HC.out.mono ?_;rintro e w1 ⟨rfl,hw⟩;subst hw;go_wp2;go_ret;exact⟨rfl,rfl⟩
theorem EI (h:ay w b bl W F R V) (c:Int):Calls Tryz.prog 147 #[Zp (some ⟨b,0,O⟩),I J c] w fun e w'=>e=Zr (.tuple #[I J (jL R.sv c).1,Z (jL R.sv c).2])∧Below w.heap.size w w':=by
 have HC:Hid (Calls Tryz.prog 74 #[Zp (some ⟨b,11,O⟩),I J c] w fun e w'=>e=Zr (.tuple #[I J (jL R.sv c).1,Z (jL R.sv c).2])∧Below w.heap.size w w'):=xP h.sv c
 go_enter Tryz.func147,Tryz.ntmps147;go_wp2_with fail;refine HC.out.mono ?_;rintro e w1 ⟨rfl,hb⟩;go_wp2;go_ret2;exact⟨rfl,hb⟩
end
section
variable {N:Nat} {w w':World} {g:Nat} {K K':Kw} {V V':Kv}
theorem KAt.Pd {w1 w2:World} {q:Nat} {x':Nod} (h:KAt N w g K V) (hB:Below w.heap.size w w1) (hq:q<K.nds.length) (hR:ay w1 x'.b x'.bl x'.W x'.F x'.R x'.V) (hF:∀ y∈x'.F,w.heap.size≤y)
  (k:Kp V.vN.ownBlock.toList w1 w2) (ho:w2.ownsRow 0 29 1 V.vN (K.nds.set q x').length ((K.nds.set q x').map nE)):Kst N w w2 g K V { K with nds:=K.nds.set q x' } V:=by
 have h1:=h.below hB;have hq? : K.nds[q]? = some K.nds[q]:=List.getElem?_eq_getElem hq
 have hci:=zC (g:=g) (V:=V) hq?;have hc0:(dh g K V)[1]? = some V.vN.ownBlock.toList:=vT (i:=0) (r:=⟨29,1,V.vN,K.nds.length,K.nds.map nE⟩) rfl
 have hof:∀ t,t≠1→Off (dh g K V) V.vN.ownBlock.toList t:=fun t h1=>Off.one hc0 (fun _ h=>h) (fun hc=>h1 hc.symm)
 have hcm:dh g { K with nds:=K.nds.set q x' } V=(dh g K V).set (q+9) x'.F:=tJ rfl rfl
 have hno0:=h1.no0 (iC hc0);refine⟨⟨?_,?_,?_,?_,?_,h.n0,h1.tab.kp k hno0⟩,((Kp.of_below hB).trans' (k.wid (iC hc0))),?_⟩
 ·exact (h1.zh k (hof _ (by omega))).trans h1.blk
 ·intro r0 hr0;obtain⟨m,hm⟩:=List.getElem?_of_mem hr0
  cases m with
  | zero =>
   have:r0=⟨29,1,V.vN,(K.nds.set q x').length,(K.nds.set q x').map nE⟩:=by
    have:some _=some r0:=hm
    exact (Option.some.inj this).symm
   subst this;exact ho
  | succ m =>
   have hm':(eY K V)[m+1]? = some r0:=hm
   exact h1.oO k hm' (hof _ (by omega))
 ·intro y hy;obtain⟨m,hm⟩:=List.getElem?_of_mem hy
  by_cases e:q=m
  ·subst e;rw[List.getElem?_set_self hq] at hm;cases hm;refine hR.far k (fun z hz hc=>?_) hno0
   have:=h.lt _ (List.mem_of_getElem? hc0) z hz
   have:=hF z hc
   omega
  ·rw[List.getElem?_set_ne e] at hm;exact h1.oJ k hm (hof _ (by omega))
 ·rw[hcm];exact h.ap.put h.lt (fun a ha y hy=>.inr (hF y hy))
 ·rw[hcm];intro c hcc y hy;rcases List.mem_or_eq_of_mem_set hcc with p|rfl
  ·exact h.lo c p y hy
  ·have:=h.Nlt;have:=hF y hy;omega
 ·intro y hy;unfold iy at hy;rw[hcm] at hy;obtain⟨c,hcc,hy⟩:=List.mem_flatten.1 hy
  rcases List.mem_or_eq_of_mem_set hcc with p|rfl
  ·exact .inl (List.mem_flatten.2 ⟨c,p,hy⟩)
  ·exact .inr (hF y hy)
end
section
variable {w w0:World} {b bl:Nat} {W F:List Nat} {R:Rp} {V:Rv} {P:Pm} {vl vg vo vL:Value}
theorem JO (E:En) (n:Int) (w:World) (hs:E.2.2.size≤maxLen):Calls Tryz.prog 45 #[.agg #[I J E.1,I J E.2.1,Z E.2.2],I J n] w fun e w'=>∃ a k c,e=Zr (Y a k c)∧a.isNone=Rp.eH E n∧Below w.heap.size w w' :=
 (nV E.1 E.2.1 E.2.2 n w hs).mono fun e w' q=>by
  obtain⟨v,rfl,q1,q2,q3⟩:=q
  unfold Rp.eH eT;cases hr:(iU E.2.2&&aV (E.2.2.extract 1 E.2.2.size).data.toList n)
  ·have:=q2.2 hr
   subst this;exact⟨O,0,0,rfl,rfl,q3⟩
  ·have hro:iU E.2.2=true:=by rw[Bool.and_eq_true] at hr;exact hr.1
   rcases (q1 hro).2 with ⟨h,_⟩|⟨g,cap,cur,h,_⟩
   ·rw[q2.1 h] at hr;cases hr
   ·subst h;exact⟨_,_,_,rfl,rfl,q3⟩
theorem EM (h:ay w b bl W F R V) (hR:Ok R) (cl:Int):Calls Tryz.prog 43 #[Zp (some ⟨b,0,O⟩),I J cl] w fun e w'=>e=Zr (I J (R.iP cl))∧w'=w:=by
 have hl10:=hR.lg;have c9:=h.c9;obtain⟨aL,cL,hv⟩:=h.g9
 have hE:=h.ents;rw[hv] at c9 hE;have HS:Hid (∀ k,Rp.sM R.log cl (k+1)=if (R.log.getD k (0,0,⟨#[]⟩)).1=cl then (R.log.getD k (0,0,⟨#[]⟩)).2.1 else Rp.sM R.log cl k):=fun k=>rfl
 have HZ:Hid (Rp.sM R.log cl 0=0):=rfl
 have HD:Hid (R.iP cl=Rp.sM R.log cl R.log.length):=rfl
 clear h;go_enter Tryz.func43,Tryz.ntmps43;go_wp2_with fail;go_loop [5] (fun i=>∃ k:Nat,k≤R.log.length∧i=I J ((k:Int)-1)∧R.iP cl=Rp.sM R.log cl k) (fun i=>(intOf i+1).toNat)
 case atStart=>exact⟨R.log.length,Nat.le_refl _,by go_num,HD.out⟩
 case round =>
  obtain⟨k,hk,rfl,hk2⟩:=hrel
  have HK:=ah hk2;clear hk2;by_cases hz:k=0
  ·subst hz;have HE:Hid (R.iP cl=0):=by unfold Hid;rw[HK.out,HZ.out]
   go_wp2;go_ret;exact⟨nS HE.out.symm,rfl⟩
  ·obtain⟨j,rfl⟩:∃ j,k=j+1:=⟨k-1,by omega⟩
   have hlt:j<R.log.length:=by omega
   have eD:R.log.getD j (0,0,⟨#[]⟩)=R.log[j]:=by simp[List.getD,hlt]
   have HSj:Hid (Rp.sM R.log cl (j+1)=if R.log[j].1=cl then R.log[j].2.1 else Rp.sM R.log cl j):=by unfold Hid;rw[HS.out,eD]
   obtain⟨be,oe,rfl,hbe,e0,e1,e2⟩:=hE.get j hlt
   have j1:(0:Int)≤(j:Int):=by omega
   have j2:(j:Int)<(R.log.length:Int):=by omega
   have j3:(((j+1:Nat):Int)-1)=(j:Int):=by omega
   clear eD;rw[j3];generalize R.log[j]=s at *;cases hq:(s.1==cl)
   ·have HE:Hid (R.iP cl=Rp.sM R.log cl j):=by unfold Hid;rw[HK.out,HSj.out,if_neg (by simpa using hq)]
    go_wp2_with fail;go_round
    case rel=>exact⟨j,by omega,by go_num,HE.out⟩
    case measure=>simp[intOf]
   ·have HE:Hid (R.iP cl=s.2.1):=by unfold Hid;rw[HK.out,HSj.out,if_pos (by simpa using hq)]
    go_wp2;go_ret;exact⟨nS HE.out.symm,rfl⟩
theorem Bn (h:Rst w0 w b bl W F R) (E:En) (hc:1≤E.1∧E.1≤9) (hn:0≤E.2.1∧E.2.1≤999) (hz:(jL R.sv E.1).2.size≤1000) (ho:R.out.length≤900000) :
  Calls Tryz.prog 44 #[Zp (some ⟨b,0,O⟩),.agg #[I J E.1,I J E.2.1,Z E.2.2]] w fun e w'=>e=Zr (.tuple #[])∧Rst w0 w' b bl W F (R.gy E):=by
 obtain⟨W1,F1,V1,h1,k1,m1⟩:=h
 have hbA:Below w.heap.size w (w.alloc (.cells #[I J E.1,I J E.2.1,Z E.2.2] 66)):=(Below.refl _ w).alloc (Nat.le_refl _) _
 have hnew:(w.alloc (.cells #[I J E.1,I J E.2.1,Z E.2.2] 66)).heap[w.heap.size]? = _:=heap_alloc_new w (.cells #[I J E.1,I J E.2.1,Z E.2.2] 66)
 have h2:=h1.below hbA;have HSA:Hid (Rst w0 (w.alloc (.cells #[I J E.1,I J E.2.1,Z E.2.2] 66)) b bl W F R):=Rst.step k1 m1 (Rst.of h2 (Kp.of_below hbA))
 have HE0:Hid (R.gy E=if (jL R.sv E.1).1=E.2.1 then R.reply E.1 E.2.1 (jL R.sv E.1).2 else R):=rfl
 have hcS:∀ (d:Nat) (os:Array Obj),Calls Tryz.prog 74 #[Zp (some ⟨b,11,O⟩),I J E.1] (Go.Sort.grow (redrawn (w.alloc (.cells #[I J E.1,I J E.2.1,Z E.2.2] 66)) d) os) fun e w'=>e=Zr (.tuple #[I J (jL R.sv E.1).1,Z (jL R.sv E.1).2])∧Below (Go.Sort.grow (redrawn (w.alloc (.cells #[I J E.1,I J E.2.1,Z E.2.2] 66)) d) os).heap.size (Go.Sort.grow (redrawn (w.alloc (.cells #[I J E.1,I J E.2.1,Z E.2.2] 66)) d) os) w':=fun d os=>xP (h2.below (below_regrown _ d os)).sv E.1
 clear h1 k1 m1 hbA;go_enter Tryz.func44,Tryz.ntmps44;go_upto_region 1 with fail
 generalize w.alloc (.cells #[I J E.1,I J E.2.1,Z E.2.2] 66)=wA at *;have e0:wA.cell? ⟨w.heap.size,0,O⟩=some (I J E.1):=by simp[World.cell?,hnew]
 have e1:wA.cell? ⟨w.heap.size,1,O⟩=some (I J E.2.1):=by simp[World.cell?,hnew]
 have ke0:=cell_regrown e0;have cS:=fun d os=>Calls.regrown_of (w:=wA) (d:=d) (os:=os) (hcS d os)
 generalize jL R.sv E.1=ss at *;go_wp2_with fail;refine wp_region_quiet_below (by kernel_rfl) (by kernel_rfl) ?_
 repeat (go_big_quiet_step (first|exact cS _ _))
 refine wpQuiet_nil ?_;intro w2 hw';have hb2:Below wA.heap.size wA w2:=by
  obtain⟨⟨dq,osq⟩,hw''⟩:=hw'
  rw[hw''];exact below_regrown wA dq osq
 have f0:=(hb2.cell (p:=⟨w.heap.size,0,O⟩) (lt_of_block hnew)).trans e0;have f1:=(hb2.cell (p:=⟨w.heap.size,1,O⟩) (lt_of_block hnew)).trans e1;have HS2:=ah (HSA.out.below hb2);clear hw' cS hcS ke0 e0 e1 h2 hb2;cases hq:(ss.1==E.2.1)
 ·have HE:Hid (R.gy E=R):=by unfold Hid;rw[HE0.out,if_neg (by simpa using hq)]
  go_wp2;exact bodyPost_end (results_none rfl _ _ _) rfl ⟨rfl,by rw[HE.out];exact HS2.out⟩
 ·have HE:Hid (R.gy E=R.reply E.1 E.2.1 ss.2):=by unfold Hid;rw[HE0.out,if_pos (by simpa using hq)]
  go_wp2_with fail;refine (Ar HS2.out E.1 E.2.1 ss.2 hc hn hz (by omega)).mono ?_
  rintro e w3 ⟨rfl,hs3⟩;have HS3:=ah hs3;clear hs3;go_wp2;exact bodyPost_end (results_none rfl _ _ _) rfl ⟨rfl,by rw[HE.out];exact HS3.out⟩
end
end Go.Proofs.YtbnihoahhomooaaGreatDoor
