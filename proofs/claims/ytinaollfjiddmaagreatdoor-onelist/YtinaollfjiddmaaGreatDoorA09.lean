import Derived.Test.YtinaollfjiddmaaGreatDoorA07
import Derived.Test.YtinaollfjiddmaaGreatDoorA08
import Derived.Laws.StructEq
import Derived.Test.YtinaollfjiddmaaGreatDoorCards
import Derived.Test.YtinaollfjiddmaaGreatDoorTie
import Derived.ProofKit
import Derived.OpenShut
import Derived.Deep.DeepHandedRow
import Derived.Lib.LaidTab
import Derived.Deep.Slices
import Derived.Carry
import Derived.SevenTiedAt
import Derived.LaidMore
set_option maxRecDepth 100000
set_option maxHeartbeats 8000000
set_option linter.all false
namespace Go.Proofs.YtinaollfjiddmaaGreatDoor
open Go.Value renaming int→I,slice→Y,string→Z,pointer→Zp
open Go.Ending renaming returned→Zr
open _root_.ByteArray renaming empty→Ze
open Go.IntKind renaming i64→J
open Option renaming none→O
open Go.RowKit
theorem gL (w:World):Ints w (Y O 0 0) []:=⟨rfl,.inl ⟨rfl,rfl⟩⟩
theorem qP (w:World):iw w (Y O 0 0) []:=⟨rfl,.inl ⟨rfl,rfl⟩⟩
section
variable {w:World} {b bl:Nat} {W F:List Nat} {R:Rp} {V:Rv}
theorem IG {n:Int} {g:List Int} (h:fG n g) (hn:n≤7):g.length≤1000∧∀ x∈g,0≤x∧x≤999999999 :=
 ⟨by have:=h.1;omega,fun x hx=>by have:=h.2 x hx;omega⟩
theorem lv_w {l:List Int} (h:∀ x∈l,0≤x∧x≤999):∀ x∈l,0≤x∧x≤999999999:=fun x hx=>by have:=h x hx;omega
structure Mk (R:Rp) (P:Pm):Prop where
 frm:P.frm=R.id
 lives:P.lives=R.lives
 ep:P.epoch=R.epoch
 vi:0≤P.view∧P.view≤999
 kd:0≤P.kind∧P.kind<128
 pl:0≤P.place∧P.place≤999
 en:uJ P.ent
 co:0≤P.commit∧P.commit≤999
 no:0≤P.normal∧P.normal≤999
 li:0≤P.life∧P.life≤999
 g:fG R.n P.grp
 o:fG R.n P.old
 l:oD R.n P.log
theorem Mk.pw {P:Pm} (h:Ok R) (k:Mk R P):PmW P:=by
 have a:=h.n7;have b:=h.ll;have d:=h.i1;refine⟨by rw[k.lives];omega,(IG k.g a).1,(IG k.o a).1,by have:=k.l.1;omega,by rw[k.lives];exact lv_w h.lb,(IG k.g a).2,(IG k.o a).2,fun x c=>(k.l.2 x c).w,by have:=k.pl;omega,by have:=k.co;omega,by have:=k.no;omega,by have:=k.li;omega,k.en,by rw[k.frm];have:=h.i0;omega,by rw[k.ep];have:=h.ep;omega,by have:=k.vi;omega,k.kd⟩
theorem Dm (h:Ok R) {k:Int} (hk:0≤k∧k<128):Mk R (R.head k) :=
 ⟨rfl,rfl,rfl,h.vi,hk,by simp[Rp.head,pm0],tZ,by simp[Rp.head,pm0],by simp[Rp.head,pm0],by simp[Rp.head,pm0],fG.nil _,fG.nil _,⟨by simp[Rp.head,pm0],by simp[Rp.head,pm0]⟩⟩
theorem EM (h:Ok R):Mk R R.aC :=
 ⟨rfl,rfl,rfl,h.vi,by simp[Rp.aC,Rp.head],by simp[Rp.aC,Rp.head,pm0],tZ,by have:=h.dc;have:=h.lg;simp[Rp.aC];omega,by simp[Rp.aC,Rp.head,pm0],by simp[Rp.aC,Rp.head,pm0],h.g,h.o,⟨h.lg,h.le⟩⟩
theorem Qh (h:Ok R):Mk R R.iA :=
 ⟨rfl,rfl,rfl,by simp[Rp.iA],by simp[Rp.iA,Rp.aC,Rp.head],by simp[Rp.iA,Rp.aC,Rp.head,pm0],tZ,by have:=CO R.log R.epoch;have:=h.lg;simp only[Rp.iA];omega,by simp[Rp.iA,Rp.aC,Rp.head,pm0],by simp[Rp.iA,Rp.aC,Rp.head,pm0],h.g,h.o,oD.upto ⟨h.lg,h.le⟩ _⟩
theorem Qi (h:Ok R):Mk R R.dw :=
 ⟨rfl,rfl,rfl,h.vi,by simp[Rp.dw,Rp.head],by simp[Rp.dw,Rp.head,pm0],tZ,by have:=h.dc;have:=h.lg;simp[Rp.dw];omega,h.no,by simp[Rp.dw,Rp.head,pm0],fG.nil _,fG.nil _,⟨h.lg,h.le⟩⟩
theorem LZ (h:Ok R) {p:Int} (h1:1≤p) (h2:p≤R.log.length):Mk R (R.dA p) :=
 ⟨rfl,rfl,rfl,h.vi,by simp[Rp.dA,Rp.head],by have:=h.lg;simp only[Rp.dA];omega,(h.le _ (Pt (by omega))).w,by have:=h.dc;have:=h.lg;simp[Rp.dA];omega,by simp[Rp.dA,Rp.head,pm0],by simp[Rp.dA,Rp.head,pm0],fG.nil _,fG.nil _,⟨by simp[Rp.dA,Rp.head,pm0],by simp[Rp.dA,Rp.head,pm0]⟩⟩
theorem Qg (h:Ok R):Mk R { R.head 107 with place:=R.log.length } :=
 ⟨rfl,rfl,rfl,h.vi,by simp[Rp.head],by have:=h.lg;simp;omega,tZ,by simp[Rp.head,pm0],by simp[Rp.head,pm0],by simp[Rp.head,pm0],fG.nil _,fG.nil _,⟨by simp[Rp.head,pm0],by simp[Rp.head,pm0]⟩⟩
theorem JZ (h:Ok R):Mk R { R.head 99 with commit:=R.decided } :=
 ⟨rfl,rfl,rfl,h.vi,by simp[Rp.head],by simp[Rp.head,pm0],tZ,by have:=h.dc;have:=h.lg;simp;omega,by simp[Rp.head,pm0],by simp[Rp.head,pm0],fG.nil _,fG.nil _,⟨by simp[Rp.head,pm0],by simp[Rp.head,pm0]⟩⟩
theorem JY (h:Ok R) {x:Int} (hx:0≤x∧x≤999):Mk R { R.aC with kind:=97,life:=x } :=
 ⟨rfl,rfl,rfl,h.vi,by simp,by simp[Rp.aC,Rp.head,pm0],tZ,by have:=h.dc;have:=h.lg;simp[Rp.aC];omega,by simp[Rp.aC,Rp.head,pm0],hx,h.g,h.o,⟨h.lg,h.le⟩⟩
theorem au.rdH (h:au w b bl W F R V) (k:Int):mV w (R.head k) V.vl (Y O 0 0) (Y O 0 0) (Y O 0 0):=⟨h.lives.rd,gL _,gL _,qP _⟩
theorem au.frH (h:au w b bl W F R V):PmFr (b :: V.vt.ownBlock.toList) V.vl (Y O 0 0) (Y O 0 0) (Y O 0 0):=⟨h.frl,Fr.nil _ _ _,Fr.nil _ _ _,Fr.nil _ _ _⟩
theorem au.rdS (h:au w b bl W F R V):mV w R.aC V.vl V.vg V.vo V.vL:=⟨h.lives.rd,h.grp,h.old,h.ents⟩
theorem au.frT (h:au w b bl W F R V):PmFr (b :: V.vt.ownBlock.toList) V.vl V.vg V.vo V.vL:=⟨h.frl,h.frS h.sg.fr,h.frS h.so.fr,h.frL⟩
theorem Snt.pre {w0 w1:World} {R1:Rp} (hb:Below w0.heap.size w0 w) (h:Snt w w1 b bl W F V R1):Snt w0 w1 b bl W F V R1:=by
 obtain⟨W',F',vt,h⟩:=h;exact⟨W',F',vt,h.pre hb⟩
theorem DI (h:au w b bl W F R V) (hR:Ok R) (qt k:Int) (hk:0≤k∧k<128) (ho:R.out.length≤900000) :
  Calls Tryz.prog 90 #[Zp (some ⟨b,0,O⟩),I J qt,I .u8 k] w fun e w'=>e=Zr (.tuple #[])∧Snt w w' b bl W F V (R.bare qt k):=by
 obtain⟨m,a⟩:=h.g2
 have j:=ah (lY h k);rw[a] at j;have g:Hid (∀ w',Below w.heap.size w w'→Calls Tryz.prog 87 #[Zp (some ⟨b,0,O⟩),I J qt,.agg #[I .u8 k,I J R.id,Y (some ⟨bl,0,O⟩) R.lives.length m,I J R.epoch,I J R.view,I J 0,I J 0,I J 0,Z ⟨#[]⟩,I J 0,I J 0,I J 0,Y O 0 0,Y O 0 0,Y O 0 0]] w' fun e c=>e=Zr (.tuple #[])∧Snt w c b bl W F V (R.bare qt k)):=fun w' i=>by
  have l:=(h.below i).rdH k;rw[a] at l;refine (nI (h.below i) qt (R.head k) _ _ _ _ ((Dm hR hk).pw hR) l (by omega)).mono ?_
  rintro e c ⟨rfl,f⟩;exact⟨rfl,f.pre i⟩
 go_enter Tryz.func90,Tryz.ntmps90;go_wp2_with fail;refine j.out.mono ?_;rintro e o ⟨rfl,d⟩;simp only[pmC,Rp.head,pm0];go_wp2_with fail;refine (g.out _ (d.alloc d.size _)).mono ?_;rintro e p ⟨rfl,f⟩;have n:=ah f;clear f;go_wp2;exact bodyPost_end (results_none rfl _ _ _) rfl ⟨rfl,n.out⟩
theorem OG (h:au w b bl W F R V) (hR:Ok R) (qt:Int) (ho:R.out.length≤900000) :
  Calls Tryz.prog 131 #[Zp (some ⟨b,0,O⟩),I J qt] w fun e w'=>e=Zr (.tuple #[])∧Snt w w' b bl W F V (R.ack qt):=by
 obtain⟨q,c⟩:=h.g2
 obtain⟨s,t,g⟩:=h.g9
 have l:=ah (lY h 107);rw[c] at l;have i:Hid (∀ w',Below w.heap.size w w'→Calls Tryz.prog 87 #[Zp (some ⟨b,0,O⟩),I J qt,.agg #[I .u8 107,I J R.id,Y (some ⟨bl,0,O⟩) R.lives.length q,I J R.epoch,I J R.view,I J (R.log.length:Int),I J 0,I J 0,Z ⟨#[]⟩,I J 0,I J 0,I J 0,Y O 0 0,Y O 0 0,Y O 0 0]] w' fun e d=>e=Zr (.tuple #[])∧Snt w d b bl W F V (R.ack qt)):=fun w' j=>by
  have m:mV w' { R.head 107 with place:=R.log.length } V.vl (Y O 0 0) (Y O 0 0) (Y O 0 0):=⟨(h.below j).lives.rd,gL _,gL _,qP _⟩
  rw[c] at m;refine (nI (h.below j) qt { R.head 107 with place:=R.log.length } _ _ _ _ ((Qg hR).pw hR) m (by omega)).mono ?_
  rintro e d ⟨rfl,f⟩;exact⟨rfl,f.pre j⟩
 go_enter Tryz.func131,Tryz.ntmps131;go_wp2_with fail;refine l.out.mono ?_;rintro e n ⟨rfl,a⟩;have c9:=(h.below a).c9;rw[g] at c9;have k:=(h.below a).lb;have u:=fun o=>(((Below.refl n.heap.size n).alloc (Nat.le_refl _) o).cell (p:=⟨b,9,O⟩) k).trans c9
 simp only[pmC,Rp.head,pm0];go_wp2_with fail;refine (i.out _ (a.alloc a.size _)).mono ?_;rintro e v ⟨rfl,f⟩;have r:=ah f;clear f;go_wp2;exact bodyPost_end (results_none rfl _ _ _) rfl ⟨rfl,r.out⟩
theorem sM (h:au w b bl W F R V) :
  Calls Tryz.prog 86 #[Zp (some ⟨b,0,O⟩)] w fun e w'=>e=Zr (.agg (pmC R.aC V.vl V.vg V.vo V.vL))∧Below w.heap.size w w':=by
 obtain⟨l,u⟩:=h.g2
 obtain⟨m,n,v⟩:=h.g9
 obtain⟨ag,q,x⟩:=h.g7
 obtain⟨r,s,y⟩:=h.g8
 have d:Below w.heap.size w (w.alloc (.cells #[I .u8 0,I J 0,Y O 0 0,I J 0,I J 0,I J 0,I J 0,I J 0,Z ⟨#[]⟩,I J 0,I J 0,I J 0,Y O 0 0,Y O 0 0,Y O 0 0] 68)):=(Below.refl _ w).alloc (Nat.le_refl _) _
 have z:dD (w.alloc (.cells #[I .u8 0,I J 0,Y O 0 0,I J 0,I J 0,I J 0,I J 0,I J 0,Z ⟨#[]⟩,I J 0,I J 0,I J 0,Y O 0 0,Y O 0 0,Y O 0 0] 68)) w.heap.size (jc 0):=⟨rfl,heap_alloc_new w _⟩
 have D:=h.below d;have E:=ah (lY D 115);rw[u] at E;go_enter Tryz.func86,Tryz.ntmps86;go_wp2_with fail;generalize w.alloc (.cells #[I .u8 0,I J 0,Y O 0 0,I J 0,I J 0,I J 0,I J 0,I J 0,Z ⟨#[]⟩,I J 0,I J 0,I J 0,Y O 0 0,Y O 0 0,Y O 0 0] 68)=U at *;refine E.out.mono ?_;rintro e i ⟨rfl,f⟩;have t:=D.below f;have A:=z.kp (S:=[]) (Kp.of_below f) (by simp)
 have c7:=t.c7;have c8:=t.c8;have c9:=t.c9;have c10:=t.c10;rw[x] at c7;rw[y] at c8;rw[v] at c9;have g:=t.lb;have a:=fun o=>(Below.refl i.heap.size i).alloc (Nat.le_refl _) o
 have X:=fun o=>((a o).cell (p:=⟨b,7,O⟩) g).trans c7
 have m8:=fun o=>((a o).cell (p:=⟨b,8,O⟩) g).trans c8
 have m9:=fun o=>((a o).cell (p:=⟨b,9,O⟩) g).trans c9
 have G:=fun o=>((a o).cell (p:=⟨b,10,O⟩) g).trans c10
 have c:Below w.heap.size w i:=d.trans (f.mono d.size)
 simp only[pmC,Rp.head,pm0];have j:Below i.heap.size i (i.alloc (.cells #[I .u8 115,I J R.id,Y (some ⟨bl,0,O⟩) R.lives.length l,I J R.epoch,I J R.view,I J 0,I J 0,I J 0,Z ⟨#[]⟩,I J (R.decided:Int),I J 0,I J 0,Y ag R.grp.length q,Y r R.old.length s,Y m R.log.length n] 68)):=a _
 have k:=A.kp (S:=[]) (Kp.of_below j) (by simp)
 have B:dD (i.alloc (.cells #[I .u8 115,I J R.id,Y (some ⟨bl,0,O⟩) R.lives.length l,I J R.epoch,I J R.view,I J 0,I J 0,I J 0,Z ⟨#[]⟩,I J (R.decided:Int),I J 0,I J 0,Y ag R.grp.length q,Y r R.old.length s,Y m R.log.length n] 68)) w.heap.size #[I .u8 0,I J 0,Y O 0 0,I J 0,I J 0,I J 0,I J 0,I J 0,Z ⟨#[]⟩,I J 0,I J 0,I J 0,Y O 0 0,Y O 0 0,Y O 0 0]:=k
 have C:=I8 k (I .u8 115) (I J R.id) (Y (some ⟨bl,0,O⟩) R.lives.length l) (I J R.epoch) (I J R.view) (I J 0) (I J 0) (I J 0) (Z ⟨#[]⟩) (I J (R.decided:Int)) (I J 0) (I J 0) (Y ag R.grp.length q) (Y r R.old.length s) (Y m R.log.length n);have H:=ah (qY C);clear C;have K:=ah (fP (Nat.le_refl w.heap.size) [I .u8 115,I J R.id,Y (some ⟨bl,0,O⟩) R.lives.length l,I J R.epoch,I J R.view,I J 0,I J 0,I J 0,Z ⟨#[]⟩,I J (R.decided:Int),I J 0,I J 0,Y ag R.grp.length q,Y r R.old.length s,Y m R.log.length n] (i.alloc (.cells #[I .u8 115,I J R.id,Y (some ⟨bl,0,O⟩) R.lives.length l,I J R.epoch,I J R.view,I J 0,I J 0,I J 0,Z ⟨#[]⟩,I J (R.decided:Int),I J 0,I J 0,Y ag R.grp.length q,Y r R.old.length s,Y m R.log.length n] 68)) 0 (c.trans (j.mono c.size)));obtain⟨y0,y1,y2,y3,y4,y5,y6,y7,y8,y9,L,M,N,P,Q,yf⟩:=B.all
 have T:Hid (Value.agg (pmC R.aC V.vl V.vg V.vo V.vL)=.agg #[I .u8 115,I J R.id,Y (some ⟨bl,0,O⟩) R.lives.length l,I J R.epoch,I J R.view,I J 0,I J 0,I J 0,Z ⟨#[]⟩,I J (R.decided:Int),I J 0,I J 0,Y ag R.grp.length q,Y r R.old.length s,Y m R.log.length n]):=by unfold Hid;rw[u,x,y,v];rfl
 clear B k j a A z t D d f c;go_wp2;exact bodyPost_ret (dO rfl _ _ _ rfl H.out) rfl ⟨by rw[T.out],K.out⟩
end
theorem lH (x:En) (l:List En):regs (x :: l)=(if fA x then 1 else 0)+regs l:=by
 unfold regs;rw[List.countP_cons];omega
theorem lX (l m:List En):regs (l++m)=regs l+regs m:=by unfold regs;rw[List.countP_append]
theorem Au (l:List En) (k:Nat):regs l=regs (l.take k)+regs (l.drop k):=by
 rw[← lX,List.take_append_drop]
theorem fV (l:List En) (k:Nat):regs (l.take k)≤regs l:=by rw[Au l k];omega
theorem lI (l:List En) {i j:Nat} (h:i≤j):regs (l.take i)≤regs (l.take j):=by
 have:l.take i=(l.take j).take i:=by rw[List.take_take,Nat.min_eq_left h]
 rw[this];exact fV _ _
theorem kH (l:List En) (k:Nat) (hk:k<l.length):regs (l.take (k+1))=regs (l.take k)+(if fA l[k] then 1 else 0):=by
 rw[List.take_succ_eq_append_getElem hk,lX,lH];simp[regs]
def iG:List En→Nat→Nat
 | _,0=>0
 | [],_+1=>0
 | x :: l,e+1=>1+iG l (if fA x then e else e+1)
theorem oU (l:List En):iG l 0=0:=by cases l <;> rfl
theorem CV:∀ (l:List En) (e:Nat),iG l e≤l.length
 | l,0=>by rw[oU];omega
 | [],_+1=>Nat.le_refl _
 | x :: l,e+1=>by
  have:=CV l (if fA x then e else e+1)
  simp only[iG,List.length_cons];omega
theorem jo:∀ (l:List En) (e:Nat),e≤regs l→regs (l.take (iG l e))=e
 | l,0,_=>by rw[oU];rfl
 | [],e+1,h=>by simp[regs] at h
 | x :: l,e+1,h=>by
  rw[lH] at h;simp only[iG];rw[Nat.add_comm 1,List.take_succ_cons,lH];by_cases hx:fA x=true
  ·rw[if_pos hx] at h ⊢;rw[if_pos hx,jo l e (by omega)];omega
  ·rw[if_neg hx] at h ⊢;rw[if_neg hx,jo l (e+1) (by omega)];omega
theorem oP:∀ (l m:List En) (e:Nat),e≤regs l→iG (l++m) e=iG l e
 | l,m,0,_=>by rw[oU,oU]
 | [],m,e+1,h=>by simp[regs] at h
 | x :: l,m,e+1,h=>by
  rw[lH] at h;simp only[List.cons_append,iG];by_cases hx:fA x=true
  ·rw[if_pos hx] at h ⊢;rw[oP l m e (by omega)]
  ·rw[if_neg hx] at h ⊢;rw[oP l m (e+1) (by omega)]
theorem Lc {l L:List En} {e:Nat} (he:e≤regs L) (h:l.take (iG L e)=L.take (iG L e)):iG l e=iG L e:=by
 have r:=jo L e he;have a:iG (l.take (iG L e)++l.drop (iG L e)) e=iG (l.take (iG L e)) e:=oP _ _ _ (by rw[h,r];omega)
 have b:iG (L.take (iG L e)++L.drop (iG L e)) e=iG (L.take (iG L e)) e:=oP _ _ _ (by rw[r];omega)
 rw[List.take_append_drop] at a b;rw[a,h,← b]
theorem oQ:∀ (l:List En) (e:Nat),1≤e→e≤regs l→∃ i,iG l e=i+1∧i<l.length∧fA (l.getD i (0,0,⟨#[]⟩))=true
 | l,0,h,_=>by omega
 | [],e+1,_,h=>by simp[regs] at h
 | x :: l,e+1,_,h=>by
  rw[lH] at h;simp only[iG];by_cases hx:fA x=true
  ·rw[if_pos hx] at h ⊢;cases e with
   | zero=>exact⟨0,by rw[oU],by simp,by simpa using hx⟩
   | succ e =>
    obtain⟨i,h1,h2,h3⟩:=oQ l (e+1) (by omega) (by omega)
    exact⟨i+1,by omega,by simp;omega,by simpa using h3⟩
  ·rw[if_neg hx] at h ⊢;obtain⟨i,h1,h2,h3⟩:=oQ l (e+1) (by omega) (by omega)
   exact⟨i+1,by omega,by simp;omega,by simpa using h3⟩
theorem AX {l:List En} {e:Nat} (h1:1≤e) (h2:e≤regs l):CK l (e:Int)=iG l e:=by
 obtain⟨i,d,a,b⟩:=oQ l e h1 h2
 have q:=jo l e h2;rw[d] at q ⊢;have c:(List.range l.length).find? (fun i=>fA (l.getD i (0,0,⟨#[]⟩))&&((regs (l.take (i+1)):Int)==(e:Int)))=some i:=by
  rw[List.find?_range_eq_some];refine⟨?_,List.mem_range.2 a,fun j f=>?_⟩
  ·rw[b,q];simp
  ·have m:=lI l (i:=j+1) (j:=i) (by omega)
   have s:regs (l.take (i+1))=regs (l.take i)+1:=by
    rw[List.take_succ_eq_append_getElem a,lX];have:fA l[i]=true:=by rw[List.getD_eq_getElem?_getD,List.getElem?_eq_getElem a] at b;exact b
    rw[lH,if_pos this];simp[regs]
   have:¬(regs (l.take (j+1))=e):=by omega
   simp only[Bool.not_eq_true',Bool.and_eq_false_iff];exact .inr (by rw[beq_eq_false_iff_ne];omega)
 unfold CK;rw[c]
def mTx (e:En) (E:Int):ByteArray:=⟨#[109,32]⟩++dg e.1++SP++dg e.2.1++SP++dg E++SP++e.2.2.extract 1 e.2.2.size
abbrev Wt:=List (En×ByteArray)
def Jw (T:Wt) (l:List En):Prop:=∀ (p:Nat) (h:p<l.length),fA l[p]=true→∀ y∈T,y.1=l[p]→y.2=mTx l[p] (regs (l.take p))
structure Lg (L:List En) (T:Wt) (e:Int) (l:List En):Prop where
 e0:0≤e
 le:e≤regs L
 ln:iG L e.toNat≤l.length
 pre:l.take (iG L e.toNat)=L.take (iG L e.toNat)
 rg:(regs l:Int)≤e+1
 jw:Jw T l
 pv:∀ x∈l,∃ y∈T,y.1=x
theorem Lg.ge {L:List En} {T:Wt} {e:Int} {l:List En} (h:Lg L T e l):e≤regs l:=by
 have r:=jo L e.toNat (by have:=h.le;have:=h.e0;omega)
 rw[← h.pre] at r;have:=fV l (iG L e.toNat)
 have:=h.e0
 omega
theorem Lg.mono {L L':List En} {T:Wt} {e:Int} {l:List En} (h:Lg L T e l) (hL:L <+: L'):Lg L' T e l:=by
 obtain⟨m,rfl⟩:=hL
 have le:e.toNat≤regs L:=by have:=h.le;have:=h.e0;omega
 have b:=oP L m e.toNat le;have a:=CV L e.toNat;refine⟨h.e0,?_,by rw[b];exact h.ln,?_,h.rg,h.jw,h.pv⟩
 ·rw[lX];have:=h.le;omega
 ·rw[b,h.pre,List.take_append_of_le_length a]
theorem Lg.upto {L:List En} {T:Wt} {e:Int} {l:List En} (h:Lg L T e l) (h1:1≤e):dP l e=L.take (iG L e.toNat)∧Lg L T e (dP l e)∧(regs (dP l e):Int)=e:=by
 have le:e.toNat≤regs L:=by have:=h.le;have:=h.e0;omega
 have g:=h.ge;have i:=CV L e.toNat;have d:CK l e=iG L e.toNat:=by
  have:=AX (l:=l) (e:=e.toNat) (by omega) (by omega)
  rw[Int.toNat_of_nonneg h.e0] at this;rw[this];exact Lc le h.pre
 have a:dP l e=L.take (iG L e.toNat):=by unfold dP;rw[d,h.pre]
 have r:=jo L e.toNat le;have c:dP l e=l.take (iG L e.toNat):=by rw[a,h.pre]
 refine⟨a,⟨h.e0,h.le,?_,?_,?_,?_,?_⟩,?_⟩
 ·rw[a,List.length_take];omega
 ·rw[a,List.take_take,Nat.min_self]
 ·rw[a,r];omega
 ·rw[c];intro p hp hr y hy hye;have b:p<l.length:=by rw[List.length_take] at hp;omega
  have q:(l.take (iG L e.toNat))[p]=l[p]:=by simp
  rw[q] at hr hye ⊢;have:(l.take (iG L e.toNat)).take p=l.take p:=by rw[List.take_take,Nat.min_eq_left (by rw[List.length_take] at hp;omega)]
  rw[this];exact h.jw p b hr y hy hye
 ·rw[c];exact fun x f=>h.pv x (List.mem_of_mem_take f)
 ·rw[a,r];have:=h.e0;omega
theorem Lg.snoc {L:List En} {T:Wt} {e:Int} {l:List En} (h:Lg L T e l) (hc:(regs l:Int)≤e) {x:En} (hp:∃ y∈T,y.1=x) (hx:fA x=true→∀ y∈T,y.1=x→y.2=mTx x e):Lg L T e (l++[x]):=by
 have b:=h.ge;refine⟨h.e0,h.le,by have:=h.ln;simp;omega,?_,?_,?_,?_⟩
 ·rw[List.take_append_of_le_length h.ln];exact h.pre
 ·rw[lX,lH];simp[regs];split <;> (simp only[regs] at hc;omega)
 ·intro p hp' hr y hy hye;by_cases q:p<l.length
  ·rw[List.getElem_append_left q] at hr hye ⊢;rw[List.take_append_of_le_length (by omega)]
   exact h.jw p q hr y hy hye
  ·have a:p=l.length:=by simp at hp';omega
   subst a;simp only[List.getElem_append_right (Nat.le_refl _),Nat.sub_self,List.getElem_cons_zero] at hr hye ⊢;rw[List.take_append_of_le_length (Nat.le_refl _),List.take_length,show (regs l:Int)=e by omega]
   exact hx hr y hy hye
 ·intro z hz;rcases List.mem_append.1 hz with q|q
  ·exact h.pv z q
  ·simp at q;subst q;exact hp
theorem yZ {op:ByteArray}:b0 op=114↔jk op=true:=by
  unfold jk b0
  cases op.data.toList with
  | nil=>simp
  | cons a l =>
    simp only[List.getD_cons_zero,List.head?_cons,beq_iff_eq,Option.some.injEq]
    constructor
    · intro q
      exact UInt8.toNat_inj.1 (by have : a.toNat = 114 := by omega
                                  rw[this];rfl)
    · rintro rfl;rfl
def Ap (L:List (List Nat)):Prop:=L.Pairwise (fun a b=>∀ x∈a,x∉b)
theorem Ap.ne {L:List (List Nat)} {i j:Nat} {a b:List Nat} (h:Ap L) (hi:L[i]? = some a) (hj:L[j]? = some b) (hne:i≠j):∀ x∈a,x∉b:=by
 obtain⟨c,rfl⟩:=List.getElem?_eq_some_iff.1 hi
 obtain⟨d,rfl⟩:=List.getElem?_eq_some_iff.1 hj
 have h:=List.pairwise_iff_getElem.1 h;intro x hx hc;rcases Nat.lt_or_ge i j with q|q
 ·exact h i j c d q x hx hc
 ·exact h j i d c (by omega) x hc hx
theorem Ap.put {L:List (List Nat)} {i N:Nat} {c:List Nat} (h:Ap L) (hl:∀ a∈L,∀ x∈a,x<N) (hc:∀ a,L[i]? = some a→∀ x∈c,x∈a∨N≤x):Ap (L.set i c):=by
 refine List.pairwise_iff_getElem.2 (fun p q f g d x e b=>?_)
 simp only[List.length_set] at f g;have h:=List.pairwise_iff_getElem.1 h;rw[List.getElem_set] at e b;by_cases j:i=p
 ·subst j;rw[if_pos rfl] at e;rw[if_neg (by omega)] at b
  rcases hc _ (List.getElem?_eq_getElem f) x e with k|k
  ·exact h i q f g d x k b
  ·have:=hl _ (List.getElem_mem g) x b;omega
 ·rw[if_neg j] at e;by_cases l:i=q
  ·subst l;rw[if_pos rfl] at b;rcases hc _ (List.getElem?_eq_getElem g) x b with k|k
   ·exact h p i f g d x e k
   ·have:=hl _ (List.getElem_mem f) x e;omega
  ·rw[if_neg l] at b;exact h p q f g d x e b
structure Nod where
 b:Nat
 bl:Nat
 W:List Nat
 F:List Nat
 R:Rp
 V:Rv
structure ku where
 e:En
 text:ByteArray
 floor:Int
 bad:Bool
structure Kw where
 part:Int
 n:Int
 nds:List Nod
 down:List Bool
 begun:List Int
 lives:Int
 top:Int
 net:List (Int×Int×ByteArray)
 wishes:List ku
 opn:List Int
 list:List En
 groups:List ByteArray
 floor:Int
structure Kv where
 vN:Value
 vD:Value
 vB:Value
 vP:Value
 vW:Value
 vO:Value
 vL:Value
 vG:Value
structure Row where
 e:TypeId
 s:Nat
 v:Value
 n:Nat
 xs:List Value
def bT:List ku→List Value
 | []=>[]
 | x :: l=>I J x.e.1 :: I J x.e.2.1 :: Z x.e.2.2 :: Z x.text :: I J x.floor :: .bool x.bad :: bT l
def nR (x:Nod):Value:=Zp (some ⟨x.b,0,O⟩)
def mg (K:Kw) (V:Kv):Array Value:=#[I J K.part,I J K.n,V.vN,V.vD,V.vB,I J K.lives,I J K.top,V.vP,V.vW,V.vO,V.vL,V.vG,I J K.floor]
def fC (K:Kw) (V:Kv):List Row :=
  [⟨29,1,V.vN,K.nds.length,K.nds.map nR⟩,⟨4,1,V.vD,K.down.length,K.down.map Value.bool⟩,⟨3,1,V.vB,K.begun.length,K.begun.map (Value.int .i64)⟩,
   ⟨102,3,V.vP,K.net.length,aA K.net⟩,⟨99,6,V.vW,K.wishes.length,bT K.wishes⟩,⟨3,1,V.vO,K.opn.length,K.opn.map (Value.int .i64)⟩,
   ⟨66,3,V.vL,K.list.length,aA K.list⟩,⟨9,1,V.vG,K.groups.length,K.groups.map Value.string⟩]
def dB (g:Nat) (K:Kw) (V:Kv):List (List Nat):=[g] :: ((fC K V).map (fun r=>r.v.ownBlock.toList)++K.nds.map (·.F))
def je (g:Nat) (K:Kw) (V:Kv):List Nat:=(dB g K V).flatten
structure KAt (N:Nat) (w:World) (g:Nat) (K:Kw) (V:Kv):Prop where
 blk:w.heap[g]? = some (.cells (mg K V) 50 (0,0))
 rows:∀ r∈fC K V,w.ownsRow 0 r.e r.s r.v r.n r.xs
 nodes:∀ x∈K.nds,au w x.b x.bl x.W x.F x.R x.V
 ap:Ap (dB g K V)
 lo:∀ c∈dB g K V,∀ x∈c,N≤x
 n0:0<N
 tab:Tab w
section
variable {N:Nat} {w w':World} {g:Nat} {K K':Kw} {V V':Kv}
theorem KAt.lt (h:KAt N w g K V):∀ c∈dB g K V,∀ x∈c,x<w.heap.size:=by
 intro c a x hx;rcases List.mem_cons.1 a with rfl|a
 ·simp at hx;subst hx;exact lt_of_block h.blk
 rcases List.mem_append.1 a with a|a
 ·obtain⟨r,b,rfl⟩:=List.mem_map.1 a
  exact ((h.rows r b).lt x (by simpa using hx)).2
 ·obtain⟨r,b,rfl⟩:=List.mem_map.1 a
  exact (h.nodes r b).fl x hx
theorem xA {i:Nat} {r:Row} (hi:(fC K V)[i]? = some r):(dB g K V)[i+1]? = some r.v.ownBlock.toList:=by
 have a:=(List.getElem?_eq_some_iff.1 hi).1;unfold dB;rw[List.getElem?_cons_succ,List.getElem?_append_left (by simpa using a),List.getElem?_map,hi]
 rfl
theorem zP {q:Nat} {x:Nod} (hq:K.nds[q]? = some x):(dB g K V)[q+9]? = some x.F:=by
 unfold dB;rw[List.getElem?_cons_succ,List.getElem?_append_right (by simp[fC])]
 simp[fC,hq]
theorem Bf:(dB g K V)[0]? = some [g]:=rfl
def Off (L:List (List Nat)) (S:List Nat) (t:Nat):Prop:=∀ x∈S,∃ i c,i≠t∧L[i]? = some c∧x∈c
theorem Off.one {L:List (List Nat)} {S c:List Nat} {t i:Nat} (hi:L[i]? = some c) (hS:∀ x∈S,x∈c) (hne:i≠t):Off L S t:=fun x hx=>⟨i,c,hne,hi,hS x hx⟩
theorem Off.app {L:List (List Nat)} {S S':List Nat} {t:Nat} (h:Off L S t) (k:Off L S' t):Off L (S++S') t:=fun x hx=>by
 rcases List.mem_append.1 hx with q|q
 ·exact h x q
 ·exact k x q
theorem Off.no {L:List (List Nat)} {S c:List Nat} {t:Nat} (h:Off L S t) (ha:Ap L) (ht:L[t]? = some c):∀ x∈S,x∉c:=fun x hx hc=>by
 obtain⟨i,d,hne,hi,hd⟩:=h x hx
 exact ha.ne hi ht hne x hd hc
theorem KAt.zC (h:KAt N w g K V) {S:List Nat} (k:Kp S w w') (ho:Off (dB g K V) S 0):w'.heap[g]? = w.heap[g]? :=
 k.block g (lt_of_block h.blk) (fun hc=>ho.no h.ap Bf g hc (by simp))
theorem KAt.pI (h:KAt N w g K V) {S:List Nat} {j:Nat} {r:Row} (k:Kp S w w') (hj:(fC K V)[j]? = some r) (ho:Off (dB g K V) S (j+1)):w'.ownsRow 0 r.e r.s r.v r.n r.xs :=
 fF (h.rows r (List.mem_of_getElem? hj)) k (fun x hx hc=>ho.no h.ap (xA hj) x hc (by simp[hx]))
theorem KAt.no0 (h:KAt N w g K V) {S:List Nat} (hS:∀ x∈S,x∈je g K V):0∉S:=fun hc=>by
 obtain⟨c,h1,h2⟩:=List.mem_flatten.1 (hS 0 hc)
 have:=h.lo c h1 0 h2
 have:=h.n0
 omega
theorem iP {L:List (List Nat)} {i:Nat} {c:List Nat} (hi:L[i]? = some c):∀ x∈c,x∈L.flatten:=fun _ hx=>List.mem_flatten.2 ⟨c,List.mem_of_getElem? hi,hx⟩
theorem KAt.pE (h:KAt N w g K V) {S:List Nat} {q:Nat} {x:Nod} (k:Kp S w w') (hq:K.nds[q]? = some x) (ho:Off (dB g K V) S (q+9)):au w' x.b x.bl x.W x.F x.R x.V :=
 (h.nodes x (List.mem_of_getElem? hq)).far k (ho.no h.ap (zP hq)) (h.no0 fun y a=>by
  obtain⟨i,c,_,d,e⟩:=ho y a
  exact iP d y e)
theorem KAt.below (h:KAt N w g K V) (k:Below w.heap.size w w'):KAt N w' g K V :=
 ⟨(k.block g (lt_of_block h.blk)).trans h.blk,fun r a=>dh (h.rows r a) k,fun x b=>(h.nodes x b).below k,h.ap,h.lo,h.n0,h.tab.below k⟩
structure Kst (N:Nat) (w w':World) (g:Nat) (K:Kw) (V:Kv) (K':Kw) (V':Kv):Prop where
 at_:KAt N w' g K' V'
 kp:Kp (je g K V) w w'
 sub:∀ x∈je g K' V',x∈je g K V∨w.heap.size≤x
theorem Kst.refl (h:KAt N w g K V):Kst N w w g K V K V:=⟨h,Kp.refl _ _,fun _ h=>.inl h⟩
theorem Kst.trans {w1 w2:World} {K1 K2:Kw} {V1 V2:Kv} (h:Kst N w w1 g K V K1 V1) (k:Kst N w1 w2 g K1 V1 K2 V2):Kst N w w2 g K V K2 V2:=by
 have c:=h.kp.size;refine⟨k.at_,h.kp.trans k.kp (fun x a b=>?_),fun x a=>?_⟩
 ·rcases h.sub x a with q|q
  ·exact q
  ·omega
 ·rcases k.sub x a with q|q
  ·exact h.sub x q
  ·right;omega
theorem Kst.below {w1 w2:World} {K1:Kw} {V1:Kv} (h:Kst N w w1 g K V K1 V1) (k:Below w1.heap.size w1 w2):Kst N w w2 g K V K1 V1:=⟨h.at_.below k,h.kp.aS k,h.sub⟩
theorem KAt.NU (h:KAt N w g K V):∀ x∈je g K V,N≤x:=fun x hx=>by
 obtain⟨c,hc,hx⟩:=List.mem_flatten.1 hx
 exact h.lo c hc x hx
theorem KAt.Nlt (h:KAt N w g K V):N<w.heap.size:=Nat.lt_of_le_of_lt (h.lo [g] (by simp[dB]) g (by simp)) (lt_of_block h.blk)
theorem KAt.scalar (h:KAt N w g K V) (j:Nat) (v:Value) (hc:mg K' V=(mg K V).setIfInBounds j v) (hr:fC K' V=fC K V) (hn:K'.nds=K.nds):Kst N w (w.setCell ⟨g,j,O⟩ v) g K V K' V:=by
 have k:Kp [g] w (w.setCell ⟨g,j,O⟩ v):=(Kp.refl _ w).set g j v (.inl (by simp))
 have a:dB g K' V=dB g K V:=by unfold dB;rw[hr,hn]
 have d:je g K' V=je g K V:=by unfold je;rw[a]
 have b:∀ t,t≠0→Off (dB g K V) [g] t:=fun t e=>Off.one (i:=0) Bf (fun _ h=>h) (fun hc=>e hc.symm)
 refine⟨⟨?_,?_,?_,?_,?_,h.n0,h.tab.kp k (h.no0 (iP (i:=0) Bf))⟩,k.wid (iP (i:=0) Bf),fun x c=>.inl (d▸c)⟩
 ·rw[hc];exact heap_setCell_same w g _ _ _ v h.blk
 ·intro r hr';rw[hr] at hr';obtain⟨i,f⟩:=List.getElem?_of_mem hr'
  exact h.pI k f (b _ (by omega))
 ·intro x c;rw[hn] at c;obtain⟨q,l⟩:=List.getElem?_of_mem c
  exact h.pE k l (b _ (by omega))
 ·rw[a];exact h.ap
 ·rw[a];exact h.lo
theorem zQ {i:Nat} {r':Row} (hi:i<(fC K V).length) (hr:fC K' V'=(fC K V).set i r') (hn:K'.nds=K.nds):dB g K' V'=(dB g K V).set (i+1) r'.v.ownBlock.toList:=by
 unfold dB;rw[hr,hn,List.set_cons_succ,List.map_set,List.set_append,if_pos (by simpa using hi)]
theorem KAt.newRow {w1:World} {i:Nat} {r r':Row} (h:KAt N w g K V) (hi:(fC K V)[i]? = some r) (k:Kp r.v.ownBlock.toList w w1) (ho:w1.ownsRow 0 r'.e r'.s r'.v r'.n r'.xs) (hb:∀ x,r'.v.ownBlock=some x→r.v.ownBlock=some x∨w.heap.size≤x)
  (j:Nat) (hc:mg K' V'=(mg K V).setIfInBounds j r'.v) (hr:fC K' V'=(fC K V).set i r') (hn:K'.nds=K.nds):Kst N w (w1.setCell ⟨g,j,O⟩ r'.v) g K V K' V':=by
 have o:=(List.getElem?_eq_some_iff.1 hi).1;have d:=xA (g:=g) hi;have y:Kp ([g]++r.v.ownBlock.toList) w (w1.setCell ⟨g,j,O⟩ r'.v):=(k.wid (S':=[g]++r.v.ownBlock.toList) (fun x b=>by simp at b;simp[b])).set g j _ (.inl (by simp))
 have p:∀ t,t≠0→t≠i+1→Off (dB g K V) ([g]++r.v.ownBlock.toList) t:=fun t C D=>Off.app (Off.one (i:=0) Bf (fun _ h=>h) (fun hc=>C hc.symm)) (Off.one d (fun _ h=>h) (fun hc=>D hc.symm))
 have u:∀ x∈[g]++r.v.ownBlock.toList,x∈je g K V:=fun x b=>by
  rcases List.mem_append.1 b with q|q
  ·exact iP (i:=0) Bf x q
  ·exact iP d x q
 have f:dB g K' V'=(dB g K V).set (i+1) r'.v.ownBlock.toList:=zQ o hr hn
 have E:=lt_of_block h.blk;have A:r'.v.ownBlock≠some g:=fun hc=>by
  rcases hb g hc with q|q
  ·exact h.ap.ne d Bf (by omega) g (by simp[q]) (by simp)
  ·omega
 refine⟨⟨?_,?_,?_,?_,?_,h.n0,h.tab.kp y (h.no0 u)⟩,y.wid u,?_⟩
 ·rw[hc];exact heap_setCell_same w1 g _ _ _ _ ((h.zC k (Off.one d (fun _ h=>h) (by omega))).trans h.blk)
 ·intro r0 hr0;rw[hr] at hr0;obtain⟨m,z⟩:=List.getElem?_of_mem hr0
  by_cases e:i=m
  ·subst e;rw[List.getElem?_set_self o] at z;cases z;exact fF ho ((Kp.refl [g] w1).set g j _ (.inl (by simp))) (fun x b hc=>by simp at hc;subst hc;exact A b)
  ·rw[List.getElem?_set_ne e] at z;exact h.pI y z (p _ (by omega) (by omega))
 ·intro x b;rw[hn] at b;obtain⟨q,F⟩:=List.getElem?_of_mem b
  have:(fC K V).length=8:=rfl
  exact h.pE y F (p _ (by omega) (by omega))
 ·rw[f];refine h.ap.put h.lt (fun a B x b=>?_)
  rw[d] at B;cases B;rcases hb x (by simpa using b) with q|q
  ·left;simp[q]
  ·exact .inr q
 ·rw[f];intro c l x b;rcases List.mem_or_eq_of_mem_set l with q|rfl
  ·exact h.lo c q x b
  ·rcases hb x (by simpa using b) with q|q
   ·exact h.lo _ (List.mem_of_getElem? d) x (by simp[q])
   ·have:=h.Nlt;omega
 ·intro x b;unfold je at b;rw[f] at b;obtain⟨c,l,b⟩:=List.mem_flatten.1 b
  rcases List.mem_or_eq_of_mem_set l with q|rfl
  ·exact .inl (List.mem_flatten.2 ⟨c,q,b⟩)
  ·rcases hb x (by simpa using b) with q|q
   ·exact .inl (iP d x (by simp[q]))
   ·exact .inr q
theorem KAt.inRow {w1:World} {i:Nat} {r r':Row} (h:KAt N w g K V) (hi:(fC K V)[i]? = some r) (k:Kp r.v.ownBlock.toList w w1) (ho:w1.ownsRow 0 r'.e r'.s r'.v r'.n r'.xs) (hv:r'.v=r.v)
  (hc:mg K' V=mg K V) (hr:fC K' V=(fC K V).set i r') (hn:K'.nds=K.nds):Kst N w w1 g K V K' V:=by
 have d:=(List.getElem?_eq_some_iff.1 hi).1;have a:=xA (g:=g) hi;have b:∀ t,t≠i+1→Off (dB g K V) r.v.ownBlock.toList t:=fun t o=>Off.one a (fun _ h=>h) (fun hc=>o hc.symm)
 have c:dB g K' V=dB g K V:=by
  rw[zQ d hr hn,hv];obtain⟨p,u⟩:=List.getElem?_eq_some_iff.1 a
  rw[← u];exact List.set_getElem_self p
 have l:je g K' V=je g K V:=by unfold je;rw[c]
 have:(fC K V).length=8:=rfl
 refine⟨⟨?_,?_,?_,c▸h.ap,c▸h.lo,h.n0,h.tab.kp k (h.no0 (iP a))⟩,k.wid (iP a),fun x f=>.inl (l▸f)⟩
 ·rw[hc,← h.blk];exact h.zC k (b _ (by omega))
 ·intro r0 hr0;rw[hr] at hr0;obtain⟨m,j⟩:=List.getElem?_of_mem hr0
  by_cases e:i=m
  ·subst e;rw[List.getElem?_set_self d] at j;cases j;exact ho
  ·rw[List.getElem?_set_ne e] at j;exact h.pI k j (b _ (by omega))
 ·intro x f;rw[hn] at f;obtain⟨q,y⟩:=List.getElem?_of_mem f
  exact h.pE k y (b _ (by omega))
theorem uo {q:Nat} {x':Nod} (hr:(fC K' V).map (fun r=>r.v.ownBlock.toList)=(fC K V).map (fun r=>r.v.ownBlock.toList)) (hn:K'.nds=K.nds.set q x'):dB g K' V=(dB g K V).set (q+9) x'.F:=by
 unfold dB;rw[hr,hn,List.set_cons_succ,List.set_append,if_neg (by simp[fC]),List.map_set]
 simp[fC]
theorem KAt.nod {w1:World} {q:Nat} {x x':Nod} (h:KAt N w g K V) (hq:K.nds[q]? = some x) (hb:x'.b=x.b) (k:Kp x.F w w1) (hR:au w1 x'.b x'.bl x'.W x'.F x'.R x'.V) (hF:∀ y∈x'.F,y∈x.F∨w.heap.size≤y):Kst N w w1 g K V { K with nds:=K.nds.set q x' } V:=by
 have o:=(List.getElem?_eq_some_iff.1 hq).1;have d:=zP (g:=g) (V:=V) hq;have i:∀ t,t≠q+9→Off (dB g K V) x.F t:=fun t u=>Off.one d (fun _ h=>h) (fun v=>u v.symm)
 have r:fC { K with nds:=K.nds.set q x' } V=fC K V:=by
  have e:(K.nds.set q x').map nR=K.nds.map nR:=by
   rw[List.map_set];have:nR x'=(K.nds.map nR)[q]'(by simpa using o):=by
    rw[List.getElem_map,(List.getElem?_eq_some_iff.1 hq).2];unfold nR;rw[hb]
   rw[this];exact List.set_getElem_self _
  unfold fC;simp only[e,List.length_set]
 have j:dB g { K with nds:=K.nds.set q x' } V=(dB g K V).set (q+9) x'.F:=uo (by rw[r]) rfl
 refine⟨⟨?_,?_,?_,?_,?_,h.n0,h.tab.kp k (h.no0 (iP d))⟩,k.wid (iP d),?_⟩
 ·exact (h.zC k (i _ (by omega))).trans h.blk
 ·intro r0 hr0;rw[r] at hr0;obtain⟨m,l⟩:=List.getElem?_of_mem hr0
  have:(fC K V).length=8:=rfl
  have:=(List.getElem?_eq_some_iff.1 l).1
  exact h.pI k l (i _ (by omega))
 ·intro y f;obtain⟨m,l⟩:=List.getElem?_of_mem f
  by_cases e:q=m
  ·subst e;rw[List.getElem?_set_self o] at l;cases l;exact hR
  ·rw[List.getElem?_set_ne e] at l;exact h.pE k l (i _ (by omega))
 ·rw[j];refine h.ap.put h.lt (fun a s y f=>?_)
  rw[d] at s;cases s;exact hF y f
 ·rw[j];intro c n y f;rcases List.mem_or_eq_of_mem_set n with p|rfl
  ·exact h.lo c p y f
  ·rcases hF y f with p|p
   ·exact h.lo _ (List.mem_of_getElem? d) y p
   ·have:=h.Nlt;omega
 ·intro y f;unfold je at f;rw[j] at f;obtain⟨c,n,f⟩:=List.mem_flatten.1 f
  rcases List.mem_or_eq_of_mem_set n with p|rfl
  ·exact .inl (List.mem_flatten.2 ⟨c,p,f⟩)
  ·exact (hF y f).imp (fun p=>iP d y p) id
end
section
variable {w:World} {b bl:Nat} {W F:List Nat} {R:Rp} {V:Rv}
theorem Ol (h:au w b bl W F R V):w.heap.size∉b :: V.vt.ownBlock.toList:=fun a=>by
 rcases List.mem_cons.1 a with a|a
 ·have:=h.lb;omega
 ·have:=(h.out.lt w.heap.size (by simpa using a)).2;omega
theorem jF (h:au w b bl W F R V) (vr:Value) (l:List Int) (P:Pm) (vl vg vo vL:Value) (hW:PmW P) (hR:mV w P vl vg vo vL) (hF:PmFr (b :: V.vt.ownBlock.toList) vl vg vo vL) (hr:Ints w vr l) (hrf:Fr (b :: V.vt.ownBlock.toList) vr) (hl:l.length≤1000) (ho:R.out.length≤900000) :
  Calls Tryz.prog 123 #[Zp (some ⟨b,0,O⟩),vr,.agg (pmC P vl vg vo vL)] w fun e w'=>e=Zr (.tuple #[])∧Snt w w' b bl W F V (R.eZ l P):=by
 obtain⟨o,p,rfl,_,_⟩:=hR.lives.shape
 obtain⟨ag,r,rfl,_,_⟩:=hR.grp.shape
 obtain⟨s,t,rfl,_,_⟩:=hR.old.shape
 obtain⟨u,v,rfl,_,_⟩:=hR.log.shape
 obtain⟨ar,cr,rfl,_,_⟩:=hr.shape
 have K:Hid (∀ (R:Rp) (V:Rv) (W F:List Nat) (H:Int) (w:World),au w b bl W F R V→mV w P (Y o P.lives.length p) (Y ag P.grp.length r) (Y s P.old.length t) (Y u P.log.length v)→R.out.length≤1000000 →
  Calls Tryz.prog 87 #[Zp (some ⟨b,0,O⟩),I J H,.agg (pqC P o p ag r s t u v)] w fun e w'=>e=Zr (.tuple #[])∧Snt w w' b bl W F V (R.send H P)) :=
  fun R V W F H w h hR ho=>nI h H P _ _ _ _ hW hR ho
 clear hW;have d:Below w.heap.size w (w.alloc (.cells (pqC P o p ag r s t u v) 68)):=(Below.refl _ w).alloc (Nat.le_refl _) _
 have f:=heap_alloc_new w (.cells (pqC P o p ag r s t u v) 68);have hA:=h.below d;have L:=hR.below d;have M:=hr.below d;have N:=Ol h;have HL:Hid (∀ k,(R.eZ (l.take k) P).out.length≤1000000):=fun k=>by
  unfold Rp.eZ;simp only[List.length_append,List.length_map];have:=List.length_filter_le (fun x=>x != R.id) (l.take k)
  rw[List.length_take] at this;omega
 have Q:Hid (R.eZ (l.take 0) P=R):=by unfold Hid Rp.eZ;simp
 have T:Hid (R.eZ (l.take l.length) P=R.eZ l P):=by unfold Hid;rw[List.take_length]
 have U:Hid (∀ k (y:k<l.length),(l[k]==R.id)=false→(R.eZ (l.take k) P).send l[k] P=R.eZ (l.take (k+1)) P):=fun k y q=>by
  unfold Rp.eZ Rp.send Rp.put;rw[List.take_succ_eq_append_getElem y,List.filter_append,List.map_append];simp[bne,q]
 have X:Hid (∀ k (y:k<l.length),(l[k]==R.id)=true→R.eZ (l.take k) P=R.eZ (l.take (k+1)) P):=fun k y q=>by
  unfold Rp.eZ;rw[List.take_succ_eq_append_getElem y,List.filter_append,List.map_append];simp[bne,q]
 have aa:Hid (∀ k,(R.eZ (l.take k) P).id=R.id):=fun k=>rfl
 clear hR hr h;simp only[pmC];go_enter Tryz.func123,Tryz.ntmps123;go_wp2_with fail;generalize w.alloc (.cells (pqC P o p ag r s t u v) 68)=wA at *;go_loopw [6] (fun i wr=>∃ (k:Nat) (A B:List Nat) (vt:Value),k≤l.length∧i=I J k∧qJ wA wr b bl W F V (R.eZ (l.take k) P) A B vt∧dD wr w.heap.size (pqC P o p ag r s t u v)) (fun i _=>l.length-(intOf i).toNat)
 case atStart=>exact⟨0,W,F,V.vt,Nat.zero_le _,rfl,by rw[Q.out];exact qJ.refl hA,⟨rfl,f⟩⟩
 case round =>
  obtain⟨k,A,B,vt,y,rfl,a,g⟩:=hrel
  have d0:=a.rp.c0;rw[aa.out k] at d0;by_cases j:k<l.length
  ·obtain⟨br,ak,ab,_,cr⟩:=Ints.get (M.kp a.kp hrf) k j
   subst ab;have j1:(0:Int)≤(k:Int):=by omega
   have j2:(k:Int)<(l.length:Int):=by omega
   obtain⟨x0,x1,x2,x3,x4,x5,x6,x7,x8,x9,am,an,ap,aq,av,xf⟩:=g.all
   cases hid:(l[k]==R.id)
   ·have ac:(l[k] != R.id)=true:=by simp[bne,hid]
    have m:=ah (U.out k j hid);have ad:=ah (HL.out k);generalize R.eZ (l.take k) P=Rk at *;go_wp2_with fail;go_quiet (fail);have z:Below wr.heap.size wr (wr.drewN nq).drew:=(below_drewN (Below.refl _ _) nq).drew
    have c:=a.below z;have n:=g.kp (Kp.of_below (S:=[]) z) (by simp)
    have C:w.heap.size∉b :: vt.ownBlock.toList:=fun D=>N (show w.heap.size∈b :: V.vt.ownBlock.toList from by
     rcases List.mem_cons.1 D with D|D
     ·exact List.mem_cons.2 (.inl D)
     ·rcases c.vb w.heap.size (by simpa using D) with q|q
      ·exact List.mem_cons.2 (.inr (by simpa using q))
      ·have:=lt_of_block f;omega)
    have ae:=ah (K.out Rk _ A B l[k] _ c.rp ((L.kp a.kp hF).below z) ad.out);go_wp2_with fail;go_region_with (go_at_call 87;refine ae.out.mono ?_;rintro e w2 ⟨rfl,W2,F2,af,E⟩)
    all_goals
     have G:=c.trans E;have ai:=n.kp E.kp C;rw[m.out] at G;go_wp2;go_roundw
     case rel=>exact⟨k+1,W2,F2,af,by omega,by go_num,G,ai⟩
     case measure=>simp[intOf];omega
   ·have ac:(l[k] != R.id)=false:=by simp[bne,hid]
    have m:=ah (X.out k j hid);go_wp2_with fail;go_quiet (fail);have z:Below wr.heap.size wr (wr.drewN nq):=below_drewN (Below.refl _ _) nq
    have c:=a.below z;have n:=g.kp (Kp.of_below (S:=[]) z) (by simp)
    rw[m.out] at c;go_wp2;go_roundw
    case rel=>exact⟨k+1,A,B,vt,by omega,by go_num,c,n⟩
    case measure=>simp[intOf];omega
  ·obtain rfl:k=l.length:=by omega
   rw[T.out] at a;have HH:=ah (a.pre d);go_wp2;exact bodyPost_end (results_none rfl _ _ _) rfl ⟨rfl,A,B,vt,HH.out⟩
end
section
variable {w:World} {b bl:Nat} {W F:List Nat} {R:Rp} {V:Rv}
theorem au.LC {w1:World} {v:Value} {l:List En} (h:au w b bl W F R V) (hb:Below w.heap.size w w1) (hown:w1.ownsRow w.heap.size 66 3 v l.length (aA l)) :
  ∃ W' F',au (w1.setCell ⟨b,9,O⟩ v) b bl W' F' { R with log:=l } { V with vL:=v }∧Mv w W F W' F'∧Kp W w (w1.setCell ⟨b,9,O⟩ v):=by
 have a:=h.below hb;have c:w1.ownsRow 0 66 3 v l.length (aA l):=fB hown (Nat.zero_le _)
 rcases hown.2 with ⟨rfl,f⟩|⟨g,cap,d,rfl,e,i,j⟩
 ·exact⟨W,F,a.re (a.k1 _ _) (a.sv.qj 9 _ (by simp[kM])) a.ak a.st rfl rfl c (In.nil _ _ _) a.out a.wt a.grp a.sg a.old a.so a.aI a.answers,Mv.refl _ _ _,(Kp.of_below hb).trans' (a.qI _ _)⟩
 ·have r:=h.Md (l:=l) (g:=g) (cap:=cap) (Kp.of_below hb) (hb.block b h.lb) (hb.block bl h.lives.lt) a.out c (.inr e);exact⟨_,_,r.1,r.2.1,r.2.2⟩
theorem OW:svC sv0=[I .u8 0,I .u8 0,I .u8 0,I .u8 0,I .u8 0,I .u8 0,I .u8 0,I .u8 0,I .u8 0,I .u8 0,I .u8 0,I .u8 0,I .u8 0,I .u8 0,I .u8 0,I .u8 0,I .u8 0,I .u8 0,I .u8 0,I .u8 0,I .u8 0,I .u8 0,I .u8 0,I .u8 0,I .u8 0,I .u8 0,I J 0,Z ⟨#[]⟩,I J 0,Z ⟨#[]⟩,I J 0,Z ⟨#[]⟩,I J 0,Z ⟨#[]⟩,I J 0,Z ⟨#[]⟩,I J 0,Z ⟨#[]⟩,I J 0,Z ⟨#[]⟩,I J 0,Z ⟨#[]⟩,I J 0,Z ⟨#[]⟩]:=rfl
theorem lM (b:Nat):∀ (l:List Value) (w:World) (o:Nat),w.setCells b o l=jD w b o l
 | [],_,_=>rfl
 | v :: l,w,o=>by show (w.setCell ⟨b,o,O⟩ v).setCells b (o+1) l=jD (w.setCell ⟨b,o,O⟩ v) b (o+1) l;exact lM b l _ _
theorem au.there (h:au w b bl W F R V) (o n:Nat) (hn:o+n≤72):w.there b o n:=fun j e=>by
 refine⟨?_,h.free _⟩
 have f:=h.sv.v26;have g:=h.sv.s9;have a:=h.ak;have c:=h.st;have d:(svC R.sv).length=44:=by rw[qB];omega
 rw[h.cell,List.getElem?_eq_getElem (by simp[kM,gM,d,a,c];omega)]
 rfl
theorem au.MW (h:au w b bl W F R V):au (w.setCells b 11 (#[I .u8 0,I .u8 0,I .u8 0,I .u8 0,I .u8 0,I .u8 0,I .u8 0,I .u8 0,I .u8 0,I .u8 0,I .u8 0,I .u8 0,I .u8 0,I .u8 0,I .u8 0,I .u8 0,I .u8 0,I .u8 0,I .u8 0,I .u8 0,I .u8 0,I .u8 0,I .u8 0,I .u8 0,I .u8 0,I .u8 0,I J 0,Z ⟨#[]⟩,I J 0,Z ⟨#[]⟩,I J 0,Z ⟨#[]⟩,I J 0,Z ⟨#[]⟩,I J 0,Z ⟨#[]⟩,I J 0,Z ⟨#[]⟩,I J 0,Z ⟨#[]⟩,I J 0,Z ⟨#[]⟩,I J 0,Z ⟨#[]⟩]:Array Value).toList) b bl W F { R with sv:=sv0 } V:=by
 rw[lM,show (#[I .u8 0,I .u8 0,I .u8 0,I .u8 0,I .u8 0,I .u8 0,I .u8 0,I .u8 0,I .u8 0,I .u8 0,I .u8 0,I .u8 0,I .u8 0,I .u8 0,I .u8 0,I .u8 0,I .u8 0,I .u8 0,I .u8 0,I .u8 0,I .u8 0,I .u8 0,I .u8 0,I .u8 0,I .u8 0,I .u8 0,I J 0,Z ⟨#[]⟩,I J 0,Z ⟨#[]⟩,I J 0,Z ⟨#[]⟩,I J 0,Z ⟨#[]⟩,I J 0,Z ⟨#[]⟩,I J 0,Z ⟨#[]⟩,I J 0,Z ⟨#[]⟩,I J 0,Z ⟨#[]⟩,I J 0,Z ⟨#[]⟩]:Array Value).toList=svC sv0 from rfl];exact h.Qy
theorem nV {w w':World} (l:List Value) (o:Nat) (h:Kp [b] w w'):Kp [b] w (w'.setCells b o l):=by rw[lM];exact pF l o w' w h
theorem OY (S:Sv):∀ v∈svC S,v.oneCell'=true:=by
 intro v a;unfold svC yL at a;rcases List.mem_append.1 a with a|a
 ·obtain⟨x,_,rfl⟩:=List.mem_map.1 a;rfl
 ·obtain⟨x,_,a⟩:=List.mem_flatMap.1 a
  simp at a;rcases a with rfl|rfl <;> rfl
theorem OX:(#[I .u8 0,I .u8 0,I .u8 0,I .u8 0,I .u8 0,I .u8 0,I .u8 0,I .u8 0,I .u8 0,I .u8 0,I .u8 0,I .u8 0,I .u8 0,I .u8 0,I .u8 0,I .u8 0,I .u8 0,I .u8 0,I .u8 0,I .u8 0,I .u8 0,I .u8 0,I .u8 0,I .u8 0,I .u8 0,I .u8 0,I J 0,Z ⟨#[]⟩,I J 0,Z ⟨#[]⟩,I J 0,Z ⟨#[]⟩,I J 0,Z ⟨#[]⟩,I J 0,Z ⟨#[]⟩,I J 0,Z ⟨#[]⟩,I J 0,Z ⟨#[]⟩,I J 0,Z ⟨#[]⟩,I J 0,Z ⟨#[]⟩]:Array Value).all (·.oneCell')=true:=all_oneCell_toArray (cs:=[I .u8 0,I .u8 0,I .u8 0,I .u8 0,I .u8 0,I .u8 0,I .u8 0,I .u8 0,I .u8 0,I .u8 0,I .u8 0,I .u8 0,I .u8 0,I .u8 0,I .u8 0,I .u8 0,I .u8 0,I .u8 0,I .u8 0,I .u8 0,I .u8 0,I .u8 0,I .u8 0,I .u8 0,I .u8 0,I .u8 0,I J 0,Z ⟨#[]⟩,I J 0,Z ⟨#[]⟩,I J 0,Z ⟨#[]⟩,I J 0,Z ⟨#[]⟩,I J 0,Z ⟨#[]⟩,I J 0,Z ⟨#[]⟩,I J 0,Z ⟨#[]⟩,I J 0,Z ⟨#[]⟩,I J 0,Z ⟨#[]⟩]) (OW▸OY sv0)
theorem Tryz.sizeSvc:(Tryz.prog.info? 58).map (·.size)=some 44:=by kernel_rfl
theorem xK (h:au w b bl W F R V) (v:Int) :
  Calls Tryz.prog 138 #[Zp (some ⟨b,0,O⟩),I J v] w fun e w'=>e=Zr (.tuple #[])∧au w' b bl W F (R.begin_ v) { V with vv:=Y O 0 0 }∧Kp [b] w w':=by
 have n:=h.free 3;have o:=h.free 5;have p:=h.free 6;have a:=h.free 55;have c:=h.free 56;have d:=h.free 57;have f:=h.free 58;have g:=h.free 59;have i:=h.free 60;have j:=h.free 61;have k:=h.free 62;have c3:=h.c3;have c5:=h.c5;have c6:=h.c6;have c62:=h.c62;have q:w.cell? ⟨b,55,O⟩=some _:=h.sS 0 (by omega)
 have r:w.cell? ⟨b,56,O⟩=some _:=h.sS 1 (by omega)
 have s:w.cell? ⟨b,57,O⟩=some _:=h.sS 2 (by omega)
 have t:w.cell? ⟨b,58,O⟩=some _:=h.sS 3 (by omega)
 have u:w.cell? ⟨b,59,O⟩=some _:=h.sS 4 (by omega)
 have x:w.cell? ⟨b,60,O⟩=some _:=h.sS 5 (by omega)
 have y:w.cell? ⟨b,61,O⟩=some _:=h.sS 6 (by omega)
 have l:=ah (((((h.yS v).xU v).jq 1).AJ).pJ (Y O 0 0) [] (Pms.nil _ _ _));have m:Hid (Kp [b] w _):=(pF [I J 0,I J 0,I J 0,I J 0,I J 0,I J 0,I J 0] 55 _ w ((((Kp.refl [b] w).set b 5 (I J v) (.inl (by simp))).set b 6 (I J v) (.inl (by simp))).set b 3 (I J 1) (.inl (by simp)))).set b 62 (Y O 0 0) (.inl (by simp))
 go_enter Tryz.func138,Tryz.ntmps138;go_wp2;exact bodyPost_end (results_none rfl _ _ _) rfl ⟨rfl,l.out,m.out⟩
theorem I4 (R:Rp) (l:List En):({ ({ R with log:=l }:Rp) with decided:=min R.decided l.length,sv:=svF (l.take (min R.decided l.length)) }:Rp)=R.over l:=rfl
theorem Ng (l:List En) (k:Nat) (hk:k<l.length):svF (l.take (k+1))=l8 (svF (l.take k)) l[k]:=by
 unfold svF;rw[List.take_succ_eq_append_getElem hk,List.foldl_append];rfl
theorem qo (h:au w b bl W F R V) (v:Value) (l:List En) (hv:iw w v l) (hl:oD R.n l) :
  Calls Tryz.prog 130 #[Zp (some ⟨b,0,O⟩),v] w fun e w'=>e=Zr (.tuple #[])∧Rst w w' b bl W F (R.over l):=by
 have ac:=hl.1;obtain⟨i0,hi,T,U,X⟩:=info_parts Tryz.infoEnt
 have HO:Hid (∀ u∈aA l,u.oneCell'=true):=fun u K=>by
  simp only[aA,List.mem_flatMap] at K;obtain⟨e,_,K⟩:=K
  simp at K;rcases K with rfl|rfl|rfl <;> rfl
 have HC:Hid (∀ k (N:k<l.length) (S:Sv) (pre post:List Value) (w:World),pre.length=11→iy w b pre post 63 S→Calls Tryz.prog 156 #[Zp (some ⟨b,11,O⟩),.agg #[I J l[k].1,I J l[k].2.1,Z l[k].2.2]] w fun e w'=>(∃ x,e=Zr x)∧iy w' b pre post 63 (l8 S l[k])∧Kp [b] w w'):=fun k N S pre post w hp hs=>by
  have s:=hl.2 l[k] (List.getElem_mem _);have r:=wm hs l[k].1 l[k].2.1 l[k].2.2 (by have:=s.2.2.2.2.2;unfold maxLen;omega) s.small s.1 s.2.1
  rw[hp] at r;exact r.mono (fun e w' q=>⟨⟨_,q.1⟩,q.2.1,q.2.2⟩)
 have L:Hid (∀ k (N:k<l.length),svF (l.take (k+1))=l8 (svF (l.take k)) l[k]):=Ng l
 obtain⟨a,ad,rfl,ae,hm⟩:=hv.shape
 go_enter Tryz.func130,Tryz.ntmps130;go_wp2_with (at_builtin;refine La rfl _ _ 47 rfl w.heap.size 66 i0 (.agg #[I J 0,I J 0,Z Ze]) 3 32 Tryz.underlying47 hi T U X rfl (by decide) w _ _ _ (by rfl) (World.ownsRow_nil _ _ _ _) _ l.length (aA l) (by rfl) hv HO.out (by omega) (by omega) (by decide) (Nat.le_refl _) ?_)
 intro v' w1 hown hg1 hb1;have g:w1.ownsRow w.heap.size 66 3 v' l.length (aA l):=by simpa using hown
 obtain⟨P,Q,y,m1,k1⟩:=h.LC hb1 g
 clear hown hg1 g;obtain⟨z,c,M⟩:=y.g9
 simp only at M
 subst M;have f9:=(h.below hb1).free 9;have e9:=(h.below hb1).c9;have c9:=y.c9;have c10:=y.c10;have af:=y.free 10;simp only at c9 c10
 have t:=h.wb;by_cases q:l.length<R.decided
 focus
  have q':(l.length:Int)<(R.decided:Int):=by omega
  have j:min R.decided l.length=l.length:=by omega
  have HS:=ah (fun n=>((y.drewN n).uH l.length).MW)
  have HK:Hid (∀ (A:List Value) n,Kp W w ((((w1.setCell ⟨b,9,O⟩ (Y z l.length c)).drewN n).setCell ⟨b,10,O⟩ (I J (l.length:Int))).setCells b 11 A)):=fun A n=>k1.trans' (Kp.wid (nV A 11 ((Kp.of_below (S:=[b]) (below_drewN (Below.refl _ (w1.setCell ⟨b,9,O⟩ (Y z l.length c))) n)).set b 10 (I J (l.length:Int)) (.inl (by simp)))) (by intro x hx;simp at hx;subst hx;exact t))
  have HT:=ah (fun n=>((y.drewN n).uH l.length).there 11 44 (by omega))
 rotate_left
 focus
  have q':¬(l.length:Int)<(R.decided:Int):=by omega
  have j:min R.decided l.length=R.decided:=by omega
  have HS:=ah (fun n=>(y.drewN n).MW)
  have HK:Hid (∀ (A:List Value) n,Kp W w (((w1.setCell ⟨b,9,O⟩ (Y z l.length c)).drewN n).setCells b 11 A)):=fun A n=>k1.trans' (Kp.wid (nV A 11 (Kp.of_below (S:=[b]) (below_drewN (Below.refl _ (w1.setCell ⟨b,9,O⟩ (Y z l.length c))) n))) (by intro x hx;simp at hx;subst hx;exact t))
  have HT:=ah (fun n=>(y.drewN n).there 11 44 (by omega))
 rotate_left
 all_goals
  go_wp2_with fail;generalize w1.setCell ⟨b,9,O⟩ (Y z l.length c)=w2 at *;go_quiet (fail);rename_i nq;go_wp2_with (refine wpList_store_mid rfl 58 (.tmp 31) (.tmp 29) (by rfl) b 11 #[I .u8 0,I .u8 0,I .u8 0,I .u8 0,I .u8 0,I .u8 0,I .u8 0,I .u8 0,I .u8 0,I .u8 0,I .u8 0,I .u8 0,I .u8 0,I .u8 0,I .u8 0,I .u8 0,I .u8 0,I .u8 0,I .u8 0,I .u8 0,I .u8 0,I .u8 0,I .u8 0,I .u8 0,I .u8 0,I .u8 0,I J 0,Z ⟨#[]⟩,I J 0,Z ⟨#[]⟩,I J 0,Z ⟨#[]⟩,I J 0,Z ⟨#[]⟩,I J 0,Z ⟨#[]⟩,I J 0,Z ⟨#[]⟩,I J 0,Z ⟨#[]⟩,I J 0,Z ⟨#[]⟩,I J 0,Z ⟨#[]⟩] (by rfl) (by rfl) (HT.out nq) Tryz.sizeSvc OX ?_)
  go_wp2_with fail
 ·go_loopw [4] (fun i wr=>∃ k:Nat,k≤l.length∧i=I J k∧au wr b bl P Q { R with log:=l,decided:=l.length,sv:=svF (l.take k) } { V with vL:=Y z l.length c }∧Kp W w wr) (fun i _=>l.length-(intOf i).toNat)
  case atStart=>exact⟨0,Nat.zero_le _,rfl,HS.out nq,HK.out _ nq⟩
  case round =>
   obtain⟨k,N,rfl,f,m⟩:=hrel
   have B:=f.c10;have d9:=f.c9;simp only at d9 B
   by_cases aa:k<l.length
   ·have d:k<l.length:=by omega
    have s:=f.ents;simp only at s
    obtain⟨be,oe,C,ab,e0,e1,e2⟩:=s.get k d
    subst C;have j1:(0:Int)≤(k:Int):=by omega
    have j2:(k:Int)<(l.length:Int):=by omega
    have j3:(k:Int)<(l.length:Int):=by omega
    have D:=ah (HC.out k d _ _ _ wr.drew rfl (f.below (Below.refl _ _).drew).sv);go_wp2_with fail;go_region_with (go_at_call 156;refine D.out.mono ?_;rintro e w3 ⟨⟨x,rfl⟩,o,E⟩)
    all_goals
     have p:=(f.below (Below.refl _ _).drew).MV o E;have G:Kp W w w3:=(m.aS (Below.refl _ _).drew).trans' (E.wid (by intro x hx;simp at hx;subst hx;exact t))
     have H:=ah p;clear p o E;go_wp2;go_roundw
     case rel=>exact⟨k+1,by omega,by go_num,by rw[L.out k d];exact H.out,G⟩
     case measure=>simp[intOf];omega
   ·obtain rfl:k=l.length:=by omega
    have HF:=ah f;go_wp2;exact bodyPost_end (results_none rfl _ _ _) rfl ⟨rfl,P,Q,_,by rw[← I4,j];exact HF.out,m,m1⟩
 ·go_loopw [4] (fun i wr=>∃ k:Nat,k≤R.decided∧i=I J k∧au wr b bl P Q { R with log:=l,decided:=R.decided,sv:=svF (l.take k) } { V with vL:=Y z l.length c }∧Kp W w wr) (fun i _=>R.decided-(intOf i).toNat)
  case atStart=>exact⟨0,Nat.zero_le _,rfl,HS.out nq,HK.out _ nq⟩
  case round =>
   obtain⟨k,N,rfl,f,m⟩:=hrel
   have B:=f.c10;have d9:=f.c9;simp only at d9 B
   by_cases aa:k<R.decided
   ·have d:k<l.length:=by omega
    have s:=f.ents;simp only at s
    obtain⟨be,oe,C,ab,e0,e1,e2⟩:=s.get k d
    subst C;have j1:(0:Int)≤(k:Int):=by omega
    have j2:(k:Int)<(l.length:Int):=by omega
    have j3:(k:Int)<(R.decided:Int):=by omega
    have D:=ah (HC.out k d _ _ _ wr.drew rfl (f.below (Below.refl _ _).drew).sv);go_wp2_with fail;go_region_with (go_at_call 156;refine D.out.mono ?_;rintro e w3 ⟨⟨x,rfl⟩,o,E⟩)
    all_goals
     have p:=(f.below (Below.refl _ _).drew).MV o E;have G:Kp W w w3:=(m.aS (Below.refl _ _).drew).trans' (E.wid (by intro x hx;simp at hx;subst hx;exact t))
     have H:=ah p;clear p o E;go_wp2;go_roundw
     case rel=>exact⟨k+1,by omega,by go_num,by rw[L.out k d];exact H.out,G⟩
     case measure=>simp[intOf];omega
   ·obtain rfl:k=R.decided:=by omega
    have HF:=ah f;go_wp2;exact bodyPost_end (results_none rfl _ _ _) rfl ⟨rfl,P,Q,_,by rw[← I4,j];exact HF.out,m,m1⟩
end
theorem Tryz.infoPk:(Tryz.prog.info? 102).map (fun i=>(i.zero,i.size,i.bytes))=some (some (.agg #[I J 0,I J 0,Z Ze]),3,32):=by kernel_rfl
section
variable {N:Nat} {w w':World} {g:Nat} {K K':Kw} {V V':Kv}
theorem KAt.cell (h:KAt N w g K V) (j:Nat):w.cell? ⟨g,j,O⟩=(mg K V)[j]?:=by simp[World.cell?,h.blk]
theorem KAt.cv (h:KAt N w g K V) (i:Nat) {u v:Value} (hc:(mg K V)[i]? = some u) (e:u=v):∀ w2,Below w.heap.size w w2→w2.cell? ⟨g,i,O⟩=some v:=fun w2 hw2=>by rw[← e,← hc];exact (h.below hw2).cell i
theorem KAt.free (h:KAt N w g K V) (j:Nat):w.frozen? ⟨g,j,O⟩=false:=by simp[World.frozen?,h.blk]
theorem KAt.lb (h:KAt N w g K V):g<w.heap.size:=lt_of_block h.blk
theorem KAt.rN (h:KAt N w g K V):w.ownsRow 0 29 1 V.vN K.nds.length (K.nds.map nR):=h.rows _ (List.mem_of_getElem? (i:=0) rfl)
theorem KAt.rD (h:KAt N w g K V):w.ownsRow 0 4 1 V.vD K.down.length (K.down.map Value.bool):=h.rows _ (List.mem_of_getElem? (i:=1) rfl)
theorem KAt.rB (h:KAt N w g K V):w.ownsRow 0 3 1 V.vB K.begun.length (K.begun.map (Value.int .i64)):=h.rows _ (List.mem_of_getElem? (i:=2) rfl)
theorem KAt.rP (h:KAt N w g K V):w.ownsRow 0 102 3 V.vP K.net.length (aA K.net):=h.rows _ (List.mem_of_getElem? (i:=3) rfl)
theorem KAt.rW (h:KAt N w g K V):w.ownsRow 0 99 6 V.vW K.wishes.length (bT K.wishes):=h.rows _ (List.mem_of_getElem? (i:=4) rfl)
theorem KAt.rO (h:KAt N w g K V):w.ownsRow 0 3 1 V.vO K.opn.length (K.opn.map (Value.int .i64)):=h.rows _ (List.mem_of_getElem? (i:=5) rfl)
theorem KAt.rL (h:KAt N w g K V):w.ownsRow 0 66 3 V.vL K.list.length (aA K.list):=h.rows _ (List.mem_of_getElem? (i:=6) rfl)
theorem KAt.rG (h:KAt N w g K V):w.ownsRow 0 9 1 V.vG K.groups.length (K.groups.map Value.string):=h.rows _ (List.mem_of_getElem? (i:=7) rfl)
theorem KAt.gne (h:KAt N w g K V) {i:Nat} {r:Row} (hi:(fC K V)[i]? = some r):some g≠r.v.ownBlock:=fun hc =>
 h.ap.ne (xA hi) Bf (by omega) g (by simp[← hc]) (by simp)
theorem uy (h:KAt N w g K V) (p:Int):Calls Tryz.prog 65 #[Zp (some ⟨g,0,O⟩),I J p] w fun e w'=>e=Zr (.bool false)∧Kst N w w' g K V { K with part:=p } V:=by
 have c0:w.cell? ⟨g,0,O⟩=some (I J K.part):=h.cell 0
 have b:=h.free 0;have a:=ah (h.scalar (K':={ K with part:=p }) 0 (I J p) rfl rfl rfl)
 clear h;go_enter Tryz.func65,Tryz.ntmps65;go_wp2;go_ret;exact⟨rfl,a.out⟩
theorem sD (h:KAt N w g K V) (f t:Int) (s:ByteArray) (hl:K.net.length≤1000000000000) :
  Calls Tryz.prog 54 #[Zp (some ⟨g,0,O⟩),I J f,I J t,Z s] w fun e w'=>e=Zr (.tuple #[])∧∃ v,Kst N w w' g K V { K with net:=K.net++[(f,t,s)] } { V with vP:=v }:=by
 obtain⟨B,C,l,m,n⟩:=info_parts Tryz.infoPk
 have a:=h.rP;obtain⟨o,y,b⟩:=aj a
 have c7:w.cell? ⟨g,7,O⟩=some V.vP:=h.cell 7
 have D:=h.free 7;have c:some g≠V.vP.ownBlock:=h.gne (i:=3) rfl
 rw[b] at a c7 c;have d:=h.lb;have E:=ah h;clear h;go_enter Tryz.func54,Tryz.ntmps54;go_wp2_with (refine wpList_append_lies (w:=w.alloc (.cells #[I J f,I J t,Z s] 102)) (by rfl) (.tmp 12) (.tmp 17) 45 (by rfl) 0 102 B (.agg #[I J 0,I J 0,Z Ze]) 3 32 Tryz.underlying45 C l m n rfl (by decide) (Y o K.net.length y) K.net.length (aA K.net) (by rfl) (a.alloc _) ⟨w.heap.size,0,O⟩ 1 1 [I J f,I J t,Z s] (by rfl) (by rfl) (World.news_of_block (heap_alloc_new w (.cells #[I J f,I J t,Z s] 102))) (by intro u hu;simp at hu;rcases hu with rfl|rfl|rfl <;> rfl) (by decide) (by unfold maxLen;omega) (by omega) (Nat.zero_le _) (w.heap.size+1) (by simp) ?_;intro g4 cap4 w4 hown4 hg4 hat4 hlt4;have G:w4.cell? ⟨g,7,O⟩=some (Y o K.net.length y):=(hg4.cell_far ⟨g,7,O⟩ (by simp;omega) c).trans ((((Below.refl _ w).alloc (Nat.le_refl _) _).cell (p:=⟨g,7,O⟩) d).trans c7);have g7:w4.frozen? ⟨g,7,O⟩=false:=(hg4.frozen_far ⟨g,7,O⟩ (by simp;omega) c).trans ((((Below.refl _ w).alloc (Nat.le_refl _) _).frozen (p:=⟨g,7,O⟩) d).trans D))
 have j:Below w.heap.size w (w.alloc (.cells #[I J f,I J t,Z s] 102)):=(Below.refl _ w).alloc (Nat.le_refl _) _
 have z:aA (K.net++[(f,t,s)])=aA K.net++[I J f,I J t,Z s]:=by simp[aA]
 have k:w4.ownsRow 0 102 3 (Y (some ⟨g4,0,O⟩) (K.net.length+1) cap4) (K.net++[(f,t,s)]).length (aA (K.net++[(f,t,s)])):=by
  rw[z,show (K.net++[(f,t,s)]).length=K.net.length+1 by simp];exact hown4
 have F:=ah (E.out.newRow (V':={ V with vP:=Y (some ⟨g4,0,O⟩) (K.net.length+1) cap4 }) (K':={ K with net:=K.net++[(f,t,s)] }) (i:=3) (w1:=w4) (r:=⟨102,3,V.vP,K.net.length,aA K.net⟩) (r':=⟨102,3,Y (some ⟨g4,0,O⟩) (K.net.length+1) cap4,(K.net++[(f,t,s)]).length,aA (K.net++[(f,t,s)])⟩) rfl
  ((Kp.of_below j).trans' (by rw[b];exact Kp.row hg4)) k (fun x A=>by
   simp[Value.ownBlock] at A;subst A
   show V.vP.ownBlock=_∨_
   rw[b];exact hat4.imp id (fun q=>by omega)) 7 rfl rfl rfl)
 clear hown4 hg4 hat4 hlt4 k z j;go_wp2;exact bodyPost_end (results_none rfl _ _ _) rfl ⟨rfl,_,F.out⟩
end
section
variable {w w0:World} {b bl:Nat} {W F:List Nat} {R:Rp} {V:Rv} {P:Pm} {vl vg vo vL:Value}
theorem sK (h:au w b bl W F R V):Calls Tryz.prog 29 #[Zp (some ⟨b,0,O⟩)] w fun e w'=>e=Zr (.tuple #[I J R.epoch,I J R.view,I J R.status,I J (R.decided:Int)])∧∃ n,w'=w.drewN n:=by
 have c3:=h.c3;have c4:=h.c4;have c5:=h.c5;have c10:=h.c10;go_enter Tryz.func29,Tryz.ntmps29;go_wp2_with fail;go_quiet (fail);rename_i nq;go_wp2;exact bodyPost_ret (v:=.tuple #[I J R.epoch,I J R.view,I J R.status,I J (R.decided:Int)]) (by simp[results,Tryz.results29,go_sem]) rfl ⟨rfl,nq,rfl⟩
theorem Cv (h:au w b bl W F R V) (k:Int) (hk0:0≤k) (hk1:k≤255):Calls Tryz.prog 10 #[Zp (some ⟨b,0,O⟩),I .u8 k] w fun e w'=>e=Zr (Z (wN R.sv k))∧w'=w:=by
 have HC:Hid (Calls Tryz.prog 24 #[Zp (some ⟨b,11,O⟩),I .u8 k] w fun e w'=>e=Zr (Z (wN R.sv k))∧w'=w):=Ky h.sv k hk0 hk1
 go_enter Tryz.func10,Tryz.ntmps10;go_wp2_with fail;refine HC.out.mono ?_;rintro e c ⟨rfl,a⟩;subst a;go_wp2;go_ret;exact⟨rfl,rfl⟩
theorem E9 (h:au w b bl W F R V) (c:Int):Calls Tryz.prog 146 #[Zp (some ⟨b,0,O⟩),I J c] w fun e w'=>e=Zr (.tuple #[I J (kr R.sv c).1,Z (kr R.sv c).2])∧Below w.heap.size w w':=by
 have HC:Hid (Calls Tryz.prog 73 #[Zp (some ⟨b,11,O⟩),I J c] w fun e w'=>e=Zr (.tuple #[I J (kr R.sv c).1,Z (kr R.sv c).2])∧Below w.heap.size w w'):=yx h.sv c
 go_enter Tryz.func146,Tryz.ntmps146;go_wp2_with fail;refine HC.out.mono ?_;rintro e d ⟨rfl,a⟩;go_wp2;go_ret2;exact⟨rfl,a⟩
end
section
open Go.RowKit Go.ChangeShapes Go.WideShapes Go.ChangeAt
theorem own:ownKnob Tryz.prog.godebug=O:=by kernel_rfl
theorem laidOut:laidOutB Tryz.prog=true:=by kernel_rfl
theorem Ls (os:Os):laidMet Tryz.prog Rows.oneListRow.laid ((World.doorLaid Tryz.prog 400 os).forCall (fun _ _=>0) ⟨#[],#[Y O 0 0],[]⟩).memory :=
 laidMet_of_run' 8 (by kernel_rfl) (by kernel_rfl)
end
end Go.Proofs.YtinaollfjiddmaaGreatDoor
