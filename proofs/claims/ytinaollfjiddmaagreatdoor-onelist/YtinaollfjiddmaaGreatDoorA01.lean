import Derived.Test.YtinaollfjiddmaaGreatDoorProg
import Derived.WalkKit
import Derived.WalkSpells
import Derived.WalkLawsBesides
import Derived.Laws.BytesArg
import Derived.Laws.OwnMore
import Derived.Laws.AppendOwnNone
import Derived.Deep.QuietTactic
import Derived.BigQuiet
import Derived.Deep.RegionHeld3
import Derived.Deep.AppendLies
import Derived.Deep.RegionLaw
import Derived.Deep.RegionWith
import Derived.Deep.Cut
import Derived.Laws.IdiomStrings
import Derived.Laws.Rows
import Derived.Shelf.Strconv.Itoa3
import Derived.Lib.AppendIntMem
import Derived.Ground.NamesProg
set_option maxRecDepth 100000
set_option maxHeartbeats 8000000
set_option linter.all false
namespace Go.Proofs.YtinaollfjiddmaaGreatDoor
open Go.Value renaming int→I,slice→Y,string→Z,pointer→Zp
open Go.Ending renaming returned→Zr
open _root_.ByteArray renaming empty→Ze
open Go.IntKind renaming i64→J
open Option renaming none→O
open Go.RowKit
theorem bC {a b:Bool} (h:a=b):Zr (.bool a)=Zr (.bool b):=by rw[h]
theorem oz {k:IntKind} {a b:Int} (h:a=b):Zr (.int k a)=Zr (.int k b):=by rw[h]
theorem jV {a b:ByteArray} (h:a=b):Zr (Z a)=Zr (Z b):=by rw[h]
theorem sO (s:ByteArray) (k:Nat) (h:k<s.size):s.data.toList.take (k+1)=s.data.toList.take k++[s[k]]:=by
 rw[List.take_succ_eq_append_getElem (by simpa using h)];rfl
theorem Jp (a b:List UInt8):(⟨a.toArray⟩:ByteArray)++⟨b.toArray⟩=⟨(a++b).toArray⟩:=by
 ext1;simp
theorem Lh (n:Int) (w:World):(convert 100 9 (Y (some ⟨w.heap.size,0,O⟩) 1 1)).run Tryz.prog (w.alloc (.cells #[I .u8 n] 5))=.ok (Z ⟨#[UInt8.ofNat n.toNat]⟩) (w.alloc (.cells #[I .u8 n] 5)):=by
 have h:=run_convert_bytes_arg (P:=Tryz.prog) (w.alloc (.cells #[I .u8 n] 5)) 100 5 Tryz.underlying100 Tryz.underlying5 w.heap.size 0 1 1 [n] rfl (fun i a=>by
  obtain rfl:i=0:=by omega
  simp) 9 Tryz.underlying9
 rw[h];rfl
theorem zJ {w w':World} {o:Obj} {row:Option Nat} (h:(w.alloc o).grownBy w' row):w.grownBy w' row :=
 ⟨h.os,h.tape,h.output,by have:=h.size;simp at this;omega,fun k b a=>(h.block k (by simp;omega) a).trans (Below.heap_alloc w o k b)⟩
theorem app1 {P:Program} {ops:Array Oper} {rest:List Oper} {o:Oper} {a:Act} {Q:Exit→Act→World→Prop} (hgd:o.guard=O) (s x:Operand) (t:TypeId)
  (ho:o.op=.call { callee:=.builtin .append,args:=#[s,x],argTypes:=#[t,t] })
  (base:Nat) (e:TypeId) (i:TypeInfo) (z:Value) (size bytes:Nat) (ht:P.underlying t=some (.slice e)) (hi:P.info? e=some i) (hz:i.zero=some z)
  (hsize:i.size=size) (hby:i.bytes=bytes) (hzs:z.cells.size=size) (hsz:0<size)
  (w:World) (v:Value) (n:Nat) (xs:List Value) (hs:a.eval s=v) (hown:w.ownsRow base e size v n xs)
  (c:Nat) (news:List Value) (hx:a.eval x=Y (some ⟨w.heap.size,0,O⟩) 1 c) (hl:news.length=size) (h1:∀ u∈news,u.oneCell'=true)
  (hn:n≤1000000000) (hby2:bytes≤1000) (hbase:base≤w.heap.size)
  (h:∀ v' w',w'.ownsRow base e size v' (n+1) (xs++news)→w.grownBy w' v.ownBlock→Below base w w'→v'≠Y O 0 0→wpList P ops Q rest (a.put o.dst v') w') :
  wpList P ops Q (o :: rest) a (w.alloc (.cells news.toArray e)):=by
 refine wpList_append_own _ hgd s x t ho base e i z size bytes ht hi hz hsize hby hzs hsz v n xs hs (hown.alloc _) ⟨w.heap.size,0,O⟩ 1 c news hx (by simpa using hl) ?_ h1 (by unfold maxLen;omega) ?_ (by simp;omega) ?_
 ·intro j u hj;have f:j<news.length:=(List.getElem?_eq_some_iff.1 hj).1
  have b:(⟨w.heap.size,0,O⟩:Addr).add j=⟨w.heap.size,j,O⟩:=by unfold Addr.add;split <;> simp_all
  rw[b];simp[hj]
 ·have:(n+1)*bytes≤1000000001*1000:=Nat.mul_le_mul (by omega) hby2
  omega
 ·intro v' w' h2 h3 h4;have g:=zJ h3;refine h v' w' h2 g ((Below.refl _ w).grown g hbase ?_) (fun d=>by rw[h4] at d;simp at d)
  intro k hk;exact (hown.lt k hk).1
def inB (c:Int) (l:List UInt8):Bool:=l.any fun b=>(b.toNat:Int)==c
def jI (n:Nat):List UInt8:=if n<10 then [UInt8.ofNat (48+n)] else jI (n / 10)++[UInt8.ofNat (48+n % 10)]
theorem uT {n:Nat} (h:n<10):jI n=[UInt8.ofNat (48+n)]:=by rw[jI,if_pos h]
theorem Ir {n:Nat} (h:¬n<10):jI n=jI (n / 10)++[UInt8.ofNat (48+n % 10)]:=by rw[jI,if_neg h]
theorem Lp (n:Nat):(jI n).length≤n+1:=by
 induction n using Nat.strongRecOn with
 | ind n ih =>
 by_cases h:n<10
 ·rw[uT h];simp
 ·rw[Ir h];have:=ih (n / 10) (by omega);simp;omega
def jh (l:List UInt8):Int:=l.foldl (fun v b=>v*10+((b.toNat:Int)-48)) 0
def gX (b:UInt8):Bool:=decide (48≤(b.toNat:Int))&&decide ((b.toNat:Int)≤57)
def kR (l:List UInt8):Bool:=l.all gX&&!l.isEmpty&&decide (l.length≤3)&&!(l.head?==some 48&&!(l==[48]))
def aH (l:List UInt8):Int:=if kR l then jh l else -1
theorem KM (l:List UInt8) (b:UInt8):jh (l++[b])=jh l*10+((b.toNat:Int)-48):=by simp[jh]
theorem P6 {s:ByteArray} {k:Nat} (h:k<s.size) (h1:¬(48≤(s[k].toNat:Int)∧(s[k].toNat:Int)≤57)):aH s.data.toList = -1:=by
 unfold aH;rw[if_neg];intro hc;simp only[kR,Bool.and_eq_true,List.all_eq_true] at hc;have:=hc.1.1.1 s[k] (by rw[show s[k]=s.data.toList[k]'(by simpa using h) from rfl];exact List.getElem_mem _)
 simp[gX] at this;omega
theorem nP (s:ByteArray):s.data.toList.length=s.size:=by simp
theorem nilS {s:ByteArray} (h:s.size=0):s.data.toList=[]:=List.eq_nil_of_length_eq_zero (by rw[nP,h])
theorem J5 {s:ByteArray} (h:¬s.size=0):s.data.toList.isEmpty=false:=by
 have:=nP s
 cases hl:s.data.toList with
 | nil=>rw[hl] at this;exact absurd this.symm h
 | cons=>rfl
theorem Oo {s:ByteArray} (h:s.size=0):aH s.data.toList = -1:=by
 rw[nilS h];rfl
theorem Mh {s:ByteArray} (hp:0<s.size) (hz:((s[0].toNat:Int)==48)=true) (h:(s.toList==[48])=false):aH s.data.toList = -1:=by
 rw[ByteArray.toList_eq] at h;have a:s.data.toList.head? = some 48:=by
  rw[List.head?_eq_getElem?,List.getElem?_eq_getElem (by simpa using hp)]
  have e:s.data.toList[0]'(by simpa using hp)=s[0]:=rfl
  rw[e];congr 1;apply UInt8.toNat_inj.1;have:=eq_of_beq hz;have b:(48:UInt8).toNat=48:=rfl;omega
 unfold aH kR;rw[if_neg];rw[a,h];simp
theorem ER {s:ByteArray} (hp:0<s.size) (h3:¬3<s.size) (ha:s.data.toList.all gX=true) (h:((s[0].toNat:Int)==48)=false∨(s.toList==[48])=true):kR s.data.toList=true:=by
 unfold kR;rw[ha];have a:s.data.toList.isEmpty=false:=J5 (by omega)
 have b:decide (s.data.toList.length≤3)=true:=by rw[nP];simp;omega
 rw[a,b];rcases h with h|h
 ·have c:(s.data.toList.head?==some 48)=false:=by
   rw[List.head?_eq_getElem?,List.getElem?_eq_getElem (by simpa using hp)]
   have e:s.data.toList[0]'(by simpa using hp)=s[0]:=rfl
   rw[e];simp;intro hc;rw[hc] at h;simp at h
  rw[c];rfl
 ·rw[ByteArray.toList_eq] at h;rw[h];simp
theorem K8 {s:ByteArray} {k:Nat} (h:k<s.size) (h0:(s.data.toList.take k).all gX=true) (h1:48≤(s[k].toNat:Int)) (h2:(s[k].toNat:Int)≤57):(s.data.toList.take (k+1)).all gX=true:=by
 rw[sO s k h];simp only[List.all_append,h0,List.all_cons,List.all_nil,gX];simp;omega
def ay (l:List UInt8) (a b:Int):Bool:=decide (a≤aH l)&&decide (aH l≤b)
theorem ext1 (s:ByteArray) (k:Nat) (h:k<s.size):(s.extract k (k+1)).data.toList=[s[k]]:=by
 have e:s.data.toList[k]'(by simpa using h)=s[k]:=rfl
 simp[ByteArray.data_extract,Array.toList_extract,List.extract];rw[List.drop_eq_getElem_cons (by simpa using h)]
 simp[e]
def gAt (l:List UInt8) (n:Int) (i:Nat):Bool:=decide (0≤aH [l.getD i 0])&&decide (aH [l.getD i 0]<n)&&(List.range i).all fun j=>!(l.getD i 0==l.getD j 0)
def gTo (l:List UInt8) (n:Int) (k:Nat):Bool:=(List.range k).all (gAt l n)
def bK (l:List UInt8) (n:Int):Bool:=gTo l n l.length&&(l.length==3||l.length==5)
theorem LD (l:List UInt8) (n:Int) (k:Nat):gTo l n (k+1)=(gTo l n k&&gAt l n k):=by simp[gTo,List.range_succ]
theorem JB {l:List UInt8} {n:Int} {k:Nat} (hk:k<l.length) (h:gAt l n k=false):bK l n=false:=by
 have:gTo l n l.length=false:=by
  unfold gTo;rw[List.all_eq_false];exact⟨k,by simpa using hk,by simp[h]⟩
 simp[bK,this]
theorem atS {s:ByteArray} {k:Nat} (h:k<s.size):s.data.toList.getD k 0=s[k]:=by
 have e:s.data.toList[k]'(by simpa using h)=s[k]:=rfl
 rw[← e];simp[List.getD,List.getElem?_eq_getElem (show k<s.data.toList.length by simpa using h)]
theorem Jz {s:ByteArray} {n:Int} {k:Nat} (h:k<s.size) (h1:aH [s[k]]<0∨n≤aH [s[k]]):gAt s.data.toList n k=false:=by
 unfold gAt;rw[atS h];rcases h1 with h1|h1
 ·rw[decide_eq_false (by omega)];simp
 ·rw[decide_eq_false (p:=aH [s[k]]<n) (by omega)];simp
theorem JA {s:ByteArray} {n:Int} {k j:Nat} (h:k<s.size) (hj:j<k) (h1:((s[k].toNat:Int)==(s[j]'(by omega)).toNat)=true):gAt s.data.toList n k=false:=by
 unfold gAt;have a:s[k]=s[j]'(by omega):=UInt8.toNat_inj.1 (by have:=eq_of_beq h1;omega)
 have:((List.range k).all fun j=>!(s.data.toList.getD k 0==s.data.toList.getD j 0))=false:=by
  rw[List.all_eq_false];exact⟨j,by simpa using hj,by rw[atS h,atS (show j<s.size by omega),a];simp⟩
 rw[this];simp
theorem Tryz.infoStr:(Tryz.prog.info? 9).map (fun i=>(i.zero,i.size,i.bytes))=some (some (Z Ze),1,16):=by kernel_rfl
def gI (s:ByteArray) (c:Int):Nat→List ByteArray×Nat
 | 0=>([],0)
 | k+1=>if h:k<s.size then (if ((s[k].toNat:Int)==c)=true then ((gI s c k).1++[s.extract (gI s c k).2 k],k+1) else gI s c k) else gI s c k
def bU (s:ByteArray) (c:Int):List ByteArray:=(gI s c s.size).1++[s.extract (gI s c s.size).2 s.size]
theorem BP {s:ByteArray} {c:Int} {k:Nat} (h:k<s.size) (h1:((s[k].toNat:Int)==c)=true):gI s c (k+1)=((gI s c k).1++[s.extract (gI s c k).2 k],k+1):=by
 rw[gI,dif_pos h,if_pos h1]
theorem Ef {s:ByteArray} {c:Int} {k:Nat} (h:k<s.size) (h1:((s[k].toNat:Int)==c)=false):gI s c (k+1)=gI s c k:=by
 rw[gI,dif_pos h,if_neg (by simp[h1])]
theorem uM (s:ByteArray) (c:Int) (k:Nat):(gI s c k).2≤k∧(gI s c k).1.length≤k:=by
 induction k with
 | zero=>simp[gI]
 | succ k ih=>unfold gI;split <;> (try split) <;> (try simp) <;> omega
def Rd (w:World) (size:Nat) (v:Value) (n:Nat) (xs:List Value):Prop :=
 xs.length=n*size∧((v=Y O 0 0∧n=0)∨∃ b off cap,v=Y (some ⟨b,off,O⟩) n cap∧n≤cap∧cap≤maxLen∧b<w.heap.size∧∀ j u,xs[j]? = some u→w.cell? ⟨b,off+j,O⟩=some u)
theorem Rd.form {w:World} {size:Nat} {v:Value} {n:Nat} {xs:List Value} (h:Rd w size v n xs) :
  ∃ a cap,v=Y a n cap∧n≤cap∧cap≤maxLen∧(0<n→∃ b off,a=some ⟨b,off,O⟩∧b<w.heap.size∧∀ j u,xs[j]? = some u→w.cell? ⟨b,off+j,O⟩=some u):=by
 obtain⟨_,h⟩:=h
 rcases h with ⟨rfl,rfl⟩|⟨b,off,cap,rfl,c,d,e,f⟩
 ·exact⟨O,0,rfl,Nat.le_refl _,by unfold maxLen;omega,fun h=>absurd h (by omega)⟩
 ·exact⟨_,cap,rfl,c,d,fun _=>⟨b,off,rfl,e,f⟩⟩
theorem Rd.bX {w:World} {base:Nat} {e:TypeId} {size:Nat} {v:Value} {n:Nat} {xs:List Value} (h:w.ownsRow base e size v n xs):Rd w size v n xs:=by
 refine⟨h.1,?_⟩
 rcases h.2 with c|⟨g,b,d,rfl,l,f,i,k,m,o⟩
 ·exact .inl c
 ·refine .inr ⟨g,0,b,rfl,i,k,lt_of_block f,?_⟩;intro j u hj;have:=h.cells rfl j u hj
  have a:(⟨g,0,O⟩:Addr).add j=⟨g,0+j,O⟩:=by unfold Addr.add;split <;> simp_all
  rwa [a] at this
theorem Rd.keep {w w':World} {size:Nat} {v:Value} {n:Nat} {xs:List Value} (h:Rd w size v n xs) (hs:w.heap.size≤w'.heap.size) (hk:∀ b,v.ownBlock=some b→b<w.heap.size→w'.heap[b]? = w.heap[b]?):Rd w' size v n xs:=by
 refine⟨h.1,?_⟩
 rcases h.2 with a|⟨b,c,d,rfl,e,a,f,g⟩
 ·exact .inl a
 ·exact .inr ⟨b,c,d,rfl,e,a,by omega,fun j u i=>(World.cell?_of_block (hk b rfl f)).trans (g j u i)⟩
theorem Rd.below {w w':World} {size:Nat} {v:Value} {n:Nat} {xs:List Value} (h:Rd w size v n xs) (hb:Below w.heap.size w w'):Rd w' size v n xs :=
 h.keep hb.size fun b _ hb2=>hb.block b hb2
def Strs (w:World) (v:Value) (l:List ByteArray):Prop:=Rd w 1 v l.length (l.map Value.string)
theorem Strs.below {w w':World} {v:Value} {l:List ByteArray} (h:Strs w v l) (hb:Below w.heap.size w w'):Strs w' v l:=Rd.below h hb
def fO (l:List ByteArray) (c:ByteArray):Nat→ByteArray
 | 0=>Ze
 | k+1=>(if 0<k then fO l c k++c else fO l c k)++l.getD k Ze
def qC (l:List ByteArray) (c:ByteArray):ByteArray:=fO l c l.length
theorem Strs.get {w:World} {a:Option Addr} {n cap:Nat} {l:List ByteArray} (h:Strs w (Y a n cap) l) (k:Nat) (hk:k<l.length) :
  ∃ b off,a=some ⟨b,off,O⟩∧b<w.heap.size∧w.cell? ⟨b,off+k,O⟩=some (Z l[k]):=by
 rcases h.2 with ⟨c,g⟩|⟨b,off,d,c,_,_,e,f⟩
 ·omega
 ·simp only[Value.slice.injEq] at c;obtain⟨rfl,rfl,rfl⟩:=c
  exact⟨b,off,rfl,e,f k _ (by simp[hk])⟩
theorem Strs.shape {w:World} {v:Value} {l:List ByteArray} (h:Strs w v l):∃ a cap,v=Y a l.length cap∧l.length≤cap∧cap≤9223372036854775807:=by
 obtain⟨a,cap,rfl,hn,hm,_⟩:=h.form
 exact⟨a,cap,rfl,hn,by unfold maxLen at hm;omega⟩
theorem Strs.bX {w:World} {base:Nat} {e:TypeId} {v:Value} {l:List ByteArray} (h:w.ownsRow base e 1 v l.length (l.map Value.string)):Strs w v l:=Rd.bX h
def opB (e:ByteArray):ByteArray:=(bU e 46).getD 2 Ze
def isR (e:ByteArray):Bool:=(opB e).data.toList.head?==some 114
def Qj (l:List ByteArray):Nat:=(l.filter isR).length
def PL (o:ByteArray):Prop:=2≤o.size∧(o.data.toList.getD 0 0≠114→o.data.toList.getD 0 0≠103→o.data.toList.getD 0 0≠112→o.data.toList.getD 0 0≠100→o.size=4)
def CP (e:ByteArray):Prop:=e.size≤100000000∧2<(bU e 46).length∧PL (opB e)
def b0 (o:ByteArray):Int:=(o.data.toList.getD 0 0).toNat
def b1 (o:ByteArray):Int:=(o.data.toList.getD 1 0).toNat
def D5 (log:List ByteArray) (key:Int):Nat→ByteArray
 | 0=>⟨#[]⟩
 | n+1 =>
  let o:=opB (log.getD n Ze)
  if b1 o != key||b0 o==114||b0 o==103 then D5 log key n
  else if b0 o==112 then o.extract 2 o.size
  else if b0 o==100 then ⟨#[]⟩
  else if (D5 log key n).toList==(o.extract 2 3).toList then o.extract 3 o.size else D5 log key n
theorem Ph {o:ByteArray} (h:0<o.size):b0 o=(o[0].toNat:Int):=by unfold b0;rw[atS h]
theorem Pj {o:ByteArray} (h:1<o.size):b1 o=(o[1].toNat:Int):=by unfold b1;rw[atS h]
variable {X:List Nat}
structure KP (l:List ByteArray):Prop where
 len:l.length≤10
 eg:∀ e∈l,CP e
 es:∀ e∈l,e.size≤400
 er:∀ e∈l,isR e=true→(opB e).size≤6
def LET:ByteArray:=⟨#[97,98,99,100,101,102,103,104,105,106,107,108,109,110,111,112,113,114,115,116,117,118,119,120,121,122]⟩
def LETD:ByteArray:=⟨#[97,98,99,100,101,102,103,104,105,106,107,108,109,110,111,112,113,114,115,116,117,118,119,120,121,122,48,49,50,51,52,53,54,55,56,57]⟩
def DEC:ByteArray:=⟨#[48,49,50,51,52,53,54,55,56,57]⟩
def isLet (b:UInt8):Bool:=inB b.toNat LET.data.toList
def isVal (b:UInt8):Bool:=inB b.toNat LETD.data.toList
def gy (b:UInt8):Nat:=if b=103 then 2 else if b=100 then 2 else if b=112 then 3 else if b=99 then 4 else 0
def opTo (l:List UInt8) (i:Nat):Bool:=isLet (l.getD 1 0)&&((l.take i).drop 2).all isVal
def eF (l:List UInt8):Bool:=decide (2≤l.length)&&!(gy (l.getD 0 0)==0)&&(opTo l l.length&&l.length==gy (l.getD 0 0))
theorem hd1 (s:ByteArray) (h:0<s.size) (x:UInt8):((s.extract 0 1).toList==[x])=(s[0]==x):=by
 rw[ByteArray.toList_eq,ext1 s 0 h];simp
theorem Gt {s:ByteArray} (h:s.size<2):eF s.data.toList=false:=by
 unfold eF;rw[nP,decide_eq_false (by omega)];rfl
theorem Gb (s:ByteArray) (c:Int) (k:Nat):∀ p∈(gI s c k).1,p.size≤s.size:=by
 induction k with
 | zero=>simp[gI]
 | succ k ih =>
  unfold gI;split
  ·split
   ·intro p a;rcases List.mem_append.1 a with a|a
    ·exact ih p a
    ·simp at a;subst a;simp;omega
   ·exact ih
  ·exact ih
theorem mM (s:ByteArray) (c:Int):∀ p∈bU s c,p.size≤s.size:=by
 intro p hp;rcases List.mem_append.1 hp with hp|hp
 ·exact Gb s c _ p hp
 ·simp at hp;subst hp;simp
theorem Ee (s:ByteArray) (c:Int):(bU s c).length≤s.size+1:=by
 unfold bU;have:=uM s c s.size;simp;omega
theorem drop1 (s:ByteArray):(s.extract 1 s.size).data.toList=s.data.toList.drop 1:=by
 simp[ByteArray.data_extract,Array.toList_extract,List.extract];rw[List.take_of_length_le (by simp)]
def jX (l:List UInt8) (n:Int):Bool:=if l.head? = some 114 then bK (l.drop 1) n else eF l
def zB (ps:List ByteArray) (n:Int):Bool :=
 match ps with
 | [p0,p1,p2]=>ay p0.data.toList 1 9&&ay p1.data.toList 1 999&&jX p2.data.toList n
 | _=>false
def eX (s:ByteArray) (n:Int):Bool:=zB (bU s 46) n
theorem Jt {ps:List ByteArray} {n:Int} (h:¬ps.length=3):zB ps n=false:=by
 unfold zB;split
 ·simp at h
 ·rfl
theorem LQ {s:ByteArray} (h:0<s.size):s.data.toList.head? = some s[0]:=by
 rw[List.head?_eq_getElem?,List.getElem?_eq_getElem (by simpa using h)];rfl
theorem Pg {s:ByteArray} {n:Int} (h:0<s.size) (h1:((s[0].toNat:Int)==114)=true):jX s.data.toList n=bK (s.extract 1 s.size).data.toList n:=by
 unfold jX;rw[LQ h,drop1,if_pos]
 congr 1;apply UInt8.toNat_inj.1;have:=eq_of_beq h1;have a:(114:UInt8).toNat=114:=rfl;omega
theorem ask_o {s:ByteArray} {n:Int} (h:0<s.size) (h1:((s[0].toNat:Int)==114)=false):jX s.data.toList n=eF s.data.toList:=by
 unfold jX;rw[LQ h,if_neg];intro hc;rw[Option.some.injEq] at hc;rw[hc] at h1;simp at h1
def nC (s:ByteArray):List ByteArray:=if s.toList==[45] then [] else bU s 47
def fE (s:ByteArray) (n:Int):Bool:=if s.toList==[45] then true else (bU s 47).all (fun p=>eX p n)&&decide ((bU s 47).length≤10)
def dM (s:ByteArray) (n:Int):Bool:=(bU s 46).all (fun p=>ay p.data.toList 0 999)&&((bU s 46).length:Int)==n
def bytes (l:List UInt8):ByteArray:=⟨l.toArray⟩
def bM (s:ByteArray):ByteArray :=
 if s.toList==[113] then ⟨#[99,110,111]⟩ else if s.toList==[109] then ⟨#[99,110,118,119]⟩ else if s.toList==[112] then ⟨#[102,108,101,118,120,112,121]⟩
 else if s.toList==[107] then ⟨#[102,108,101,118,121]⟩ else if s.toList==[99] then ⟨#[102,108,101,118,121]⟩
 else if s.toList==[104] then ⟨#[102,108,101,118]⟩ else if s.toList==[103] then ⟨#[102,108,101,118]⟩ else if s.toList==[114] then ⟨#[102,108,101,118]⟩ else if s.toList==[116] then ⟨#[102,108,101,118]⟩
 else if s.toList==[118] then ⟨#[102,108,101,118,118,121,76]⟩ else if s.toList==[115] then ⟨#[102,108,101,118,103,104,121,76]⟩ else if s.toList==[97] then ⟨#[102,108,101,118,105,103,104,121,76]⟩
 else ⟨#[]⟩
def jr (l:List UInt8):Bool:=l.all (fun b=>inB b.toNat DEC.data.toList)&&(decide (1≤l.length)&&decide (l.length≤8))
def mq (s:ByteArray) (c n:Int) (ahead:ByteArray):Bool :=
 if c=99 then ay s.data.toList 1 9 else if c=110∨c=105 then ay s.data.toList 1 999 else if c=111 then eF s.data.toList
 else if c=119 then jr s.data.toList else if c=102 then ay s.data.toList 0 (n-1) else if c=108 then dM s n
 else if c=101∨c=121 then ay s.data.toList 0 10 else if c=118 then ay s.data.toList 0 999 else if c=120 then ay s.data.toList 1 10
 else if c=112 then eX s n else if c=103 then bK s.data.toList n else if c=104 then bK s.data.toList n||s.toList==[45]
 else fE s n&&decide (aH ahead.data.toList≤(nC s).length)
section
variable (s:ByteArray) (n:Int) (ahead:ByteArray) (w:World) (hs:s.size≤100000000)
end
def BU (ws:List ByteArray) (f:ByteArray) (n:Int) (k:Nat):Bool:=(List.range k).all fun j=>mq (ws.getD (j+1) Ze) (f.data.toList.getD j 0).toNat n (ws.getD j Ze)
def aZ (s:ByteArray) (n:Int):List ByteArray :=
 if 400<s.size then [] else
 let ws:=bU s 32
 let f:=bM (ws.getD 0 Ze)
 if f.size=0 then [] else if ws.length≠f.size+1 then [] else if BU ws f n f.size then ws else []
theorem gq {x:Int} (h1 : -9223372036854775808≤x) (h2:x≤9223372036854775807):IntKind.i64.wrap x=x:=by
 rw[IntKind.wrap_i64];omega
theorem jv {B:Nat} {w w':World} (h:Below B w.drew w'):Below B w w':=(Below.refl _ w).drew.trans h
theorem dh {w w':World} {base:Nat} {e:TypeId} {size:Nat} {v:Value} {n:Nat} {xs:List Value} (h:w.ownsRow base e size v n xs) (hb:Below w.heap.size w w'):w'.ownsRow base e size v n xs :=
 h.kept (row:=O) ⟨hb.os,hb.tape,hb.output,hb.size,fun k hk _=>hb.block k hk⟩ (by cases hv:v.ownBlock <;> simp)
theorem jJ {l:List UInt8} {n:Int} (h:bK l n=true):l.length=3∨l.length=5:=by
 unfold bK at h;simp at h;exact h.2
theorem uj {e:ByteArray} {n:Int} (h:eX e n=true) (hs:e.size≤400):CP e∧(isR e=true→(opB e).size≤6):=by
 unfold eX zB at h
 split at h
 ·rename_i p0 p1 p2 hc;have d:opB e=p2:=by unfold opB;rw[hc];rfl
  simp only[Bool.and_eq_true] at h;have a:=h.2;have l:p2.size=p2.data.toList.length:=by simp
  unfold jX at a;refine⟨⟨by omega,by rw[hc];simp,?_⟩,?_⟩
  ·rw[d]
   split at a
   ·rename_i b;have:=jJ a
    rw[List.length_drop] at this;refine⟨by omega,fun g=>?_⟩
    exfalso;apply g
    rw[List.head?_eq_getElem?] at b;rw[List.getD,b];rfl
   ·unfold eF at a;simp only[Bool.and_eq_true,decide_eq_true_eq,Bool.not_eq_true',beq_eq_false_iff_ne,beq_iff_eq] at a;refine⟨by omega,fun g i j k=>?_⟩
    have c:=a.1.2;have f:=a.2.2;unfold gy at c f;rw[if_neg i,if_neg k,if_neg j] at c f
    split at c
    ·rename_i h6;rw[if_pos h6] at f;omega
    ·simp at c
  ·intro hr;rw[d];unfold isR at hr;rw[d] at hr;have b:p2.data.toList.head? = some 114:=by simpa using hr
   rw[if_pos b] at a;have:=jJ a
   rw[List.length_drop] at this;omega
 ·simp at h
theorem xw {s:ByteArray} {n:Int} (h:fE s n=true) (hs:s.size≤400):KP (nC s):=by
 unfold fE at h;unfold nC
 split at h
 ·rename_i hd;rw[if_pos hd];exact⟨Nat.zero_le _,by simp,by simp,by simp⟩
 ·rename_i hd;rw[if_neg hd];simp only[Bool.and_eq_true,decide_eq_true_eq,List.all_eq_true] at h;have b:∀ e∈bU s 47,e.size≤400:=fun e a=>Nat.le_trans (mM s 47 e a) hs
  exact⟨h.2,fun e a=>(uj (h.1 e a) (b e a)).1,b,fun e a=>(uj (h.1 e a) (b e a)).2⟩
theorem dW {l:List UInt8} {a b:Int} (h:ay l a b=true):a≤aH l∧aH l≤b:=by
 unfold ay at h;simpa using h
theorem sQ {s:ByteArray} {n:Int} (h:aZ s n≠[]):s.size≤400∧aZ s n=bU s 32∧0<(bM ((bU s 32).getD 0 Ze)).size∧(bU s 32).length=(bM ((bU s 32).getD 0 Ze)).size+1 ∧
  ∀ k,k<(bM ((bU s 32).getD 0 Ze)).size→mq ((bU s 32).getD (k+1) Ze) ((bM ((bU s 32).getD 0 Ze)).data.toList.getD k 0).toNat n ((bU s 32).getD k Ze)=true:=by
 unfold aZ at h ⊢
 split at h
 ·exact absurd rfl h
 ·rename_i h4;rw[if_neg h4];dsimp only at h ⊢
  split at h
  ·exact absurd rfl h
  ·rename_i h5;rw[if_neg h5]
   split at h
   ·exact absurd rfl h
   ·rename_i h6;rw[if_neg h6]
    split at h
    ·rename_i h7;rw[if_pos h7];refine⟨by omega,rfl,by omega,by simpa using h6,fun k a=>?_⟩
     unfold BU at h7;rw[List.all_eq_true] at h7;exact h7 k (by simpa using a)
    ·exact absurd rfl h
structure Sd where
 w:List ByteArray
 kind:ByteArray
 frm:Int
 lives:List Int
 epoch:Int
 view:Int
 commit:Int
 log:List ByteArray
structure Nd where
 id:Int
 n:Int
 lives:List Int
 status:Int
 epoch:Int
 view:Int
 normal:Int
 group:ByteArray
 old:ByteArray
 log:List ByteArray
 commit:Int
 acks:List Int
 aI:List Sd
 answers:List Sd
 begun:ByteArray
def Ints (w:World) (v:Value) (l:List Int):Prop:=Rd w 1 v l.length (l.map (Value.int .i64))
theorem Ints.below {w w':World} {v:Value} {l:List Int} (h:Ints w v l) (hb:Below w.heap.size w w'):Ints w' v l:=Rd.below h hb
theorem Ints.get {w:World} {a:Option Addr} {n cap:Nat} {l:List Int} (h:Ints w (Y a n cap) l) (k:Nat) (hk:k<l.length) :
  ∃ b off,a=some ⟨b,off,O⟩∧b<w.heap.size∧w.cell? ⟨b,off+k,O⟩=some (I J l[k]):=by
 rcases h.2 with ⟨c,g⟩|⟨b,off,d,c,_,_,e,f⟩
 ·omega
 ·simp only[Value.slice.injEq] at c;obtain⟨rfl,rfl,rfl⟩:=c
  exact⟨b,off,rfl,e,f k _ (by simp[hk])⟩
theorem Ints.shape {w:World} {v:Value} {l:List Int} (h:Ints w v l):∃ a cap,v=Y a l.length cap∧l.length≤cap∧cap≤9223372036854775807:=by
 obtain⟨a,cap,rfl,hn,hm,_⟩:=h.form
 exact⟨a,cap,rfl,hn,by unfold maxLen at hm;omega⟩
def dg (x:Int):ByteArray:=⟨(jI x.toNat).toArray⟩
theorem nS (l:List ByteArray) (c:ByteArray) (M:Nat) (h:∀ t∈l,t.size≤M) (k:Nat):(fO l c k).size≤k*(M+c.size):=by
 induction k with
 | zero=>simp[fO]
 | succ k ih =>
  have b:(l.getD k Ze).size≤M:=by
   by_cases a:k<l.length
   ·have e:l.getD k Ze=l[k]:=by simp[List.getD,a]
    rw[e];exact h _ (List.getElem_mem _)
   ·have e:l.getD k Ze=Ze:=by rw[List.getD,List.getElem?_eq_none (by omega)];rfl
    rw[e];exact Nat.zero_le _
  have d:(k+1)*(M+c.size)=k*(M+c.size)+(M+c.size):=by rw[Nat.add_mul,Nat.one_mul]
  unfold fO
  split <;> simp only[ByteArray.size_append] <;> omega
def SP:ByteArray:=⟨#[32]⟩
def DOT:ByteArray:=⟨#[46]⟩
def SLASH:ByteArray:=⟨#[47]⟩
def iC (l:List Int):ByteArray:=qC (l.map dg) DOT
def Pw (N:Nd) (kind:ByteArray):ByteArray:=kind++SP++dg N.id++SP++iC N.lives++SP++dg N.epoch++SP++dg N.view
theorem tH {α β:Type} {l:List α} {f:α→β} {k:Nat} (h:k<l.length):(l.take (k+1)).map f=(l.take k).map f++[f l[k]]:=by
 rw[List.take_succ_eq_append_getElem h,List.map_append];rfl
def wh (c:UInt8) (a:List (List UInt8)×List UInt8) (x:UInt8):List (List UInt8)×List UInt8:=if (x==c)=true then (a.1++[a.2],[]) else (a.1,a.2++[x])
def jG (c:UInt8) (a:List (List UInt8)×List UInt8) (l:List UInt8):List (List UInt8)×List UInt8:=l.foldl (wh c) a
def spl (c:UInt8) (l:List UInt8):List (List UInt8):=(jG c ([],[]) l).1++[(jG c ([],[]) l).2]
theorem DY {c:UInt8} {l:List UInt8} (h:c∉l):∀ (ps:List (List UInt8)) (cur:List UInt8),jG c (ps,cur) l=(ps,cur++l):=by
 induction l with
 | nil=>intro ps cur;simp[jG]
 | cons x l ih =>
  intro ps cur;have b:(x==c)=false:=by rw[beq_eq_false_iff_ne];intro a;apply h;simp[a]
  have:=ih (fun a=>h (by simp[a])) ps (cur++[x])
  unfold jG at this ⊢;rw[List.foldl_cons];have e:wh c (ps,cur) x=(ps,cur++[x]):=by unfold wh;rw[b];rfl
  rw[e,this];simp
theorem M8 (c:UInt8) (l:List UInt8):∀ (ps:List (List UInt8)) (cur:List UInt8),jG c (ps,cur) l=(ps++(jG c ([],cur) l).1,(jG c ([],cur) l).2):=by
 induction l with
 | nil=>intro ps cur;simp[jG]
 | cons x l ih =>
  intro ps cur;unfold jG at ih ⊢;rw[List.foldl_cons,List.foldl_cons];cases hx:(x==c)
  ·have e:∀ a,wh c (a,cur) x=(a,cur++[x]):=fun a=>by unfold wh;rw[hx];rfl
   rw[e,e,ih]
  ·have e:∀ a,wh c (a,cur) x=(a++[cur],[]):=fun a=>by unfold wh;rw[hx];rfl
   rw[e,e,ih,ih ([]++[cur])];simp
theorem M9 {c:UInt8} {a b:List UInt8} (h:c∉a):spl c (a++c :: b)=a :: spl c b:=by
 have e:jG c ([],[]) (a++c :: b)=([a]++(jG c ([],[]) b).1,(jG c ([],[]) b).2):=by
  have d:jG c ([],[]) (a++c :: b)=jG c (jG c ([],[]) a) (c :: b):=by unfold jG;rw[List.foldl_append]
  rw[d,DY h];have f:jG c ([],[]++a) (c :: b)=jG c ([a],[]) b:=by
   unfold jG;rw[List.foldl_cons];congr 1;unfold wh;simp
  rw[f,M8]
 unfold spl;rw[e];simp
theorem OU {c:UInt8} {a:List UInt8} (h:c∉a):spl c a=[a]:=by
 unfold spl;rw[DY h];simp
theorem Js (s:ByteArray) (c:UInt8) (k:Nat) (hk:k≤s.size) :
  jG c ([],[]) (s.data.toList.take k)=((gI s c.toNat k).1.map (fun p=>p.data.toList),(s.data.toList.take k).drop (gI s c.toNat k).2):=by
 induction k with
 | zero=>simp[jG,gI]
 | succ k ih =>
  have a:k<s.size:=by omega
  have d:=ih (by omega)
  rw[sO s k a];have e:jG c ([],[]) (s.data.toList.take k++[s[k]])=wh c (jG c ([],[]) (s.data.toList.take k)) s[k]:=by unfold jG;rw[List.foldl_append];rfl
  rw[e,d];have f:=(uM s c.toNat k).1;cases hx:(s[k]==c)
  ·have b:((s[k].toNat:Int)==(c.toNat:Int))=false:=by
    rw[beq_eq_false_iff_ne] at hx ⊢;intro hc;apply hx;apply UInt8.toNat_inj.1;omega
   rw[Ef a b];unfold wh;rw[hx];simp only[Bool.false_eq_true,if_false]
   congr 1
   rw[List.drop_append_of_le_length (by simp;omega)]
  ·have b:((s[k].toNat:Int)==(c.toNat:Int))=true:=by
    rw[beq_iff_eq] at hx ⊢;rw[hx]
   rw[BP a b];unfold wh;rw[hx];simp only[if_true];have g:(s.data.toList.take k++[s[k]]).length=k+1:=by simp;omega
   refine Prod.ext ?_ ?_
   ·simp only[List.map_append,List.map_cons,List.map_nil]
    congr 2
    simp[ByteArray.data_extract,Array.toList_extract,List.extract];rw[List.take_drop]
    congr 1
    congr 1
    omega
   ·show []=_
    rw[List.drop_eq_nil_of_le (by rw[g];exact Nat.le_refl _)]
theorem qN (s:ByteArray) (c:UInt8):(bU s c.toNat).map (fun p=>p.data.toList)=spl c s.data.toList:=by
 have h:=Js s c s.size (Nat.le_refl _);rw[List.take_of_length_le (by simp)] at h
 unfold bU spl;rw[h,List.map_append]
 congr 1
 simp[ByteArray.data_extract,Array.toList_extract,List.extract];have a:s.data.toList.length=s.size:=by simp
 exact List.take_of_length_le (by rw[List.length_drop];omega)
theorem bytes_inj {a b:ByteArray} (h:a.data.toList=b.data.toList):a=b:=by
 obtain⟨⟨a⟩⟩:=a
 obtain⟨⟨b⟩⟩:=b
 have h2:a=b:=h
 rw[h2]
theorem xD {l:List ByteArray} {m:List ByteArray} (h:l.map (fun p=>p.data.toList)=m.map (fun p=>p.data.toList)):l=m:=by
 induction l generalizing m with
 | nil=>cases m with
  | nil=>rfl
  | cons b m=>simp at h
 | cons a l ih=>cases m with
  | nil=>simp at h
  | cons b m=>rw[List.map_cons,List.map_cons,List.cons.injEq] at h;rw[bytes_inj h.1,ih h.2]
theorem BO {a b:ByteArray} {c:UInt8} (h:c∉a.data.toList):bU (a++⟨#[c]⟩++b) c.toNat=a :: bU b c.toNat:=by
 apply xD
 rw[qN,List.map_cons,qN,← M9 h]
 congr 1
 simp[ByteArray.data_append]
theorem uL {a:ByteArray} {c:UInt8} (h:c∉a.data.toList):bU a c.toNat=[a]:=by
 apply xD
 rw[qN,OU h];rfl
theorem zA (n:Nat):∀ b∈jI n,48≤b.toNat∧b.toNat≤57:=by
 induction n using Nat.strongRecOn with
 | _ n ih =>
  intro b a;unfold jI at a
  split at a
  ·rw[List.mem_singleton] at a;subst a;rename_i h;rw[UInt8.toNat_ofNat'];omega
  ·rename_i h;rcases List.mem_append.1 a with a|a
   ·exact ih (n / 10) (by omega) b a
   ·rw[List.mem_singleton] at a;subst a;rw[UInt8.toNat_ofNat'];omega
theorem zx (x:Int) {c:UInt8} (hc:c.toNat<48∨57<c.toNat):c∉(dg x).data.toList:=by
 intro h;have:=zA x.toNat c (by simpa [dg] using h)
 omega
theorem BZ {l:List ByteArray} {d:ByteArray} {c:UInt8} (hl:∀ t∈l,c∉t.data.toList) (hd:c∉d.data.toList) (k:Nat):c∉(fO l d k).data.toList:=by
 induction k with
 | zero=>simp[fO]
 | succ k ih =>
  have a:c∉(l.getD k Ze).data.toList:=by
   by_cases b:k<l.length
   ·have e:l.getD k Ze=l[k]:=by simp[List.getD,b]
    rw[e];exact hl _ (List.getElem_mem _)
   ·have e:l.getD k Ze=Ze:=by rw[List.getD,List.getElem?_eq_none (by omega)];rfl
    rw[e];simp
  unfold fO
  split
  ·simp only[ByteArray.data_append,Array.toList_append,List.mem_append,not_or];exact⟨⟨ih,hd⟩,a⟩
  ·simp only[ByteArray.data_append,Array.toList_append,List.mem_append,not_or];exact⟨ih,a⟩
theorem EJ (l:List Int):(32:UInt8)∉(iC l).data.toList:=by
 unfold iC qC;refine BZ (fun t a=>?_) (by decide) _
 obtain⟨x,_,rfl⟩:=List.mem_map.1 a
 exact zx x (.inl (by decide))
theorem CJ {a:UInt8} {n:Nat} (h:a.toNat=n):UInt8.ofNat n=a:=by
 apply UInt8.toNat_inj.1;rw[UInt8.toNat_ofNat'];have:=a.toNat_lt;omega
theorem uS {n:Nat} (h:n<10):jI n=[UInt8.ofNat (48+n)]:=by unfold jI;rw[if_pos h]
theorem zy {n:Nat} (h:¬n<10):jI n=jI (n / 10)++[UInt8.ofNat (48+n % 10)]:=by rw[jI];rw[if_neg h]
theorem tX {l:List UInt8} (h:0≤aH l):jI (aH l).toNat=l:=by
 unfold aH at h ⊢
 split at h
 ·rename_i hk;rw[if_pos hk];unfold kR at hk;simp only[Bool.and_eq_true,Bool.not_eq_true',decide_eq_true_eq,List.all_eq_true] at hk;obtain⟨⟨⟨d,j⟩,k⟩,f⟩:=hk
  match l,d,j,k,f with
  | [],_,j,_,_=>simp at j
  | [a],d,_,_,_ =>
   have g:=d a (by simp)
   simp[gX] at g;have e:(jh [a]).toNat=a.toNat-48:=by simp[jh];omega
   rw[e,uS (by omega),CJ (a:=a) (by omega)]
  | [a,b],d,_,_,f =>
   have g:=d a (by simp)
   have m:=d b (by simp)
   simp[gX] at g m;have n:a.toNat≠48:=by
    intro i;have:a=48:=by apply UInt8.toNat_inj.1;rw[i];rfl
    subst this;simp at f
   have e:(jh [a,b]).toNat=(a.toNat-48)*10+(b.toNat-48):=by simp[jh];omega
   rw[e,zy (by omega),uS (by omega),CJ (a:=a) (by omega),CJ (a:=b) (by omega)];rfl
  | [a,b,c],d,_,_,f =>
   have g:=d a (by simp)
   have m:=d b (by simp)
   have i:=d c (by simp)
   simp[gX] at g m i;have n:a.toNat≠48:=by
    intro i;have:a=48:=by apply UInt8.toNat_inj.1;rw[i];rfl
    subst this;simp at f
   have e:(jh [a,b,c]).toNat=(a.toNat-48)*100+(b.toNat-48)*10+(c.toNat-48):=by simp[jh];omega
   rw[e,zy (by omega),zy (by omega),uS (by omega),CJ (a:=a) (by omega),CJ (a:=b) (by omega),CJ (a:=c) (by omega)];rfl
  | _ :: _ :: _ :: _ :: _,_,_,k,_=>simp at k
 ·omega
theorem u8n (n:Nat) (h:n≤9):(UInt8.ofNat (48+n)).toNat=48+n:=by rw[UInt8.toNat_ofNat'];omega
theorem pq (n:Nat) (h:n≤9):gX (UInt8.ofNat (48+n))=true:=by
 unfold gX;rw[u8n n h];simp;omega
theorem Mf (n:Nat) (h:n≤999):aH (jI n)=n:=by
 have d:∀ k,1≤k→k≤9→UInt8.ofNat (48+k)≠48:=fun k c f a=>by
  have:=congrArg UInt8.toNat a
  rw[u8n k f] at this;have e:(48:UInt8).toNat=48:=rfl
  omega
 by_cases c:n<10
 ·rw[uS c];have b:kR [UInt8.ofNat (48+n)]=true:=by
   unfold kR;simp only[List.all_cons,List.all_nil,pq n (by omega)]
   by_cases g:n=0
   ·subst g;rfl
   ·have:=d n (by omega) (by omega)
    simp
  unfold aH;rw[if_pos b];unfold jh;simp only[List.foldl_cons,List.foldl_nil,u8n n (by omega)]
  omega
 ·by_cases f:n<100
  ·rw[zy c,uS (by omega)]
   have b:kR ([UInt8.ofNat (48+n / 10)]++[UInt8.ofNat (48+n % 10)])=true:=by
    unfold kR;have:=d (n / 10) (by omega) (by omega)
    simp only[List.cons_append,List.nil_append,List.all_cons,List.all_nil,pq (n / 10) (by omega),pq (n % 10) (by omega),List.head?_cons]
    have e:(some (UInt8.ofNat (48+n / 10))==some (48:UInt8))=false:=by rw[beq_eq_false_iff_ne];intro a;exact this (Option.some.inj a)
    rw[e];rfl
   unfold aH;rw[if_pos b];unfold jh;simp only[List.cons_append,List.nil_append,List.foldl_cons,List.foldl_nil,u8n (n / 10) (by omega),u8n (n % 10) (by omega)]
   omega
  ·rw[zy c,zy (by omega),uS (by omega)]
   have b:kR ([UInt8.ofNat (48+n / 10 / 10)]++[UInt8.ofNat (48+n / 10 % 10)]++[UInt8.ofNat (48+n % 10)])=true:=by
    unfold kR;have:=d (n / 10 / 10) (by omega) (by omega)
    simp only[List.cons_append,List.nil_append,List.all_cons,List.all_nil,pq (n / 10 / 10) (by omega),pq (n / 10 % 10) (by omega),pq (n % 10) (by omega),List.head?_cons]
    have e:(some (UInt8.ofNat (48+n / 10 / 10))==some (48:UInt8))=false:=by rw[beq_eq_false_iff_ne];intro a;exact this (Option.some.inj a)
    rw[e];rfl
   unfold aH;rw[if_pos b];unfold jh;simp only[List.cons_append,List.nil_append,List.foldl_cons,List.foldl_nil,u8n (n / 10 / 10) (by omega),u8n (n / 10 % 10) (by omega),u8n (n % 10) (by omega)]
   omega
theorem iq {x:Int} (h0:0≤x) (h1:x≤999):aH (dg x).data.toList=x:=by
 have:=Mf x.toNat (by omega)
 have e:(dg x).data.toList=jI x.toNat:=by simp[dg]
 rw[e,this];omega
theorem Dp {l:List UInt8} (h:0≤aH l) {c:UInt8} (hc:c.toNat<48∨57<c.toNat):c∉l:=by
 intro hm;rw[← tX h] at hm;have:=zA _ c hm
 omega
theorem nU {l:List UInt8} {n:Int} (h:bK l n=true) (k:Nat) (hk:k<l.length):0≤aH [l.getD k 0]∧aH [l.getD k 0]<n:=by
 unfold bK gTo at h;simp only[Bool.and_eq_true,List.all_eq_true] at h;have:=h.1 k (by simpa using hk)
 unfold gAt at this;simp only[Bool.and_eq_true,decide_eq_true_eq] at this;exact this.1
theorem Et {l:List UInt8} {n:Int} (h:bK l n=true) {c:UInt8} (hc:c.toNat<48∨57<c.toNat):c∉l:=by
 intro hm;obtain⟨k,a,rfl⟩:=List.mem_iff_getElem.1 hm
 have:=nU h k a
 have e:l.getD k 0=l[k]:=by simp[List.getD,a]
 rw[e] at this;exact absurd (List.mem_singleton.2 rfl) (Dp this.1 hc)
theorem Qb {b:UInt8} (h:isLet b=true):97≤b.toNat∧b.toNat≤122:=by
 unfold isLet inB at h;simp[LET] at h;omega
theorem Qc {b:UInt8} (h:isVal b=true):97≤b.toNat∧b.toNat≤122∨48≤b.toNat∧b.toNat≤57:=by
 unfold isVal inB at h;simp[LETD] at h;omega
theorem Gs {l:List UInt8} (h:eF l=true):∀ c∈l,97≤c.toNat∧c.toNat≤122∨48≤c.toNat∧c.toNat≤57:=by
 unfold eF opTo at h;simp only[Bool.and_eq_true,decide_eq_true_eq,Bool.not_eq_true',beq_eq_false_iff_ne,List.all_eq_true] at h;obtain⟨⟨e,i⟩,⟨j,g⟩,_⟩:=h
 match l,e,i,j,g with
 | [],e,_,_,_=>simp at e
 | [_],e,_,_,_=>simp at e
 | a :: b :: r,_,i,j,g =>
  intro c f;rw[List.take_of_length_le (Nat.le_refl _)] at g;rcases List.mem_cons.1 f with rfl|f
  ·have d:gy c≠0:=by simpa using i
   unfold gy at d
   left
   repeat' split at d
   all_goals first|(rename_i q;subst q;decide)|simp at d
  ·rcases List.mem_cons.1 f with rfl|f
   ·left;exact Qb (by simpa using j)
   ·exact Qc (g c (by simpa using f))
def OKb:ByteArray:=⟨#[111,107]⟩
def NOb:ByteArray:=⟨#[110,111]⟩
def qG:ByteArray:=⟨#[45]⟩
def OL (log:List ByteArray) (k:Nat):ByteArray :=
 let o:=opB (log.getD k Ze)
 let v:=D5 log (b1 o) k
 if b0 o==114 then OKb else if b0 o==103 then (if v.toList.isEmpty then qG else v) else if b0 o==100 then (if v.toList.isEmpty then qG else OKb)
 else if b0 o==99 then (if v.toList==(o.extract 2 3).toList then OKb else NOb) else OKb
def LW (l:List ByteArray):ByteArray:=if l.length=0 then qG else qC l SLASH
def QD (N:Nd):ByteArray:=SP++dg N.commit++SP++LW N.log
def oldB (o:ByteArray):ByteArray:=if o.toList.isEmpty then qG else o
def N8 (N:Nd):ByteArray:=SP++N.group++SP++oldB N.old
def KS:ByteArray:=⟨#[115]⟩
def Nn (N:Nd):ByteArray:=Pw N KS++N8 N++QD N
def ofB (g:ByteArray) (q:Int):Bool:=inB (48+q) g.data.toList
theorem dg1 (q:Int) (h0:0≤q) (h1:q<10):∃ h:0<(dg q).size,((dg q)[0].toNat:Int)=48+q:=by
 have e:dg q=⟨#[UInt8.ofNat (48+q.toNat)]⟩:=by unfold dg;rw[uT (by omega)]
 rw[e];refine⟨by show 0<1;omega,?_⟩
 show ((UInt8.ofNat (48+q.toNat)).toNat:Int)=48+q
 rw[UInt8.toNat_ofNat_of_lt' (by show 48+q.toNat<256;omega)];omega
def EZ (g:ByteArray) (v:Nat):Int:=aH [g.data.toList.getD (v % g.size) 0]
def Qd (N:Nd):Bool:=EZ N.group N.view.toNat==N.id
theorem La {P:Program} {ops:Array Oper} {rest:List Oper} {o:Oper} {a:Act} {Q:Exit→Act→World→Prop} (hgd:o.guard=O) (s x:Operand) (t:TypeId)
  (ho:o.op=.call { callee:=.builtin .append,args:=#[s,x],argTypes:=#[t,t] })
  (base:Nat) (e:TypeId) (i:TypeInfo) (z:Value) (size bytes:Nat) (ht:P.underlying t=some (.slice e)) (hi:P.info? e=some i) (hz:i.zero=some z)
  (hsize:i.size=size) (hby:i.bytes=bytes) (hzs:z.cells.size=size) (hsz:0<size)
  (w:World) (v:Value) (n:Nat) (xs:List Value) (hs:a.eval s=v) (hown:w.ownsRow base e size v n xs)
  (vx:Value) (m:Nat) (news:List Value) (hx:a.eval x=vx) (hrd:Rd w size vx m news) (h1:∀ u∈news,u.oneCell'=true)
  (hn:n≤1000000000) (hm:m≤1000000000) (hby2:bytes≤1000) (hbase:base≤w.heap.size)
  (h:∀ v' w',w'.ownsRow base e size v' (n+m) (xs++news)→w.grownBy w' v.ownBlock→Below base w w'→wpList P ops Q rest (a.put o.dst v') w') :
  wpList P ops Q (o :: rest) a w:=by
 rcases hrd.2 with ⟨rfl,rfl⟩|⟨b,d,g,rfl,q,r,y,l⟩
 ·have f:news=[]:=List.eq_nil_of_length_eq_zero (by have:=hrd.1;omega)
  subst f;refine wpList_append_own_none hgd s x t ho base e i size ht hi v n xs hs hown hx ?_;exact h v w (by simpa using hown) ⟨rfl,rfl,rfl,Nat.le_refl _,fun _ _ _=>rfl⟩ (Below.refl _ _)
 ·refine wpList_append_own _ hgd s x t ho base e i z size bytes ht hi hz hsize hby hzs hsz v n xs hs hown ⟨b,d,O⟩ m g news hx hrd.1 ?_ h1 (by unfold maxLen;omega) ?_ hbase ?_
  ·intro j u hj;have c:(⟨b,d,O⟩:Addr).add j=⟨b,d+j,O⟩:=by unfold Addr.add;split <;> simp_all
   rw[c];exact l j u hj
  ·have:(n+m)*bytes≤2000000000*1000:=Nat.mul_le_mul (by omega) hby2
   omega
  ·intro v' w' k2 k3 _;exact h v' w' k2 k3 ((Below.refl _ w).grown k3 hbase (fun k p=>(hown.lt k p).1))
theorem Tryz.infoOut:(Tryz.prog.info? 36).map (fun i=>(i.zero,i.size,i.bytes))=some (some (.agg #[I J 0,Z Ze]),2,24):=by kernel_rfl
def iI (l:List (Int×ByteArray)):List Value:=l.flatMap fun o=>[I J o.1,Z o.2]
def mU (w:World) (base:Nat) (v:Value) (l:List (Int×ByteArray)):Prop:=w.ownsRow base 36 2 v l.length (iI l)
theorem mU.below {w w':World} {base:Nat} {v:Value} {l:List (Int×ByteArray)} (h:mU w base v l) (hb:Below w.heap.size w w'):mU w' base v l:=dh h hb
theorem mU.nil (w:World) (base:Nat):mU w base (Y O 0 0) []:=World.ownsRow_nil _ _ _ _
def Ah (id:Int) (g t:ByteArray):Nat→List (Int×ByteArray)
 | 0=>[]
 | k+1=>if (EZ g k==id)=true then Ah id g t k else Ah id g t k++[(EZ g k,t)]
def Dx (id:Int) (g t:ByteArray):List (Int×ByteArray):=Ah id g t g.size
def KG:ByteArray:=⟨#[103]⟩
variable {X:List Nat}
structure Kp (S:List Nat) (w w':World):Prop where
 os:w'.os=w.os
 tape:w'.tape=w.tape
 output:w'.output=w.output
 size:w.heap.size≤w'.heap.size
 block:∀ k,k<w.heap.size→k∉S→w'.heap[k]? = w.heap[k]?
theorem sub3 {b bl ba:Nat} {X:List Nat}:∀ x∈[b,bl,ba],x∈b :: bl :: ba :: X:=by
 intro x hx;simp at hx;rcases hx with h|h|h <;> simp[h]
theorem Kp.refl (S:List Nat) (w:World):Kp S w w:=⟨rfl,rfl,rfl,Nat.le_refl _,fun _ _ _=>rfl⟩
theorem Kp.of_below {S:List Nat} {w w':World} (h:Below w.heap.size w w'):Kp S w w':=⟨h.os,h.tape,h.output,h.size,fun k hk _=>h.block k hk⟩
theorem Kp.trans {S S':List Nat} {a b c:World} (h:Kp S a b) (k:Kp S' b c) (hs:∀ x∈S',x<a.heap.size→x∈S):Kp S a c :=
 ⟨k.os.trans h.os,k.tape.trans h.tape,k.output.trans h.output,Nat.le_trans h.size k.size,fun x d e =>
  (k.block x (Nat.lt_of_lt_of_le d h.size) (fun f=>e (hs x f d))).trans (h.block x d e)⟩
theorem Kp.trans' {S:List Nat} {a b c:World} (h:Kp S a b) (k:Kp S b c):Kp S a c:=h.trans k (fun _ hx _=>hx)
theorem Kp.aS {S:List Nat} {a b c:World} (h:Kp S a b) (k:Below b.heap.size b c):Kp S a c:=h.trans' (Kp.of_below k)
theorem Kp.set {S:List Nat} {a w:World} (h:Kp S a w) (g j:Nat) (v:Value) (hg:g∈S∨a.heap.size≤g):Kp S a (w.setCell ⟨g,j,O⟩ v):=by
 refine⟨h.os,h.tape,h.output,by have:=h.size;simp[World.setCell];exact this,fun k d c=>?_⟩
 have b:k≠g:=by
  rcases hg with hg|hg
  ·intro hc;exact c (hc▸hg)
  ·omega
 rw[Below.heap_setCell w ⟨g,j,O⟩ v k b];exact h.block k d c
theorem Kp.alloc {S:List Nat} {a w:World} (h:Kp S a w) (o:Obj):Kp S a (w.alloc o) :=
 h.aS ((Below.refl _ w).alloc (Nat.le_refl _) o)
def Fr (S:List Nat) (v:Value):Prop:=∀ k,v.ownBlock=some k→k∉S
theorem Fr.nil (S:List Nat) (n c:Nat):Fr S (Y O n c):=by intro k hk;simp[Value.ownBlock] at hk
theorem Rd.lt {w:World} {size:Nat} {v:Value} {n:Nat} {xs:List Value} (h:Rd w size v n xs):∀ k,v.ownBlock=some k→k<w.heap.size:=by
 intro k hk;rcases h.2 with ⟨rfl,_⟩|⟨b,a,c,rfl,_,_,d,_⟩
 ·simp[Value.ownBlock] at hk
 ·simp[Value.ownBlock] at hk;subst hk;exact d
theorem Rd.kp {w w':World} {size:Nat} {v:Value} {n:Nat} {xs:List Value} {S S':List Nat} (h:Rd w size v n xs) (k:Kp S w w') (hf:Fr S' v) (hsub:∀ x∈S,x∈S':=by first|exact fun _ h=>h|exact sub3|(intro x hx;simp at hx;simp[hx])):Rd w' size v n xs :=
 h.keep k.size fun b hb hlt=>k.block b hlt (fun hc=>hf b hb (hsub b hc))
theorem Strs.kp {w w':World} {v:Value} {l:List ByteArray} {S S':List Nat} (h:Strs w v l) (k:Kp S w w') (hf:Fr S' v) (hsub:∀ x∈S,x∈S':=by first|exact fun _ h=>h|exact sub3|(intro x hx;simp at hx;simp[hx])):Strs w' v l:=Rd.kp h k hf hsub
theorem Ints.kp {w w':World} {v:Value} {l:List Int} {S S':List Nat} (h:Ints w v l) (k:Kp S w w') (hf:Fr S' v) (hsub:∀ x∈S,x∈S':=by first|exact fun _ h=>h|exact sub3|(intro x hx;simp at hx;simp[hx])):Ints w' v l:=Rd.kp h k hf hsub
theorem Fr.swap {w:World} {size:Nat} {v:Value} {n:Nat} {xs:List Value} {S S':List Nat} (h:Rd w size v n xs) (hf:Fr S v) (hs:∀ x∈S',x∈S∨w.heap.size≤x):Fr S' v:=by
 intro k hk hc;rcases hs k hc with hx|hx
 ·exact hf k hk hx
 ·have:=h.lt k hk;omega
def oM (w:World) (v:Value) (g:Nat) (l:List Int):Prop:=w.ownsRow 0 3 1 v l.length (l.map (Value.int .i64))∧∃ cap,v=Y (some ⟨g,0,Option.none⟩) l.length cap
theorem oM.kp {w w':World} {v:Value} {g:Nat} {l:List Int} {S:List Nat} (h:oM w v g l) (k:Kp S w w') (hg:g∉S):oM w' v g l:=by
 obtain⟨c,a,rfl⟩:=h
 refine⟨⟨c.1,?_⟩,a,rfl⟩
 rcases c.2 with ⟨i,_⟩|⟨n,d,b,e,j,f,m⟩
 ·simp at i
 ·simp at e;obtain⟨rfl,rfl⟩:=e
  exact .inr ⟨g,a,b,rfl,j,(k.block g (lt_of_block f) hg).trans f,m⟩
theorem oM.lt {w:World} {v:Value} {g:Nat} {l:List Int} (h:oM w v g l):g<w.heap.size:=by
 obtain⟨h1,cap,rfl⟩:=h;exact (h1.lt g rfl).2
theorem oM.rd {w:World} {v:Value} {g:Nat} {l:List Int} (h:oM w v g l):Ints w v l:=Rd.bX h.1
theorem oM.put {w:World} {v:Value} {g:Nat} {l:List Int} (h:oM w v g l) (j:Nat) (x:Int):oM (w.setCell ⟨g,j,Option.none⟩ (I J x)) v g (l.set j x):=by
 obtain⟨b,a,rfl⟩:=h
 refine⟨?_,a,by simp⟩
 have:=b.stored j (I J x)
 rw[List.length_set,List.map_set];exact this.1
theorem oM.frozen {w:World} {v:Value} {g:Nat} {l:List Int} (h:oM w v g l) (j:Nat):w.frozen? ⟨g,j,Option.none⟩=false:=by
 obtain⟨h1,cap,rfl⟩:=h;exact h1.frozenAt j
variable {X:List Nat}
theorem Tryz.infoInt:(Tryz.prog.info? 3).map (fun i=>(i.zero,i.size,i.bytes))=some (some (I J 0),1,8):=by kernel_rfl
def cZ (n:Nat):List Int:=List.replicate n 0
def iY (n:Nat):Array Value:=((cZ n).map (Value.int .i64)).toArray
theorem Hg (n:Nat):madeCells (I J 0).cells (n*1)=iY n:=by
 apply Array.ext
 ·simp[size_madeCells,iY,cZ]
 ·intro i h1 h2;have e:(I J 0).cells=#[I J 0]:=rfl
  simp[madeCells,iY,cZ,e,Nat.mod_one]
theorem Cj (n:Int) (h0:0≤n) (h1:n≤1000000) (W:World) :
  (Instr.makeSlice 44 (I J n) (I J n)).run Tryz.prog W=.ok (Y (some ⟨W.heap.size,0,O⟩) n.toNat n.toNat) (W.alloc (.cells (iY n.toNat) 3)):=by
 obtain⟨d,e,a,b,c⟩:=info_parts Tryz.infoInt
 rw[run_make W 44 3 d (I J 0) Tryz.underlying44 e a .i64 .i64 n n h0 (Int.le_refl _) (by rw[c];omega) (by omega),b]
 rw[Hg]
theorem Cq (w:World) (n:Nat) (hn:n≤1000000):oM (w.alloc (.cells (iY n) 3)) (Y (some ⟨w.heap.size,0,O⟩) n n) w.heap.size (cZ n):=by
 have a:(cZ n).length=n:=by simp[cZ]
 refine⟨⟨by simp,.inr ⟨w.heap.size,n,iY n,by rw[a],Nat.zero_le _,heap_alloc_new _ _,by rw[a];exact Nat.le_refl _,by unfold maxLen;omega,by simp[iY,a],?_⟩⟩,n,by rw[a]⟩
 simp[iY,a];exact List.take_of_length_le (by simp[a])
def NV (N:Nd):Nd:={ N with acks:=cZ N.n.toNat,aI:=[] }
variable {X:List Nat}
def YS:ByteArray:=⟨#[121,32]⟩
def Qq (log:List ByteArray) (k:Nat):Int×ByteArray :=
 let p:=bU (log.getD k Ze) 46
 (-(aH (p.getD 0 Ze).data.toList),YS++p.getD 0 Ze++SP++p.getD 1 Ze++SP++OL log k)
def KT:ByteArray:=⟨#[116]⟩
def turnA (N:Nd) (g:ByteArray):Nd:={ N with old:=N.group,group:=g,epoch:=N.epoch+1,view:=0,normal:=0,begun:=⟨#[]⟩ }
def FM (N:Nd) (g:ByteArray):Nd:=NV (turnA N g)
def O4 (N:Nd) (g:ByteArray):Nd:=if ofB g N.id then FM N g else { FM N g with status:=5 }
def O5 (N:Nd) (g:ByteArray):List (Int×ByteArray) :=
 if ofB g N.id then Dx N.id g (Nn (FM N g))++Dx N.id N.group (Pw (FM N g) KT) else Dx N.id g (Nn (FM N g))
variable {X:List Nat}
def zn (w:World) (b j:Nat):Int:=match w.cell? ⟨b,j,O⟩ with
 | some (.int _ n)=>n
 | _=>0
def wc (N:Nd) (c:Int):Nd:={ N with commit:=c }
def replN (N:Nd) (k:Nat):List (Int×ByteArray):=if Qd N&&N.status==1 then [Qq N.log k] else []
def O6 (N:Nd) (k:Nat):Bool:=isR (N.log.getD k Ze)&&decide (N.epoch<(Qj (N.log.take (k+1)):Int))
def Pv (N:Nd) (k:Nat):ByteArray:=(opB (N.log.getD k Ze)).extract 1 (opB (N.log.getD k Ze)).size
def CY (N:Nd):Nat→List (Int×ByteArray)
 | 0=>[]
 | i+1=>CY N i++replN N (N.commit.toNat+i)
def Po (N:Nd):Nat→Nat→Nd×List (Int×ByteArray)
 | 0,i=>(wc N (N.commit+i),CY N i)
 | f+1,i=>if O6 N (N.commit.toNat+i) then (O4 (wc N (N.commit+i+1)) (Pv N (N.commit.toNat+i)),CY N (i+1)++O5 (wc N (N.commit+i+1)) (Pv N (N.commit.toNat+i))) else Po N f (i+1)
def Ll (N:Nd) (c:Int):Nd×List (Int×ByteArray):=Po N (c-N.commit).toNat 0
theorem FP (l:List UInt8) (h:l.all gX=true):0≤jh l:=by
 unfold jh
 suffices ∀ (l:List UInt8) (x:Int),l.all gX=true→0≤x→x≤l.foldl (fun v b=>v*10+((b.toNat:Int)-48)) x by
  exact this l 0 h (Int.le_refl _)
 intro l
 induction l with
 | nil=>intro x _ _;exact Int.le_refl _
 | cons a l ih =>
  intro x hl hx;simp only[List.all_cons,Bool.and_eq_true] at hl;have c:=hl.1;unfold gX at c;simp only[Bool.and_eq_true,decide_eq_true_eq] at c;rw[List.foldl_cons];have:=ih (x*10+((a.toNat:Int)-48)) hl.2 (by omega)
  omega
theorem KL (l:List UInt8) (h:l.all gX=true) (x:Int) (hx:0≤x):x≤l.foldl (fun v b=>v*10+((b.toNat:Int)-48)) x:=by
 induction l generalizing x with
 | nil=>exact Int.le_refl _
 | cons a l ih =>
  simp only[List.all_cons,Bool.and_eq_true] at h;have c:=h.1;unfold gX at c;simp only[Bool.and_eq_true,decide_eq_true_eq] at c;rw[List.foldl_cons];have:=ih h.2 (x*10+((a.toNat:Int)-48)) (by omega)
  omega
theorem FR (l r:List UInt8) (hl:l.all gX=true) (hr:r.all gX=true):jh l≤jh (l++r):=by
 have h0:=FP l hl;unfold jh at h0 ⊢;rw[List.foldl_append];exact KL r hr _ h0
theorem xW {l:List UInt8} {a b:Int} (h:aH l = -1) (ha:0≤a):ay l a b=false:=by
 unfold ay;rw[h];simp;omega
theorem Mg {s:ByteArray} {k:Nat} {a b:Int} (h0:(s.data.toList.take k).all gX=true) (hv:b<jh (s.data.toList.take k)) (ha:0≤a):ay s.data.toList a b=false:=by
 by_cases d:kR s.data.toList=true
 ·have c:s.data.toList.all gX=true:=by
   unfold kR at d;simp only[Bool.and_eq_true] at d;exact d.1.1.1
  have e:aH s.data.toList=jh s.data.toList:=by unfold aH;rw[if_pos d]
  have f:(s.data.toList.drop k).all gX=true:=by
   rw[List.all_eq_true] at c ⊢;exact fun x g=>c x (List.mem_of_mem_drop g)
  have:=FR _ _ h0 f
  rw[List.take_append_drop] at this;unfold ay;rw[e];simp;omega
 ·refine xW ?_ ha;unfold aH;rw[if_neg d]
theorem four {l:List UInt8} (h:3<l.length):∃ a b c d r,l=a :: b :: c :: d :: r:=by
 match l,h with
 | a :: b :: c :: d :: r,_=>exact⟨a,b,c,d,r,rfl⟩
 | [],h=>simp at h
 | [_],h=>simp at h
 | [_,_],h=>simp at h
 | [_,_,_],h=>simp at h
theorem Om {s:ByteArray} (hp:0<s.size) (hz:s.size≤1∨((s[0].toNat:Int)==48)=false) (ha:s.data.toList.all gX=true) (hv:jh s.data.toList≤999):kR s.data.toList=true:=by
 have A:=nP s;have f:¬3<s.size:=by
  intro h4;rcases hz with hz|hz
  ·omega
  ·obtain⟨a,b,c,d,r,n⟩:=four (l:=s.data.toList) (by omega)
   have g:s.data.toList[0]? = some s[0]:=List.getElem?_eq_getElem (by omega)
   rw[n] at g ha hv;simp only[List.getElem?_cons_zero,Option.some.injEq] at g;rw[← g] at hz;simp only[List.all_cons,Bool.and_eq_true] at ha;obtain⟨h,i,f,j,o⟩:=ha
   have k1:=h;have p:=i;have q:=f;have t:=j;unfold gX at h i f j;simp only[Bool.and_eq_true,decide_eq_true_eq] at h i f j;have u:(a.toNat:Int)≠48:=by simpa using hz
   have:=FR [a,b,c,d] r (by simp[k1,p,q,t]) o
   have e:jh [a,b,c,d]=((((a.toNat:Int)-48)*10+((b.toNat:Int)-48))*10+((c.toNat:Int)-48))*10+((d.toNat:Int)-48):=by simp[jh]
   simp only[List.cons_append,List.nil_append] at this;omega
 cases h48:(s.toList==[48])
 ·refine ER hp f ha (.inl ?_);rcases hz with hz|hz
  ·have v:s.size=1:=by omega
   by_cases m:((s[0].toNat:Int)==48)=true
   ·exfalso
    have:s.toList=[48]:=by
     rw[ByteArray.toList_eq];have g:s.data.toList=[s[0]]:=by
      have k:s.data.toList[0]? = some s[0]:=List.getElem?_eq_getElem (by omega)
      have w:s.data.toList.length=1:=by omega
      obtain⟨x,y⟩:=List.length_eq_one_iff.1 w
      rw[y] at k ⊢;simp at k;rw[k]
     have:s[0]=48:=by
      have z:(s[0].toNat:Int)=48:=by simpa using m
      apply UInt8.toNat_inj.1;show s[0].toNat=48;omega
     rw[g,this]
    rw[this] at h48;exact absurd h48 (by decide)
   ·simpa using m
  ·exact hz
 ·exact ER hp f ha (.inr h48)
theorem sG (s:ByteArray) (c:Int) (w:World) (hs:s.size≤1000000000) :
  Calls Tryz.prog 39 #[Z s,I .u8 c] w fun e w'=>∃ v,e=Zr v∧w'.ownsRow w.heap.size 9 1 v (bU s c).length ((bU s c).map Value.string)∧Below w.heap.size w w':=by
 obtain⟨p,q,b,d,g⟩:=info_parts Tryz.infoStr
 unfold bU;go_enter Tryz.func39,Tryz.ntmps39;go_wp2_with fail;go_loopw [5,6,7] (fun v f i wr=>∃ k:Nat,k≤s.size∧i=I J k∧f=I J (gI s c k).2∧wr.ownsRow w.heap.size 9 1 v (gI s c k).1.length ((gI s c k).1.map Value.string)∧Below w.heap.size w wr)
  (fun _ _ i _=>s.size-(intOf i).toNat)
 case atStart=>exact⟨0,Nat.zero_le _,rfl,rfl,World.ownsRow_nil _ _ _ _,Below.refl _ _⟩
 case round =>
  obtain⟨k,t,rfl,rfl,a,h⟩:=hrel
  have r:=uM s c k;by_cases j:k<s.size
  ·cases h1:((s[k].toNat:Int)==c)
   ·have l:Hid (gI s c (k+1)=gI s c k):=Ef j h1
    go_wp2;go_roundw
    case rel=>exact⟨k+1,by omega,by go_num,by rw[l.out],by rw[l.out];exact a,h⟩
    case measure=>simp[intOf];omega
   ·have l:Hid (gI s c (k+1)=((gI s c k).1++[s.extract (gI s c k).2 k],k+1)):=BP j h1
    generalize gI s c k=m at *;go_wp2_with (at_builtin;go_loud (refine app1 rfl _ _ 48 rfl w.heap.size 9 p (Z Ze) 1 16 Tryz.underlying48 q b d g rfl (by decide) wr _ _ _ (by rfl) a 1 [Z (s.extract m.2 k)] (by rfl) rfl ?c2 (by omega) (by decide) h.size ?_))
    case c2=>intro u hu;simp at hu;subst hu;rfl
    intro v' w1 hown' hg hb1 hnil;go_wp2;go_roundw
    case rel=>exact⟨k+1,by omega,by go_num,by rw[l.out];go_num,by rw[l.out];simpa using hown',h.trans hb1⟩
    case measure=>simp[intOf];omega
  ·have n:k=s.size:=by omega
   subst n;generalize hst:gI s c s.size=m at *;have o:Hid (gI s c s.size=m):=hst
   clear hst;go_wp2_with (at_builtin;refine app1 rfl _ _ 48 rfl w.heap.size 9 p (Z Ze) 1 16 Tryz.underlying48 q b d g rfl (by decide) wr _ _ _ (by rfl) a 1 [Z (s.extract m.2 s.size)] (by rfl) rfl ?c3 (by omega) (by decide) h.size ?_)
   case c3=>intro u hu;simp at hu;subst hu;rfl
   intro v' w1 hown' hg hb1 hnil;go_wp2;go_ret;exact⟨v',rfl,by rw[o.out];simpa using hown',h.trans hb1⟩
def iT (c:Int):Bool:=decide (48≤c)&&decide (c≤57)
def nQ (c:Int):Bool:=decide (97≤c)&&decide (c≤122)
theorem nY (c:Int) (w:World):Calls Tryz.prog 37 #[I .u8 c] w fun e w'=>e=Zr (.bool (iT c))∧w'=w:=by
 have a:Hid (iT c=(decide (48≤c)&&decide (c≤57))):=rfl
 by_cases b:48≤c
 ·by_cases d:c≤57
  ·go_enter Tryz.func37,Tryz.ntmps37;go_wp2;go_ret;exact⟨bC (by rw[a.out,decide_eq_true b,decide_eq_true d];rfl),rfl⟩
  ·go_enter Tryz.func37,Tryz.ntmps37;go_wp2;go_ret;exact⟨bC (by rw[a.out,decide_eq_true b,decide_eq_false (by omega)];rfl),rfl⟩
 ·go_enter Tryz.func37,Tryz.ntmps37;go_wp2;go_ret;exact⟨bC (by rw[a.out,decide_eq_false (by omega)];rfl),rfl⟩
theorem vF (c:Int) (w:World):Calls Tryz.prog 165 #[I .u8 c] w fun e w'=>e=Zr (.bool (nQ c))∧w'=w:=by
 have a:Hid (nQ c=(decide (97≤c)&&decide (c≤122))):=rfl
 by_cases b:97≤c
 ·by_cases d:c≤122
  ·go_enter Tryz.func165,Tryz.ntmps165;go_wp2;go_ret;exact⟨bC (by rw[a.out,decide_eq_true b,decide_eq_true d];rfl),rfl⟩
  ·go_enter Tryz.func165,Tryz.ntmps165;go_wp2;go_ret;exact⟨bC (by rw[a.out,decide_eq_true b,decide_eq_false (by omega)];rfl),rfl⟩
 ·go_enter Tryz.func165,Tryz.ntmps165;go_wp2;go_ret;exact⟨bC (by rw[a.out,decide_eq_false (by omega)];rfl),rfl⟩
theorem qZ (c:Int) (w:World):Calls Tryz.prog 166 #[I .u8 c] w fun e w'=>e=Zr (.bool (nQ c||iT c))∧w'=w:=by
 go_enter Tryz.func166,Tryz.ntmps166;go_wp2_with fail;refine (vF c _).mono ?_;rintro e d ⟨rfl,a⟩;subst a;cases h1:nQ c
 ·go_wp2_with fail;refine (nY c _).mono ?_;rintro e f ⟨rfl,b⟩;subst b;go_wp2;go_ret;exact⟨bC (by rw[h1];rfl),rfl⟩
 ·go_wp2;go_ret;exact⟨bC (by rw[h1];rfl),rfl⟩
def aJ (s:ByteArray) (a b:Int):Int:=if ay s.data.toList a b then aH s.data.toList else 0
theorem pY (s:ByteArray) (a b:Int) (w:World) (hs:s.size≤maxLen) (ha:0≤a) (hb:b≤999) :
    Calls Tryz.prog 149 #[Z s,I J a,I J b] w fun e w'=>e=Zr (.tuple #[I J (aJ s a b),.bool (ay s.data.toList a b)])∧w'=w:=by
  unfold maxLen at hs
  have d : Hid (ay s.data.toList a b = false → aJ s a b = 0) := fun q => by unfold aJ; rw [q]; rfl
  have p : Hid (ay s.data.toList a b = true → aJ s a b = aH s.data.toList) := fun q => by unfold aJ; rw [q]; rfl
  have F:Hid (ay s.data.toList a b=(decide (a≤aH s.data.toList)&&decide (aH s.data.toList≤b))):=rfl
  have g:Hid (aH s.data.toList = -1→ay s.data.toList a b=false):=fun q=>xW q ha
  have t:Hid (∀ k,(s.data.toList.take k).all gX=true→b<jh (s.data.toList.take k)→ay s.data.toList a b=false):=fun k q r=>Mg q r ha
  generalize aJ s a b=o at *
  by_cases h0:s.size=0
  · have q:=g.out (Oo h0)
    have f:Hid (ay s.data.toList a b=false):=q
    have c:Hid (o=0):=d.out q
    clear q
    generalize ay s.data.toList a b=wb at *
    go_enter Tryz.func149,Tryz.ntmps149
    go_wp2
    go_ret2
    exact ⟨by rw [f.out, c.out]; rfl, rfl⟩
  have V : 0 < s.size := by omega
  by_cases G:1<s.size∧((s[0].toNat:Int)==48)=true
  · obtain⟨aa,H⟩:=G
    have u:(s.toList==[48])=false:=by
      rw[beq_eq_false_iff_ne];intro hc
      have:=congrArg List.length hc
      rw[ByteArray.toList_eq,nP] at this
      simp at this;omega
    have q:=g.out (Mh V H u)
    have f:Hid (ay s.data.toList a b=false):=q
    have c:Hid (o=0):=d.out q
    clear q u
    generalize ay s.data.toList a b=wb at *
    go_enter Tryz.func149,Tryz.ntmps149
    go_wp2
    go_ret2
    exact ⟨by rw [f.out, c.out]; rfl, rfl⟩
  have h:s.size≤1∨((s[0].toNat:Int)==48)=false:=by
    by_cases K:1<s.size
    · right
      cases hq:((s[0].toNat:Int)==48)
      · rfl
      · exact absurd ⟨K,hq⟩ G
    · left;omega
  have L:Hid (s.size≤1∨((s[0].toNat:Int)==48)=false):=h
  clear G
  by_cases K:s.size≤1
  case' pos => have M : (s.size : Int) ≤ 1 := by omega
  case' neg =>
    have M : (1 : Int) < (s.size : Int) := by omega
    have ab : ((s[0].toNat : Int) == 48) = false := by rcases h with q | q; exact absurd q K; exact q
  all_goals
    clear h
    go_enter Tryz.func149,Tryz.ntmps149
    go_upto_if 22 with fail
    go_cut [] from 10 (fun wr=>wr=w)
    case first =>
      go_wp2_with fail
      go_meet
      case rel=>rfl
    case rest =>
     subst hcut
     go_wp2_with fail
     go_loop [8,9] (fun v i=>∃ k:Nat,k≤s.size∧i=I J k∧v=I J (jh (s.data.toList.take k))∧(s.data.toList.take k).all gX=true∧0≤jh (s.data.toList.take k)∧(jh (s.data.toList.take k)≤b∨k=0)) (fun _ i=>s.size-(intOf i).toNat)
     case atStart => exact ⟨0, Nat.zero_le _, rfl, rfl, by simp, Int.le_refl _, .inr rfl⟩
     case round =>
       obtain⟨k,hk,rfl,rfl,W,N,j⟩:=hrel
       have D:Hid ((s.data.toList.take k).all gX=true):=W
       have x : jh (s.data.toList.take k) ≤ 999 := by rcases j with q | q; omega; (subst q; simp [jh])
       have l:Hid (jh (s.data.toList.take k)≤b∨k=0):=j
       clear W j
       by_cases m:k<s.size
       · have ac : (s[k].toNat : Int) ≤ 255 := by have := s[k].toNat_lt; omega
         have E : Hid (jh (s.data.toList.take (k + 1)) = jh (s.data.toList.take k) * 10 + ((s[k].toNat : Int) - 48)) := by rw [sO s k m]; exact KM _ _
         have X:Hid (48≤(s[k].toNat:Int)→(s[k].toNat:Int)≤57→(s.data.toList.take (k+1)).all gX=true):=fun q r=>K8 m D.out q r
         have P:Hid (∀ w,Calls Tryz.prog 37 #[I .u8 (s[k].toNat:Int)] w fun e w'=>e=Zr (.bool (iT (s[k].toNat:Int)))∧w'=w):=fun w=>nY _ w
         have y:Hid (iT (s[k].toNat:Int)=(decide (48≤(s[k].toNat:Int))&&decide ((s[k].toNat:Int)≤57))):=rfl
         have z:Hid (¬(48≤(s[k].toNat:Int)∧(s[k].toNat:Int)≤57)→ay s.data.toList a b=false):=fun q=>g.out (P6 m q)
         generalize hvk:jh (s.data.toList.take k)=vk at *
         clear hvk
         go_wp2_with fail
         refine (P.out _).mono ?_
         rintro e w1 ⟨rfl,Q⟩
         subst Q
         by_cases n:48≤(s[k].toNat:Int)∧(s[k].toNat:Int)≤57
         · obtain⟨g1,g2⟩:=n
           have R : iT (s[k].toNat : Int) = true := by rw [y.out, decide_eq_true g1, decide_eq_true g2]; rfl
           have A:=X.out g1 g2
           have B:Hid ((s.data.toList.take (k+1)).all gX=true):=A
           clear A X
           generalize iT (s[k].toNat:Int)=S at *
           subst R
           by_cases T:b<vk*10+((s[k].toNat:Int)-48)
           · have q := t.out (k + 1) B.out (by rw [E.out]; exact T)
             have f:Hid (ay s.data.toList a b=false):=q
             have c:Hid (o=0):=d.out q
             clear q
             go_wp2
             go_ret2
             exact ⟨by rw [f.out, c.out]; rfl, rfl⟩
           · go_wp2_with fail
             go_round
             case rel => exact ⟨k + 1, by omega, by go_num, by rw [E.out], B.out, by rw [E.out]; omega, .inl (by rw [E.out]; omega)⟩
             case measure=>simp[intOf];omega
         · have U:iT (s[k].toNat:Int)=false:=by
             rw[y.out];simp;omega
           have q:=z.out n
           have f:Hid (ay s.data.toList a b=false):=q
           have c:Hid (o=0):=d.out q
           clear q n
           generalize iT (s[k].toNat:Int)=S at *
           subst U
           go_wp2
           go_ret2
           exact ⟨by rw [f.out, c.out]; rfl, rfl⟩
       · obtain rfl : k = s.size := by omega
         have ht : s.data.toList.take s.size = s.data.toList := List.take_of_length_le (by rw [nP]; exact Nat.le_refl _)
         rw[ht] at D l N x ⊢
         have hok:=Om V L.out D.out x
         have C : aH s.data.toList = jh s.data.toList := by unfold aH; rw [if_pos hok]
         have ad : jh s.data.toList ≤ b := by rcases l.out with q | q; exact q; omega
         rw[C] at p F
         clear hok C ht g t D l
         generalize jh s.data.toList=vl at *
         by_cases ae:vl<a
         · have q : ay s.data.toList a b = false := by rw [F.out]; simp; omega
           have f:Hid (ay s.data.toList a b=false):=q
           have c:Hid (o=0):=d.out q
           clear q
           go_wp2
           go_ret2
           exact ⟨by rw [f.out, c.out]; rfl, rfl⟩
         · have q : ay s.data.toList a b = true := by rw [F.out]; simp; omega
           have f:Hid (ay s.data.toList a b=true):=q
           have c:Hid (o=vl):=p.out q
           clear q
           go_wp2
           go_ret2
           exact ⟨by rw [f.out, c.out]; rfl, rfl⟩
theorem Ac (b:UInt8):aH [b]=if iT b.toNat=true then (b.toNat:Int)-48 else -1:=by
 unfold aH;have c:kR [b]=iT b.toNat:=by
  unfold kR;have e:gX b=iT b.toNat:=rfl
  by_cases a:b=48
  ·subst a;rfl
  ·simp[e]
 rw[c]
 split
 ·simp[jh]
 ·rfl
theorem Me {a b:UInt8} (h:aH [a]=aH [b]) (h0:0≤aH [a]):a=b:=by
 have h1:=tX h0;have h2:=tX (l:=[b]) (by omega)
 rw[h] at h1;rw[h1] at h2
 simpa using h2
def dN (s:ByteArray):List Int:=s.data.toList.map (fun b=>aH [b])
theorem kF (s:ByteArray):(dN s).length=s.size:=by unfold dN;rw[List.length_map,nP]
theorem Dh (s:ByteArray) (k:Nat) (h:k<s.size):(dN s)[k]'(by rw[kF];exact h)=aH [s[k]]:=by
 simp only[dN,List.getElem_map];rfl
theorem JH (s:ByteArray) (k:Nat) (h:k<s.size):(dN s).take (k+1)=(dN s).take k++[aH [s[k]]]:=by
 rw[List.take_succ_eq_append_getElem (by rw[kF];exact h),Dh s k h]
def gJ (s:ByteArray) (n:Int):List Int:=if bK s.data.toList n=true then dN s else []
theorem mH (v:Value) (l:List Int) (r:Int) (w:World) (hv:Ints w v l) (_hl:l.length≤1000000) :
  Calls Tryz.prog 38 #[v,I J r] w fun e w'=>e=Zr (.bool (l.any (fun x=>x==r)))∧w'=w:=by
 obtain⟨a,j,rfl,_,_⟩:=hv.shape
 have m:Hid (∀ k (f:k<l.length),(l.take (k+1)).any (fun x=>x==r)=((l.take k).any (fun x=>x==r)||(l[k]==r))):=fun k f=>by
  rw[List.take_succ_eq_append_getElem f,List.any_append];simp
 have n:Hid (l.any (fun x=>x==r)=(l.take l.length).any (fun x=>x==r)):=by unfold Hid;rw[List.take_length]
 have p:Hid (∀ k (f:k<l.length),(l[k]==r)=true→l.any (fun x=>x==r)=true):=fun k f q=>List.any_eq_true.2 ⟨l[k],List.getElem_mem _,q⟩
 go_enter Tryz.func38,Tryz.ntmps38;go_wp2_with fail;go_loop [5] (fun i=>∃ k:Nat,k≤l.length∧i=I J k∧(l.take k).any (fun x=>x==r)=false) (fun i=>l.length-(intOf i).toNat)
 case atStart=>exact⟨0,Nat.zero_le _,rfl,by simp⟩
 case round =>
  obtain⟨k,f,rfl,g⟩:=hrel
  have h:Hid ((l.take k).any (fun x=>x==r)=false):=g
  clear g;by_cases d:k<l.length
  ·obtain⟨b,o,rfl,_,c⟩:=hv.get k d
   have s:(0:Int)≤(k:Int):=by omega
   have t:(k:Int)<(l.length:Int):=by omega
   cases hq:(l[k]==r)
   ·go_wp2_with fail;go_round
    case rel=>exact⟨k+1,by omega,by go_num,by rw[m.out k d,h.out,hq];rfl⟩
    case measure=>simp[intOf];omega
   ·go_wp2;go_ret;exact⟨bC (p.out k d hq).symm,rfl⟩
  ·obtain rfl:k=l.length:=by omega
   go_wp2;go_ret;exact⟨bC (by rw[n.out,h.out]),rfl⟩
theorem sF (s:ByteArray) (n:Int) (w:World) (hs:s.size≤maxLen) :
  Calls Tryz.prog 15 #[Z s,I J n] w fun e w'=>∃ v,e=Zr v∧w'.ownsRow w.heap.size 3 1 v (gJ s n).length ((gJ s n).map (Value.int .i64))∧(v=Y O 0 0↔bK s.data.toList n=false)∧Below w.heap.size w w':=by
 obtain⟨i0,hi,G,H,K⟩:=info_parts Tryz.infoInt
 have L:Hid (bK s.data.toList n=false→gJ s n=[]):=fun q=>by unfold gJ;rw[q];rfl
 have M:Hid (bK s.data.toList n=true→gJ s n=dN s):=fun q=>by unfold gJ;rw[q];rfl
 have d:Hid (∀ W:World,bK s.data.toList n=false→∃ v,Zr (Y O 0 0)=Zr v∧W.ownsRow w.heap.size 3 1 v (gJ s n).length ((gJ s n).map (Value.int .i64))∧(v=Y O 0 0↔bK s.data.toList n=false)):=fun W q=>⟨_,rfl,by rw[L.out q];exact World.ownsRow_nil _ _ _ _,by rw[q];simp⟩
 have N:=nP s;by_cases f:s.size=3∨s.size=5
 ·have HG:Hid (gTo s.data.toList n s.size=true→bK s.data.toList n=true):=fun q=>by
   unfold bK;rw[nP,q];rcases f with h|h <;> rw[h] <;> rfl
  have g:Hid (∀ k,k<s.size→gAt s.data.toList n k=false→bK s.data.toList n=false):=fun k hk q=>JB (by rw[nP];exact hk) q
  have al:s.size≤5:=by omega
  have ak:0<s.size:=by omega
  rcases f with f|f
  case' inl =>
   have P:((s.size:Int) != 3)=false:=by rw[f];rfl
  case' inr =>
   have P:((s.size:Int) != 3)=true:=by rw[f];rfl
   have p5:((s.size:Int) != 5)=false:=by rw[f];rfl
  all_goals
   clear f N;go_enter Tryz.func15,Tryz.ntmps15;go_upto_if 15 with fail
   go_cut [] from 8 (fun wr=>wr=w)
   case first =>
    go_wp2_with fail;go_meet
    case rel=>rfl
   case rest =>
    subst hcut;clear P;go_wp2_with fail;go_loopw [5,6] (fun v i wr=>∃ k:Nat,k≤s.size∧i=I J k∧wr.ownsRow wc.heap.size 3 1 v ((dN s).take k).length (((dN s).take k).map (Value.int .i64))∧gTo s.data.toList n k=true∧(v=Y O 0 0→k=0)∧Below wc.heap.size wc wr) (fun _ i _=>s.size-(intOf i).toNat)
    case atStart=>exact⟨0,Nat.zero_le _,rfl,World.ownsRow_nil _ _ _ _,rfl,fun _=>rfl,Below.refl _ _⟩
    case round =>
     obtain⟨k,hk,rfl,a,z,A,y⟩:=hrel
     have B:Hid (gTo s.data.toList n k=true):=z
     have Q:Hid (u5=Y O 0 0→k=0):=A
     clear z A;by_cases b:k<s.size
     ·have am:(s[k].toNat:Int)≤255:=by have:=s[k].toNat_lt;omega
      have R:Hid (∀ w,Calls Tryz.prog 37 #[I .u8 (s[k].toNat:Int)] w fun e w'=>e=Zr (.bool (iT (s[k].toNat:Int)))∧w'=w):=fun w=>nY _ w
      have S:Hid (iT (s[k].toNat:Int)=(decide (48≤(s[k].toNat:Int))&&decide ((s[k].toNat:Int)≤57))):=rfl
      have C:Hid (aH [s[k]]=if iT (s[k].toNat:Int)=true then (s[k].toNat:Int)-48 else -1):=Ac s[k]
      have T:Hid ((dN s).take (k+1)=(dN s).take k++[aH [s[k]]]):=JH s k b
      have D:Hid (aH [s[k]]<0∨n≤aH [s[k]]→bK s.data.toList n=false):=fun q=>g.out k b (Jz b q)
      have U:Hid (0≤aH [s[k]]→((dN s).take k).any (fun x=>x==aH [s[k]])=true→bK s.data.toList n=false):=fun q r=>by
       rw[List.any_eq_true] at r;obtain⟨x,hx,E⟩:=r
       obtain⟨j,V,rfl⟩:=List.mem_iff_getElem.1 hx
       rw[List.length_take,kF] at V;have X:j<s.size:=by omega
       rw[List.getElem_take,Dh s j X,beq_iff_eq] at E;have:=Me E (by omega)
       refine g.out k b (JA b (show j<k by omega) ?_)
       rw[this];simp
      have aa:Hid (0≤aH [s[k]]→aH [s[k]]<n→((dN s).take k).any (fun x=>x==aH [s[k]])=false→gTo s.data.toList n (k+1)=true):=fun q r t=>by
       rw[LD,B.out];have:gAt s.data.toList n k=true:=by
        unfold gAt;rw[atS b];simp only[Bool.and_eq_true,decide_eq_true_eq,List.all_eq_true,Bool.not_eq_true',beq_eq_false_iff_ne];refine⟨⟨q,r⟩,fun j V hc=>?_⟩
        have ao:j<k:=by simpa using V
        rw[atS (show j<s.size by omega)] at hc
        rw[List.any_eq_false] at t;refine t (aH [s[j]]) ?_ (by rw[beq_iff_eq,hc])
        rw[List.mem_iff_getElem];exact⟨j,by rw[List.length_take,kF];omega,by rw[List.getElem_take,Dh s j (by omega)]⟩
       rw[this];rfl
      have ap:((dN s).take k).length≤10:=by rw[List.length_take];omega
      have ab:Ints wr u5 ((dN s).take k):=by unfold Ints;exact Rd.bX (by simpa using a)
      generalize (dN s).take k=gk at *;go_wp2_with fail;refine (R.out _).mono ?_;rintro e w1 ⟨rfl,ac⟩;subst ac;cases hdg:iT (s[k].toNat:Int)
      ·have q:=D.out (.inl (by rw[C.out,hdg];simp))
       have l:Hid _:=d.out w1 q
       clear q;go_wp2;go_ret;obtain⟨v,m,o,p⟩:=l.out
       exact⟨v,m,o,p,y⟩
      ·have g1:48≤(s[k].toNat:Int)∧(s[k].toNat:Int)≤57:=by have:=S.out;rw[hdg] at this;simpa using this.symm
       have c:Hid (aH [s[k]]=(s[k].toNat:Int)-48):=by unfold Hid;rw[C.out,hdg];rfl
       obtain⟨g1,g2⟩:=g1
       have ad:Hid (∀ W,Ints W u5 gk→Calls Tryz.prog 38 #[u5,I J ((s[k].toNat:Int)-48)] W fun e w'=>e=Zr (.bool (gk.any (fun x=>x==aH [s[k]])))∧w'=W):=fun W q=>by rw[c.out];exact mH u5 gk _ W q (by omega)
       by_cases ae:n≤(s[k].toNat:Int)-48
       ·have q:=D.out (.inr (by rw[c.out];exact ae))
        have l:Hid _:=d.out w1 q
        clear q;go_wp2;go_ret;obtain⟨v,m,o,p⟩:=l.out
        exact⟨v,m,o,p,y⟩
       ·generalize hany:gk.any (fun x=>x==aH [s[k]])=an at *
        have aq:Hid (gk.any (fun x=>x==aH [s[k]])=an):=hany
        clear hany;go_wp2_with fail;refine (ad.out _ ab).mono ?_;rintro e w2 ⟨rfl,af⟩;subst af;cases an
        ·have ai:Hid (gTo s.data.toList n (k+1)=true):=aa.out (by rw[c.out];omega) (by rw[c.out];omega) rfl
         go_wp2_with (at_builtin;refine app1 rfl _ _ 44 rfl wc.heap.size 3 i0 (I J 0) 1 8 Tryz.underlying44 hi G H K rfl (by decide) w2 _ _ _ (by rfl) a 1 [I J ((s[k].toNat:Int)-48)] (by rfl) rfl ?c2 (by omega) (by decide) y.size ?_)
         case c2=>intro u hu;simp at hu;subst hu;rfl
         intro v3 w3 hown3 hg3 hb3 hn3;go_wp2;go_roundw
         case rel=>exact⟨k+1,by omega,by go_num,by rw[T.out,c.out];simpa using hown3,ai.out,fun q=>absurd q hn3,y.trans hb3⟩
         case measure=>simp[intOf];omega
        ·have q:=U.out (by rw[c.out];omega) rfl
         have l:Hid _:=d.out w2 q
         clear q;go_wp2;go_ret;obtain⟨v,m,o,p⟩:=l.out
         exact⟨v,m,o,p,y⟩
     ·obtain rfl:k=s.size:=by omega
      rw[List.take_of_length_le (by rw[kF];exact Nat.le_refl _)] at a
      have F:Hid (bK s.data.toList n=true):=HG.out B.out
      go_wp2;go_ret;exact⟨_,rfl,by rw[M.out F.out];simpa using a,⟨fun q=>absurd (Q.out q) (by omega),fun q=>by rw[F.out] at q;exact absurd q (by decide)⟩,y⟩
 ·have q:bK s.data.toList n=false:=by
   cases hq:bK s.data.toList n
   ·rfl
   ·have:=jJ hq;rw[nP] at this;exact absurd this f
  have P:((s.size:Int) != 3)=true:=by rw[bne_iff_ne];omega
  have p5:((s.size:Int) != 5)=true:=by rw[bne_iff_ne];omega
  have l:Hid _:=d.out w q
  clear q;go_enter Tryz.func15,Tryz.ntmps15;go_wp2;go_ret;obtain⟨v,m,o,p⟩:=l.out
  exact⟨v,m,o,p,Below.refl _ _⟩
theorem Co (s:ByteArray) (w:World):Calls Tryz.prog 151 #[Z s] w fun e w'=>e=Zr (Z s)∧Below w.heap.size w w':=by
 have i:=run_bytes_of_string (P:=Tryz.prog) w 9 100 5 s Tryz.underlying9 Tryz.underlying100 Tryz.underlying5;have g:Below w.heap.size w (w.drew.alloc (.cells (bytesRow s (grownCap w s.size 0 5)) 5 ((bytesRow s (grownCap w s.size 0 5)).size,(bytesRow s (grownCap w s.size 0 5)).size+1))):=(Below.refl _ w).drew.alloc (Nat.le_refl _) _
 have d:=heap_alloc_new w.drew (.cells (bytesRow s (grownCap w s.size 0 5)) 5 ((bytesRow s (grownCap w s.size 0 5)).size,(bytesRow s (grownCap w s.size 0 5)).size+1));have f:=run_convert_bytes_back (P:=Tryz.prog) (w.drew.alloc (.cells (bytesRow s (grownCap w s.size 0 5)) 5 ((bytesRow s (grownCap w s.size 0 5)).size,(bytesRow s (grownCap w s.size 0 5)).size+1))) 100 9 5 ⟨w.heap.size,0,O⟩ (grownCap w s.size 0 5) s.data.toList Tryz.underlying100 Tryz.underlying5 Tryz.underlying9 (fun j h=>by
  have a:(⟨w.heap.size,0,O⟩:Addr).add j=⟨w.heap.size,j,O⟩:=by unfold Addr.add;split <;> simp_all
  rw[a];have c:(w.drew.alloc (.cells (bytesRow s (grownCap w s.size 0 5)) 5 ((bytesRow s (grownCap w s.size 0 5)).size,(bytesRow s (grownCap w s.size 0 5)).size+1))).heap[w.heap.size]? = _:=d
  simp only[World.cell?,c];have b:j<s.data.size:=by simpa using h
  unfold bytesRow;rw[if_neg (by simp),Array.getElem?_append_left (by simpa using b)]
  simp
  exact⟨_,Array.getElem?_eq_getElem b,rfl⟩)
 rw[nP] at f;have e:(⟨s.data.toList.toArray⟩:ByteArray)=s:=bytes_inj (by simp)
 rw[e] at f;generalize w.drew.alloc (.cells (bytesRow s (grownCap w s.size 0 5)) 5 ((bytesRow s (grownCap w s.size 0 5)).size,(bytesRow s (grownCap w s.size 0 5)).size+1))=W at *;generalize grownCap w s.size 0 5=C at *;clear d e;go_enter Tryz.func151,Tryz.ntmps151;go_wp2;go_ret;exact⟨rfl,g⟩
theorem LU (b:UInt8):isLet b=nQ b.toNat:=by
 rw[Bool.eq_iff_iff];unfold isLet inB nQ;simp[LET];omega
theorem zO (b:UInt8):isVal b=(nQ b.toNat||iT b.toNat):=by
 rw[Bool.eq_iff_iff];unfold isVal inB nQ iT;simp[LETD];omega
theorem zN (s:ByteArray) (h2:2≤s.size):eF s.data.toList=(!(gy s[0]==0)&&(nQ s[1].toNat&&((s.data.toList.drop 2).all isVal)&&s.size==gy s[0])):=by
 have a:=nP s;unfold eF opTo;rw[a,atS (show 0<s.size by omega),atS (show 1<s.size by omega),decide_eq_true h2,LU,List.take_of_length_le (by omega)]
 simp[Bool.and_assoc]
theorem NK (s:ByteArray) (h:s.size=3):s.data.toList.drop 2=[s[2]]:=by
 have a:=nP s;rw[List.drop_eq_getElem_cons (show 2<s.data.toList.length by omega),List.drop_eq_nil_of_le (by omega)];rfl
theorem NM (s:ByteArray) (h:s.size=4):s.data.toList.drop 2=[s[2],s[3]]:=by
 have a:=nP s;rw[List.drop_eq_getElem_cons (show 2<s.data.toList.length by omega),List.drop_eq_getElem_cons (show 3<s.data.toList.length by omega),List.drop_eq_nil_of_le (by omega)];rfl
theorem Iw (s:ByteArray) (h:s.size=2):s.data.toList.drop 2=[]:=by
 have hl:=nP s;exact List.drop_eq_nil_of_le (by omega)
theorem Jo (b:UInt8):(((b.toNat:Int)==103)=true→gy b=2)∧(((b.toNat:Int)==100)=true→gy b=2)∧(((b.toNat:Int)==112)=true→gy b=3)∧(((b.toNat:Int)==99)=true→gy b=4) ∧
  (((b.toNat:Int)==103)=false→((b.toNat:Int)==100)=false→((b.toNat:Int)==112)=false→((b.toNat:Int)==99)=false→gy b=0):=by
 have e:∀ n:Nat,n<256→((b.toNat:Int)==(n:Int))=true→b=UInt8.ofNat n:=fun n o h=>by
  have p:(b.toNat:Int)=n:=by simpa using h
  apply UInt8.toNat_inj.1;rw[UInt8.toNat_ofNat'];omega
 have ne:∀ c:UInt8,((b.toNat:Int)==(c.toNat:Int))=false→b≠c:=fun c h a=>by subst a;simp at h
 refine⟨fun h=>?_,fun h=>?_,fun h=>?_,fun h=>?_,fun d f g i=>?_⟩
 ·rw[e 103 (by omega) h];rfl
 ·rw[e 100 (by omega) h];rfl
 ·rw[e 112 (by omega) h];rfl
 ·rw[e 99 (by omega) h];rfl
 ·have j:=ne 103 d;have k:=ne 100 f;have l:=ne 112 g;have m:=ne 99 i;unfold gy;rw[if_neg j,if_neg k,if_neg l,if_neg m]
theorem qD (s:ByteArray) (w:World) (hs:s.size≤maxLen):Calls Tryz.prog 150 #[Z s] w fun e w'=>e=Zr (.bool (eF s.data.toList))∧w'=w:=by
 unfold maxLen at hs;by_cases r:2≤s.size
 ·have t:=zN s r;obtain⟨u,v,x,y,z⟩:=Jo s[0]
  have l:Hid (((s[0].toNat:Int)==103)=true→gy s[0]=2):=u
  have m:Hid (((s[0].toNat:Int)==100)=true→gy s[0]=2):=v
  have j:Hid (((s[0].toNat:Int)==112)=true→gy s[0]=3):=x
  have k:Hid (((s[0].toNat:Int)==99)=true→gy s[0]=4):=y
  have n:Hid (((s[0].toNat:Int)==103)=false→((s[0].toNat:Int)==100)=false→((s[0].toNat:Int)==112)=false→((s[0].toNat:Int)==99)=false→gy s[0]=0):=z
  clear u v x y z;have a:Hid (eF s.data.toList=(!(gy s[0]==0)&&(nQ s[1].toNat&&((s.data.toList.drop 2).all isVal)&&s.size==gy s[0]))):=t
  clear t;generalize hob:eF s.data.toList=d at *;clear hob;have B:Hid (∀ w,Calls Tryz.prog 165 #[I .u8 (s[1].toNat:Int)] w fun e w'=>e=Zr (.bool (nQ (s[1].toNat:Int)))∧w'=w):=fun w=>vF _ w
  generalize hlt:nQ (s[1].toNat:Int)=C at *;clear hlt;go_enter Tryz.func150,Tryz.ntmps150;go_wp2_with fail;refine (B.out _).mono ?_;rintro e F ⟨rfl,o⟩;subst o;cases C
  ·go_wp2;go_ret;exact⟨bC (by rw[a.out];simp),rfl⟩
  cases q1:((s[0].toNat:Int)==103)
  ·cases q2:((s[0].toNat:Int)==100)
   ·cases q3:((s[0].toNat:Int)==112)
    ·cases q4:((s[0].toNat:Int)==99)
     ·have c:Hid (d=false):=by unfold Hid;rw[a.out,n.out q1 q2 q3 q4];rfl
      go_wp2;go_ret;exact⟨bC c.out.symm,rfl⟩
     ·by_cases b:s.size=4
      ·have c:Hid (d=((nQ s[2].toNat||iT s[2].toNat)&&(nQ s[3].toNat||iT s[3].toNat))):=by
        have f:(s.size==4)=true:=by simpa using b
        unfold Hid;rw[a.out,k.out q4,NM s b,f];simp[zO]
       have g:((s.size:Int)==4)=true:=by rw[b];rfl
       have D:2<s.size:=by omega
       have G:3<s.size:=by omega
       have h:Hid (∀ w,Calls Tryz.prog 166 #[I .u8 (s[2].toNat:Int)] w fun e w'=>e=Zr (.bool (nQ (s[2].toNat:Int)||iT (s[2].toNat:Int)))∧w'=w):=fun w=>qZ _ w
       have p:Hid (∀ w,Calls Tryz.prog 166 #[I .u8 (s[3].toNat:Int)] w fun e w'=>e=Zr (.bool (nQ (s[3].toNat:Int)||iT (s[3].toNat:Int)))∧w'=w):=fun w=>qZ _ w
       generalize (nQ (s[2].toNat:Int)||iT (s[2].toNat:Int))=A at *
       generalize (nQ (s[3].toNat:Int)||iT (s[3].toNat:Int))=H at *
       go_wp2_with fail;refine (h.out _).mono ?_;rintro e E ⟨rfl,i⟩;subst i;cases A
       ·go_wp2;go_ret;exact⟨bC (by rw[c.out];rfl),rfl⟩
       ·go_wp2_with fail;refine (p.out _).mono ?_;rintro e K ⟨rfl,q⟩;subst q;go_wp2;go_ret;exact⟨bC (by rw[c.out];rfl),rfl⟩
      ·have c:Hid (d=false):=by unfold Hid;rw[a.out,k.out q4];simp[b]
       have g:((s.size:Int)==4)=false:=by rw[beq_eq_false_iff_ne];omega
       go_wp2;go_ret;exact⟨bC c.out.symm,rfl⟩
    ·by_cases b:s.size=3
     ·have c:Hid (d=(nQ s[2].toNat||iT s[2].toNat)):=by
       have f:(s.size==3)=true:=by simpa using b
       unfold Hid;rw[a.out,j.out q3,NK s b,f];simp[zO]
      have g:((s.size:Int)==3)=true:=by rw[b];rfl
      have D:2<s.size:=by omega
      have h:Hid (∀ w,Calls Tryz.prog 166 #[I .u8 (s[2].toNat:Int)] w fun e w'=>e=Zr (.bool (nQ (s[2].toNat:Int)||iT (s[2].toNat:Int)))∧w'=w):=fun w=>qZ _ w
      generalize (nQ (s[2].toNat:Int)||iT (s[2].toNat:Int))=A at *
      go_wp2_with fail;refine (h.out _).mono ?_;rintro e E ⟨rfl,i⟩;subst i;go_wp2;go_ret;exact⟨bC (by rw[c.out]),rfl⟩
     ·have c:Hid (d=false):=by unfold Hid;rw[a.out,j.out q3];simp[b]
      have g:((s.size:Int)==3)=false:=by rw[beq_eq_false_iff_ne];omega
      go_wp2;go_ret;exact⟨bC c.out.symm,rfl⟩
   ·have c:Hid (d=(s.size==2)):=by
     unfold Hid;rw[a.out,m.out q2];by_cases b:s.size=2
     ·have f:(s.size==2)=true:=by simpa using b
      rw[Iw s b,f];rfl
     ·simp[b]
    go_wp2;go_ret;exact⟨bC (by rw[c.out,Bool.eq_iff_iff];simp;omega),rfl⟩
  ·have c:Hid (d=(s.size==2)):=by
    unfold Hid;rw[a.out,l.out q1];by_cases b:s.size=2
    ·have f:(s.size==2)=true:=by simpa using b
     rw[Iw s b,f];rfl
    ·simp[b]
   go_wp2;go_ret;exact⟨bC (by rw[c.out,Bool.eq_iff_iff];simp;omega),rfl⟩
 ·have c:Hid (eF s.data.toList=false):=by
   unfold Hid eF;rw[nP,decide_eq_false r];rfl
  go_enter Tryz.func150,Tryz.ntmps150;go_wp2;go_ret;exact⟨bC c.out.symm,rfl⟩
def qH (c n:Int) (op:ByteArray):Value:=.agg #[I J c,I J n,Z op]
def jk (op:ByteArray):Bool:=op.data.toList.head?==some 114
theorem lK (c n:Int) (op:ByteArray) (w:World) (hs:op.size≤maxLen):Calls Tryz.prog 74 #[qH c n op] w fun e w'=>e=Zr (.bool (jk op))∧Below w.heap.size w w':=by
 unfold maxLen at hs;have b:∀ o,Below w.heap.size w (w.alloc o):=fun o=>(Below.refl _ w).alloc (Nat.le_refl _) o
 by_cases d:op.size=0
 ·have a:Hid (jk op=false):=by unfold Hid jk;rw[nilS d];rfl
  unfold qH;go_enter Tryz.func74,Tryz.ntmps74;go_wp2;go_ret;exact⟨bC a.out.symm,b _⟩
 ·have f:0<op.size:=by omega
  have a:Hid (jk op=((op[0].toNat:Int)==114)):=by
   unfold Hid jk;rw[LQ f,Bool.eq_iff_iff];simp
   constructor
   ·intro h;rw[h];rfl
   ·intro h;apply UInt8.toNat_inj.1;show op[0].toNat=114;omega
  unfold qH;go_enter Tryz.func74,Tryz.ntmps74;go_wp2;go_ret;exact⟨bC a.out.symm,b _⟩
theorem oH (c m:Int) (op:ByteArray) (n:Int) (w:World) (hs:op.size≤maxLen) :
  Calls Tryz.prog 44 #[qH c m op,I J n] w fun e w'=>∃ v,e=Zr v∧(jk op=true→w'.ownsRow w.heap.size 3 1 v (gJ (op.extract 1 op.size) n).length ((gJ (op.extract 1 op.size) n).map (Value.int .i64)))∧(v=Y O 0 0↔(jk op&&bK (op.extract 1 op.size).data.toList n)=false)∧Below w.heap.size w w':=by
 have i:=hs
 unfold maxLen at i;have s:Hid (∀ w,Calls Tryz.prog 74 #[.agg #[I J c,I J m,Z op]] w fun e w'=>e=Zr (.bool (jk op))∧Below w.heap.size w w'):=fun w=>lK c m op w hs
 have t:Hid (jk op=true→1≤op.size):=fun q=>by
  unfold jk at q;by_cases u:op.size=0
  ·rw[nilS u] at q;exact absurd q (by decide)
  ·omega
 have x:Hid (∀ w,Calls Tryz.prog 15 #[Z (op.extract 1 op.size),I J n] w fun e w'=>∃ v,e=Zr v∧w'.ownsRow w.heap.size 3 1 v (gJ (op.extract 1 op.size) n).length ((gJ (op.extract 1 op.size) n).map (Value.int .i64))∧(v=Y O 0 0↔bK (op.extract 1 op.size).data.toList n=false)∧Below w.heap.size w w'):=fun w=>sF _ n w (by unfold maxLen;simp;omega)
 have b:Below w.heap.size w (w.alloc (.cells #[I J c,I J m,Z op] 66)):=(Below.refl _ w).alloc (Nat.le_refl _) _
 have j:=heap_alloc_new w (.cells #[I J c,I J m,Z op] 66);unfold qH;go_enter Tryz.func44,Tryz.ntmps44;go_wp2_with fail;refine (s.out _).mono ?_;rintro e y ⟨rfl,d⟩;have a:=b.trans (d.mono b.size);have k:=(d.block _ (by simp)).trans j
 have E:y.cell? ⟨w.heap.size,2,O⟩=some (Z op):=by simp[World.cell?,k]
 cases hr:jk op
 ·go_wp2;go_ret;exact⟨_,rfl,fun q=>by rw[hr] at q;exact absurd q (by decide),by simp[hr],a⟩
 ·have F:=t.out hr;have z:(1:Int)≤(op.size:Int):=by omega
  go_wp2_with fail;refine (x.out _).mono ?_;rintro e G ⟨A,rfl,f,l,o⟩;go_wp2;go_ret;refine⟨A,rfl,fun _=>?_,by simpa [hr] using l,a.trans (o.mono a.size)⟩
  refine⟨f.1,?_⟩
  rcases f.2 with h|⟨g,p,r,e,B,C,D⟩
  ·exact .inl h
  ·exact .inr ⟨g,p,r,e,Nat.le_trans a.size B,C,D⟩
theorem dU {fn:Func} {t u:Tmp} {T:TypeId} (h:fn.results=#[.cell t T,.tmp u]) (tmps:Array Value) (P:Program) (w:World) {p:Addr} {v:Value} (hp:tmps.getD t undef=Zp (some p)) (hl:(loadVar T p).run P w=.ok v w) :
  (results fn tmps).run P w=.ok (.tuple #[v,tmps.getD u undef]) w:=by
 have hp':tmps[t]?.getD undef=Zp (some p):=by simpa using hp
 simp only[results,h];simp[hp',hl,asAddr]
theorem Tryz.sizeEnt:(Tryz.prog.info? 66).map (fun i=>i.size)=some 3:=by kernel_rfl
theorem zW (w:World) (g:Nat) (c n:Int) (op:ByteArray) (fr:Nat×Nat) (t:TypeId) (hg:w.heap[g]? = some (.cells #[I J c,I J n,Z op] t fr)):(loadVar 66 ⟨g,0,O⟩).run Tryz.prog w=.ok (qH c n op) w :=
 run_loadVar_row w g t 66 _ fr _ hg Tryz.underlying66 rfl Tryz.sizeEnt
def jC (W:World) (g:Nat) (a b c:Value):World:=((W.setCell ⟨g,0,O⟩ a).setCell ⟨g,1,O⟩ b).setCell ⟨g,2,O⟩ c
theorem sH {W:World} {g:Nat} {x y z a b c:Value} {t:TypeId} (h:W.heap[g]? = some (.cells #[x,y,z] t (0,0))):(jC W g a b c).heap[g]? = some (.cells #[a,b,c] t (0,0)):=by
 have d:=heap_setCell_same W g 0 _ _ a h;have e:=heap_setCell_same _ g 1 _ _ b d;have f:=heap_setCell_same _ g 2 _ _ c e
 simpa [jC] using f
theorem qh {B:Nat} {w W:World} {g:Nat} {a b c:Value} (h:Below B w W) (hg:B≤g):Below B w (jC W g a b c):=((h.setCell (p:=⟨g,0,O⟩) hg a).setCell (p:=⟨g,1,O⟩) hg b).setCell (p:=⟨g,2,O⟩) hg c
def iB (s:ByteArray) (n:Int):Int×Int×ByteArray:=if eX s n=true then (aH ((bU s 46).getD 0 Ze).data.toList,aH ((bU s 46).getD 1 Ze).data.toList,opB s) else (0,0,⟨#[]⟩)
theorem yN (op:ByteArray) (n:Int):jX op.data.toList n=(eF op.data.toList||(jk op&&bK (op.extract 1 op.size).data.toList n)):=by
 unfold jX jk;rw[drop1];by_cases h:op.data.toList.head? = some 114
 ·rw[if_pos h,h];have:eF op.data.toList=false:=by
   unfold eF;have e:op.data.toList.getD 0 0=114:=by rw[List.head?_eq_getElem?] at h;rw[List.getD,h];rfl
   rw[e];simp[gy]
  rw[this];simp
 ·rw[if_neg h];have:(op.data.toList.head?==some 114)=false:=by rw[beq_eq_false_iff_ne];exact h
  rw[this];simp
theorem Cn (s:ByteArray) (n:Int) (w:World) (hs:s.size≤1000000) :
  Calls Tryz.prog 152 #[Z s,I J n] w fun e w'=>e=Zr (.tuple #[qH (iB s n).1 (iB s n).2.1 (iB s n).2.2,.bool (eX s n)])∧Below w.heap.size w w':=by
 have N:=mM s 46;have aa:Hid (eX s n=false→iB s n=(0,0,⟨#[]⟩)):=fun q=>by unfold iB;rw[q];rfl
 have an:Hid (eX s n=true→iB s n=(aH ((bU s 46).getD 0 Ze).data.toList,aH ((bU s 46).getD 1 Ze).data.toList,(bU s 46).getD 2 Ze)):=fun q=>by unfold iB;rw[q];rfl
 have HE:Hid (eX s n=zB (bU s 46) n):=rfl
 have ao:Hid (∀ w,Calls Tryz.prog 39 #[Z s,I .u8 46] w fun e w'=>∃ v,e=Zr v∧w'.ownsRow w.heap.size 9 1 v (bU s 46).length ((bU s 46).map Value.string)∧Below w.heap.size w w'):=fun w=>sG s 46 w (by omega)
 generalize bU s 46=d at *;generalize iB s n=Q at *;generalize eX s n=o at *;have R:Below w.heap.size w (w.alloc (.cells #[I J 0,I J 0,Z ⟨#[]⟩] 66)):=(Below.refl _ w).alloc (Nat.le_refl _) _
 have ab:=heap_alloc_new w (.cells #[I J 0,I J 0,Z ⟨#[]⟩] 66);have ap:Hid (∀ W:World,Below w.heap.size w W→W.heap[w.heap.size]? = some (.cells #[I J 0,I J 0,Z ⟨#[]⟩] 66 (0,0))→o=false→(Zr (.tuple #[qH 0 0 ⟨#[]⟩,.bool false])=Zr (.tuple #[qH Q.1 Q.2.1 Q.2.2,.bool o])∧Below w.heap.size w W)):=fun W q _ r=>⟨by rw[aa.out r,r],q⟩
 go_enter Tryz.func152,Tryz.ntmps152;go_wp2_with fail;refine (ao.out _).mono ?_;rintro e w1 ⟨v1,rfl,K,S⟩;have k:=R.trans (S.mono R.size);have i:=(S.block _ (by simp)).trans ab
 have E:=Strs.bX K;obtain⟨a1,a8,rfl,_,_⟩:=E.shape
 clear K R ab S;have y0:w1.cell? ⟨w.heap.size,0,O⟩=some (I J 0):=by simp[World.cell?,i]
 have y1:w1.cell? ⟨w.heap.size,1,O⟩=some (I J 0):=by simp[World.cell?,i]
 have y2:w1.cell? ⟨w.heap.size,2,O⟩=some (Z ⟨#[]⟩):=by simp[World.cell?,i]
 have f0:∀ j,w1.frozen? ⟨w.heap.size,j,O⟩=false:=fun j=>by simp[World.frozen?,i]
 have u:Hid (∀ (W:World) (x y z:Value),Below w.heap.size w W→W.heap[w.heap.size]? = some (.cells #[x,y,z] 66 (0,0))→o=false→Below w.heap.size w (jC W w.heap.size (I J 0) (I J 0) (Z ⟨#[]⟩))∧(loadVar 66 ⟨w.heap.size,0,O⟩).run Tryz.prog (jC W w.heap.size (I J 0) (I J 0) (Z ⟨#[]⟩))=.ok (qH 0 0 ⟨#[]⟩) (jC W w.heap.size (I J 0) (I J 0) (Z ⟨#[]⟩))∧Q=(0,0,⟨#[]⟩)):=fun W x y z q r t=>⟨qh q (Nat.le_refl _),zW _ _ _ _ _ _ _ (sH r),aa.out t⟩
 clear ap;by_cases T:d.length=3
 ·have p3:((d.length:Int) != 3)=false:=by rw[T];rfl
  have l0:0<d.length:=by omega
  have l1:1<d.length:=by omega
  have l2:2<d.length:=by omega
  have e0:d.getD 0 Ze=d[0]:=by simp[List.getD,l0]
  have e1:d.getD 1 Ze=d[1]:=by simp[List.getD,l1]
  have e2:d.getD 2 Ze=d[2]:=by simp[List.getD,l2]
  have z0:=N d[0] (List.getElem_mem _);have z1:=N d[1] (List.getElem_mem _);have z2:=N d[2] (List.getElem_mem _);have HI:Hid (o=(ay d[0].data.toList 1 9&&ay d[1].data.toList 1 999&&(eF d[2].data.toList||(jk d[2]&&bK (d[2].extract 1 d[2].size).data.toList n)))):=by
   unfold Hid;rw[HE.out,← yN]
   match d,T with
   | [a,b,c],_=>rfl
  have HV:Hid (o=true→Q=(aH d[0].data.toList,aH d[1].data.toList,d[2])):=fun q=>by rw[an.out q,e0,e1,e2]
  have aq:Hid (∀ w,Calls Tryz.prog 149 #[Z d[0],I J 1,I J 9] w fun e w'=>e=Zr (.tuple #[I J (aJ d[0] 1 9),.bool (ay d[0].data.toList 1 9)])∧w'=w):=fun w=>pY _ _ _ w (by unfold maxLen;omega) (by omega) (by omega)
  have ar:Hid (∀ w,Calls Tryz.prog 149 #[Z d[1],I J 1,I J 999] w fun e w'=>e=Zr (.tuple #[I J (aJ d[1] 1 999),.bool (ay d[1].data.toList 1 999)])∧w'=w):=fun w=>pY _ _ _ w (by unfold maxLen;omega) (by omega) (by omega)
  have ac:Hid (ay d[0].data.toList 1 9=true→aJ d[0] 1 9=aH d[0].data.toList):=fun q=>by unfold aJ;rw[q];rfl
  have ad:Hid (ay d[1].data.toList 1 999=true→aJ d[1] 1 999=aH d[1].data.toList):=fun q=>by unfold aJ;rw[q];rfl
  have av:Hid (∀ w,Calls Tryz.prog 151 #[Z d[2]] w fun e w'=>e=Zr (Z d[2])∧Below w.heap.size w w'):=fun w=>Co d[2] w
  have aw:Hid (∀ w,Calls Tryz.prog 150 #[Z d[2]] w fun e w'=>e=Zr (.bool (eF d[2].data.toList))∧w'=w):=fun w=>qD d[2] w (by unfold maxLen;omega)
  have ax:Hid (∀ (c m:Int) w,Calls Tryz.prog 44 #[.agg #[I J c,I J m,Z d[2]],I J n] w fun e w'=>∃ v,e=Zr v∧(v=Y O 0 0↔(jk d[2]&&bK (d[2].extract 1 d[2].size).data.toList n)=false)∧Below w.heap.size w w'∧∃ a l c,v=Y a l c∧(a=O→l=0∧c=0)):=fun c m w=>(oH c m d[2] n w (by unfold maxLen;omega)).mono (by
   rintro e w' ⟨v,h1,h2,T,h4⟩;refine⟨v,h1,T,h4,?_⟩
   cases hr:jk d[2]
   ·exact⟨O,0,0,T.2 (by rw[hr];rfl),fun _=>⟨rfl,rfl⟩⟩
   ·rcases (h2 hr).2 with ⟨X,_⟩|⟨g,a9,ba,X,_⟩
    ·exact⟨O,0,0,X,fun _=>⟨rfl,rfl⟩⟩
    ·exact⟨_,_,_,X,fun hc=>by simp at hc⟩)
  obtain⟨bp,op,rfl,bb,x0⟩:=E.get 0 l0
  rw[Nat.add_zero] at x0;obtain⟨bx,ox,he,_,x1⟩:=E.get 1 l1
  simp only[Option.some.injEq,Addr.mk.injEq] at he;obtain⟨rfl,rfl,_⟩:=he
  obtain⟨bx,ox,he,_,x2⟩:=E.get 2 l2
  simp only[Option.some.injEq,Addr.mk.injEq] at he;obtain⟨rfl,rfl,_⟩:=he
  have i0:(0:Int)<(d.length:Int):=by omega
  have i1:(1:Int)<(d.length:Int):=by omega
  have i2:(2:Int)<(d.length:Int):=by omega
  generalize aJ d[0] 1 9=c0 at *;generalize aJ d[1] 1 999=B at *;generalize hw0:ay d[0].data.toList 1 9=az at *;generalize hw1:ay d[1].data.toList 1 999=a0 at *;clear hw0 hw1 T e0 e1 e2;have bc:=fun w a n c=>Lib.run_eql_slice_nil (P:=Tryz.prog) w 44 3 a n c 0 0 Tryz.underlying44
  go_wp2_with fail;refine (aq.out _).mono ?_;rintro e wX ⟨rfl,a2⟩;subst a2;go_wp2_with fail;refine (ar.out _).mono ?_;rintro e wY ⟨rfl,a3⟩;subst a3;cases az
  ·have f:o=false:=by rw[HI.out];rfl
   obtain⟨D,g2,g3⟩:=u.out _ _ _ _ k i f
   have h:Hid (_∧_∧_∧_):=⟨D,g2,g3,f⟩
   clear D g2 g3 f;go_wp2;exact bodyPost_ret (dU rfl _ _ _ rfl h.out.2.1) rfl ⟨by rw[h.out.2.2.1,h.out.2.2.2];rfl,h.out.1⟩
  ·cases a0
   ·have f:o=false:=by rw[HI.out];rfl
    obtain⟨D,g2,g3⟩:=u.out _ _ _ _ k i f
    have h:Hid (_∧_∧_∧_):=⟨D,g2,g3,f⟩
    clear D g2 g3 f;go_wp2;exact bodyPost_ret (dU rfl _ _ _ rfl h.out.2.1) rfl ⟨by rw[h.out.2.2.1,h.out.2.2.2];rfl,h.out.1⟩
   ·clear y0 y1 y2 f0;go_wp2_with fail;refine (av.out _).mono ?_;rintro e p ⟨rfl,ae⟩;have a5:Below p.heap.size p (p.alloc (.cells #[I J c0,I J B,Z d[2]] 66)):=(Below.refl _ p).alloc (Nat.le_refl _) _
    have U:=heap_alloc_new p (.cells #[I J c0,I J B,Z d[2]] 66);have L:=ae.trans (a5.mono ae.size);have A:=k.trans (L.mono k.size);have F:=(L.block _ (lt_of_block i)).trans i;have af:p.heap.size<(p.alloc (.cells #[I J c0,I J B,Z d[2]] 66)).heap.size:=lt_of_block U
    clear x0 x1 x2;go_wp2_with fail;generalize p.alloc (.cells #[I J c0,I J B,Z d[2]] 66)=wE at *;refine (aw.out _).mono ?_;rintro e G ⟨rfl,a6⟩;subst a6;have M:Hid (∀ W:World,Below G.heap.size G W→o=true→(W.cell? ⟨p.heap.size,0,O⟩=some (I J c0)∧W.cell? ⟨p.heap.size,1,O⟩=some (I J B)∧W.cell? ⟨p.heap.size,2,O⟩=some (Z d[2]))∧(W.cell? ⟨w.heap.size,0,O⟩=some (I J 0)∧W.cell? ⟨w.heap.size,1,O⟩=some (I J 0)∧W.cell? ⟨w.heap.size,2,O⟩=some (Z ⟨#[]⟩))∧(∀ j,W.frozen? ⟨w.heap.size,j,O⟩=false)∧Hid (Below w.heap.size w (jC W w.heap.size (I J c0) (I J B) (Z d[2]))∧(loadVar 66 ⟨w.heap.size,0,O⟩).run Tryz.prog (jC W w.heap.size (I J c0) (I J B) (Z d[2]))=.ok (qH c0 B d[2]) (jC W w.heap.size (I J c0) (I J B) (Z d[2]))∧Q=(c0,B,d[2])∧o=true)):=fun W q r=>by
     have k1:=(q.block _ af).trans U;have C:=(q.block _ (lt_of_block F)).trans F;refine⟨⟨by simp[World.cell?,k1],by simp[World.cell?,k1],by simp[World.cell?,k1]⟩,⟨by simp[World.cell?,C],by simp[World.cell?,C],by simp[World.cell?,C]⟩,fun j=>by simp[World.frozen?,C],qh (A.trans (q.mono A.size)) (Nat.le_refl _),zW _ _ _ _ _ _ _ (sH C),?_,r⟩
     rw[HV.out r,ac.out (by trivial),ad.out (by trivial)]
    have a7:Hid (∀ W:World,Below G.heap.size G W→o=false→(W.cell? ⟨w.heap.size,0,O⟩=some (I J 0)∧W.cell? ⟨w.heap.size,1,O⟩=some (I J 0)∧W.cell? ⟨w.heap.size,2,O⟩=some (Z ⟨#[]⟩))∧(∀ j,W.frozen? ⟨w.heap.size,j,O⟩=false)∧Hid (Below w.heap.size w (jC W w.heap.size (I J 0) (I J 0) (Z ⟨#[]⟩))∧(loadVar 66 ⟨w.heap.size,0,O⟩).run Tryz.prog (jC W w.heap.size (I J 0) (I J 0) (Z ⟨#[]⟩))=.ok (qH 0 0 ⟨#[]⟩) (jC W w.heap.size (I J 0) (I J 0) (Z ⟨#[]⟩))∧Q=(0,0,⟨#[]⟩)∧o=false)):=fun W q r=>by
     have C:=(q.block _ (lt_of_block F)).trans F;obtain⟨D,g2,g3⟩:=u.out W _ _ _ (A.trans (q.mono A.size)) C r
     exact⟨⟨by simp[World.cell?,C],by simp[World.cell?,C],by simp[World.cell?,C]⟩,fun j=>by simp[World.frozen?,C],D,g2,g3,r⟩
    have ce:G.cell? ⟨p.heap.size,0,O⟩=some (I J c0)∧G.cell? ⟨p.heap.size,1,O⟩=some (I J B)∧G.cell? ⟨p.heap.size,2,O⟩=some (Z d[2]):=by
     have k1:G.heap[p.heap.size]? = _:=U
     exact⟨by simp[World.cell?,k1],by simp[World.cell?,k1],by simp[World.cell?,k1]⟩
    obtain⟨ai,ak,al⟩:=ce
    generalize eF d[2].data.toList=io at *;cases io
    ·generalize (jk d[2]&&bK (d[2].extract 1 d[2].size).data.toList n)=gg at *;go_wp2_with fail;refine (ax.out c0 B _).mono ?_;rintro e w4 ⟨v4,rfl,H,am,a4,l4,c4,rfl,V⟩;cases gg
     ·have f:o=false:=by rw[HI.out];rfl
      have X:=H.2 rfl;simp only[Value.slice.injEq] at X;obtain⟨rfl,rfl,rfl⟩:=X
      obtain⟨⟨y0,y1,y2⟩,f0,h⟩:=a7.out w4 am f
      clear ai ak al f H V;go_wp2;exact bodyPost_ret (dU rfl _ _ _ rfl h.out.2.1) rfl ⟨by rw[h.out.2.2.1,h.out.2.2.2];rfl,h.out.1⟩
     ·have f:o=true:=by rw[HI.out];rfl
      cases a4 with
      | none =>
       obtain⟨rfl,rfl⟩:=V rfl
       exact absurd (H.1 rfl) (by decide)
      | some a4 =>
       obtain⟨⟨u0,u1,u2⟩,⟨y0,y1,y2⟩,f0,h⟩:=M.out w4 am f
       clear ai ak al f H V;go_wp2;exact bodyPost_ret (dU rfl _ _ _ rfl h.out.2.1) rfl ⟨by rw[h.out.2.2.1,h.out.2.2.2];rfl,h.out.1⟩
    ·have f:o=true:=by rw[HI.out];rfl
     obtain⟨⟨u0,u1,u2⟩,⟨y0,y1,y2⟩,f0,h⟩:=M.out G (Below.refl _ _) f
     clear f;go_wp2;exact bodyPost_ret (dU rfl _ _ _ rfl h.out.2.1) rfl ⟨by rw[h.out.2.2.1,h.out.2.2.2];rfl,h.out.1⟩
 ·have f:o=false:=by rw[HE.out];exact Jt T
  have p3:((d.length:Int) != 3)=true:=by rw[bne_iff_ne];omega
  obtain⟨D,g2,g3⟩:=u.out _ _ _ _ k i f
  have h:Hid (_∧_∧_∧_):=⟨D,g2,g3,f⟩
  clear D g2 g3 f;go_wp2;exact bodyPost_ret (dU rfl _ _ _ rfl h.out.2.1) rfl ⟨by rw[h.out.2.2.1,h.out.2.2.2];rfl,h.out.1⟩
variable {X:List Nat}
structure PN (m:Sd):Prop where
 len:6<m.w.length
 k1:aH (m.w.getD 5 Ze).data.toList≤10
 eg:CP (m.w.getD 6 Ze)
 es:(m.w.getD 6 Ze).size≤400
 er:isR (m.w.getD 6 Ze)=true→(opB (m.w.getD 6 Ze)).size≤6
 sz:∀ t∈m.w,t.size≤400
variable {X:List Nat}
structure KV (m:Sd) (j:Nat):Prop where
 len:j+1<m.w.length
 e0:0≤m.epoch
 e1:m.epoch≤10
 v0:0≤m.view
 v1:m.view≤999
 g0:0<(m.w.getD j Ze).size
 g1:(m.w.getD j Ze).size≤5
 o1:(m.w.getD (j+1) Ze).size≤5
 log:KP m.log
 c0:0≤m.commit
 c1:m.commit≤m.log.length
variable {X:List Nat}
def nmB (s:Sd):Int:=aH (s.w.getD 5 Ze).data.toList
def lF (k:ByteArray):Bool:=k.toList==[112]||k.toList==[99]||k.toList==[118]||k.toList==[115]||k.toList==[97]
def FC (ws:List ByteArray) (f:ByteArray):Nat→Int
 | 0=>0
 | k+1=>if (((f.data.toList.getD k 0).toNat:Int)==121)=true then aH (ws.getD (k+1) Ze).data.toList else FC ws f k
def PG (ws:List ByteArray) (f:ByteArray):Nat→List ByteArray
 | 0=>[]
 | k+1=>if (((f.data.toList.getD k 0).toNat:Int)==76)=true then nC (ws.getD (k+1) Ze) else PG ws f k
def eB (s:ByteArray):List Int:=(bU s 46).map fun p=>aH p.data.toList
def gF (ws:List ByteArray):Sd :=
  ⟨ws,ws.getD 0 Ze,aH (ws.getD 1 Ze).data.toList,eB (ws.getD 2 Ze),aH (ws.getD 3 Ze).data.toList,aH (ws.getD 4 Ze).data.toList,
   if lF (ws.getD 0 Ze) then FC ws (bM (ws.getD 0 Ze)) (bM (ws.getD 0 Ze)).size else 0,
   if lF (ws.getD 0 Ze) then PG ws (bM (ws.getD 0 Ze)) (bM (ws.getD 0 Ze)).size else []⟩
structure PO (n:Int) (m:Sd):Prop where
 sz:∀ x∈m.w,x.size≤100000000
 f0:0≤m.frm
 f1:m.frm<n
 ll:(m.lives.length:Int)=n
 lv:∀ x∈m.lives,0≤x∧x≤999
 e0:0≤m.epoch
 e1:m.epoch≤10
 v0:0≤m.view
 v1:m.view≤999
 c0:0≤m.commit
 c1:m.commit≤10
 log:KP m.log
 le:∀ e∈m.log,eX e n=true
structure PS (m:Sd):Prop where
 len:5<m.w.length
 n0:0≤nmB m
 n1:nmB m≤999
 cl:m.commit≤m.log.length
structure PK (n:Int) (m:Sd):Prop where
 len:4<m.w.length
 w1:(m.w.getD 1 Ze).size=1
 p:m.kind.toList=[112]→PN m∧eX (m.w.getD 6 Ze) n=true∧1≤aH (m.w.getD 5 Ze).data.toList
 k:m.kind.toList=[107]→5<m.w.length∧0≤nmB m∧nmB m≤10
 v:m.kind.toList=[118]→PS m
 s:m.kind.toList=[115]→KV m 5∧bK (m.w.getD 5 Ze).data.toList n=true∧(bK (m.w.getD 6 Ze).data.toList n=true∨(m.w.getD 6 Ze).toList=[45])
 a:m.kind.toList=[97]→KV m 6∧bK (m.w.getD 6 Ze).data.toList n=true∧(bK (m.w.getD 7 Ze).data.toList n=true∨(m.w.getD 7 Ze).toList=[45])∧1≤nmB m∧nmB m≤999
theorem num1 {l:List UInt8} {n:Int} (h0:0≤aH l) (h1:aH l≤n) (hn:n≤9):l.length=1:=by
 unfold aH at h0 h1
 split at h0
 ·rename_i hk;rw[if_pos hk] at h1;unfold kR at hk;simp only[Bool.and_eq_true,Bool.not_eq_true',decide_eq_true_eq,List.all_eq_true] at hk;obtain⟨⟨⟨d,g⟩,h⟩,e⟩:=hk
  match l,d,g,h,e,h1 with
  | [],_,g,_,_,_=>simp at g
  | [_],_,_,_,_,_=>rfl
  | [a,b],d,_,_,e,h1 =>
   exfalso
   have i:=d a (by simp)
   have j:=d b (by simp)
   simp[gX] at i j;have:a.toNat≠48:=by
    intro f;have:a=48:=by apply UInt8.toNat_inj.1;rw[f];rfl
    subst this;simp at e
   simp[jh] at h1;omega
  | [a,b,c],d,_,_,e,h1 =>
   exfalso
   have i:=d a (by simp)
   have j:=d b (by simp)
   have f:=d c (by simp)
   simp[gX] at i j f;have:a.toNat≠48:=by
    intro f;have:a=48:=by apply UInt8.toNat_inj.1;rw[f];rfl
    subst this;simp at e
   simp[jh] at h1;omega
  | _ :: _ :: _ :: _ :: _,_,_,h,_,_=>simp at h
 ·omega
theorem mY {s:ByteArray} {n:Int} (h:bK s.data.toList n=true):0<s.size∧s.size≤5:=by
 have h1:=jJ h;have hl:s.size=s.data.toList.length:=by simp
 omega
variable {X:List Nat}
theorem iJ {w w':World} {base:Nat} {e:TypeId} {size:Nat} {v:Value} {n:Nat} {xs:List Value} {S:List Nat} (h:w.ownsRow base e size v n xs) (k:Kp S w w') (hS:∀ x∈S,x<base):w'.ownsRow base e size v n xs:=by
 refine⟨h.1,?_⟩
 rcases h.2 with d|⟨g,a,b,e,f,c,i⟩
 ·exact .inl d
 ·exact .inr ⟨g,a,b,e,f,(k.block g (lt_of_block c) (fun j=>by have:=hS g j;omega)).trans c,i⟩
structure bf (w:World) (br:Nat) (vw:Value) (ws:List ByteArray) (nx:Nat) (n:Int) (wr:Bool):Prop where
 block:w.heap[br]? = some (.cells #[vw,I J nx,I J n,.bool wr] 91 (0,0))
 words:Strs w vw ws
 fr:Fr [br] vw
 le:nx≤ws.length
theorem bf.below {w w':World} {br:Nat} {vw:Value} {ws:List ByteArray} {nx:Nat} {n:Int} {wr:Bool} (h:bf w br vw ws nx n wr) (hb:Below w.heap.size w w'):bf w' br vw ws nx n wr :=
 ⟨(hb.block br (lt_of_block h.block)).trans h.block,h.words.below hb,h.fr,h.le⟩
theorem bf.at {w:World} {br:Nat} {vw:Value} {ws:List ByteArray} {nx:Nat} {n:Int} {wr:Bool} (h:bf w br vw ws nx n wr) (j:Nat) (hj:j<4):w.cell? ⟨br,j,O⟩=some ((#[vw,I J nx,I J n,.bool wr]:Array Value)[j]'hj):=by
 simp only[World.cell?,h.block];simp
theorem bf.free {w:World} {br:Nat} {vw:Value} {ws:List ByteArray} {nx:Nat} {n:Int} {wr:Bool} (h:bf w br vw ws nx n wr) (j:Nat):w.frozen? ⟨br,j,O⟩=false:=by
 simp[World.frozen?,h.block]
theorem bf.rQ {w:World} {br:Nat} {vw:Value} {ws:List ByteArray} {nx:Nat} {n:Int} {wr:Bool} (h:bf w br vw ws nx n wr) (x:Bool):bf (w.setCell ⟨br,3,O⟩ (.bool x)) br vw ws nx n x :=
 ⟨by have:=heap_setCell_same w br 3 _ _ (.bool x) h.block;simpa using this,h.words.kp ((Kp.refl [br] w).set br 3 _ (.inl (by simp))) h.fr,h.fr,h.le⟩
theorem bf.Jh {w:World} {br:Nat} {vw:Value} {ws:List ByteArray} {nx:Nat} {n:Int} {wr:Bool} (h:bf w br vw ws nx n wr) (x:Nat) (hx:x≤ws.length):bf (w.setCell ⟨br,1,O⟩ (I J x)) br vw ws x n wr :=
 ⟨by have:=heap_setCell_same w br 1 _ _ (I J (x:Int)) h.block;simpa using this,h.words.kp ((Kp.refl [br] w).set br 1 _ (.inl (by simp))) h.fr,h.fr,hx⟩
def nxt (ws:List ByteArray) (nx:Nat):Nat:=if nx<ws.length then nx+1 else nx
def wrd (ws:List ByteArray) (nx:Nat):ByteArray:=ws.getD nx ⟨#[]⟩
def bG (w w':World) (br:Nat) (vw:Value) (ws:List ByteArray) (nx:Nat) (n:Int) (wr:Bool):Prop:=bf w' br vw ws nx n wr∧Kp [br] w w'
theorem bG.below {w w1 w2:World} {br:Nat} {vw:Value} {ws:List ByteArray} {nx:Nat} {n:Int} {wr:Bool} (h:bG w w1 br vw ws nx n wr) (hb:Below w1.heap.size w1 w2):bG w w2 br vw ws nx n wr:=⟨h.1.below hb,h.2.aS hb⟩
theorem bG.wrong {w w1:World} {br:Nat} {vw:Value} {ws:List ByteArray} {nx:Nat} {n:Int} {wr:Bool} (h:bG w w1 br vw ws nx n wr) (x:Bool):bG w (w1.setCell ⟨br,3,O⟩ (.bool x)) br vw ws nx n x:=⟨h.1.rQ x,h.2.set br 3 _ (.inl (by simp))⟩
theorem lW (br:Nat) (vw:Value) (ws:List ByteArray) (nx:Nat) (n:Int) (wr:Bool) (w:World) (h:bf w br vw ws nx n wr) (hl:ws.length≤100000) :
  Calls Tryz.prog 69 #[Zp (some ⟨br,0,O⟩)] w fun e w'=>e=Zr (Z (wrd ws nx))∧bG w w' br vw ws (nxt ws nx) n (wr||!decide (nx<ws.length)):=by
 obtain⟨a,j,rfl,_,_⟩:=h.words.shape
 have c0:=h.at 0 (by omega)
 have c1:=h.at 1 (by omega)
 have c3:=h.at 3 (by omega)
 simp at c0 c1 c3;have m:=h.free 1;have p:=h.free 3;have k:=h.le;by_cases c:nx<ws.length
 ·have f:Hid (nxt ws nx=nx+1):=by unfold Hid nxt;rw[if_pos c]
  have g:Hid (wrd ws nx=ws[nx]):=by unfold Hid wrd;simp[List.getD,c]
  have i:Hid ((wr||!decide (nx<ws.length))=wr):=by unfold Hid;simp[c]
  have d:¬(ws.length:Int)≤(nx:Int):=by omega
  obtain⟨b,o,rfl,l,x⟩:=h.words.get nx c
  have q:(0:Int)≤(nx:Int):=by omega
  have r:(nx:Int)<(ws.length:Int):=by omega
  go_enter Tryz.func69,Tryz.ntmps69;go_wp2_with fail;go_quiet (fail);go_wp2_with fail;go_quiet (fail);go_wp2;go_ret;refine⟨jV g.out.symm,?_⟩
  rw[f.out,i.out];exact⟨bf.Jh (h.below (below_drewN (Below.refl _ _) _)) (nx+1) (by omega),(Kp.of_below (below_drewN (Below.refl _ _) _)).set br 1 _ (.inl (by simp))⟩
 ·have f:Hid (nxt ws nx=nx):=by unfold Hid nxt;rw[if_neg c]
  have g:Hid (wrd ws nx=⟨#[]⟩):=by unfold Hid wrd;rw[List.getD,List.getElem?_eq_none (by omega)];rfl
  have i:Hid ((wr||!decide (nx<ws.length))=true):=by unfold Hid;simp[c]
  have d:(ws.length:Int)≤(nx:Int):=by omega
  go_enter Tryz.func69,Tryz.ntmps69;go_wp2_with fail;go_quiet (fail);go_wp2;go_ret;refine⟨jV g.out.symm,?_⟩
  rw[f.out,i.out];exact⟨bf.rQ (h.below (below_drewN (Below.refl _ _) _)) true,(Kp.of_below (below_drewN (Below.refl _ _) _)).set br 3 _ (.inl (by simp))⟩
theorem kK {ws:List ByteArray} {nx M:Nat} (h:∀ x∈ws,x.size≤M):(wrd ws nx).size≤M:=by
 unfold wrd;by_cases a:nx<ws.length
 ·have e:ws.getD nx ⟨#[]⟩=ws[nx]:=by simp[List.getD,a]
  rw[e];exact h _ (List.getElem_mem _)
 ·have e:ws.getD nx ⟨#[]⟩=⟨#[]⟩:=by rw[List.getD,List.getElem?_eq_none (by omega)];rfl
  rw[e];exact Nat.zero_le _
theorem yU {ws:List ByteArray} {nx:Nat} (h:¬nx<ws.length):wrd ws nx=⟨#[]⟩:=by
 unfold wrd;rw[List.getD,List.getElem?_eq_none (by omega)];rfl
theorem nN {ws:List ByteArray} {nx:Nat} {wr:Bool} {f:ByteArray→Bool} (hf:f ⟨#[]⟩=false):((wr||!decide (nx<ws.length))||!f (wrd ws nx))=(wr||!f (wrd ws nx)):=by
 by_cases h:nx<ws.length
 ·simp[h]
 ·rw[yU h,hf];simp
section
variable (br:Nat) (vw:Value) (ws:List ByteArray) (nx:Nat) (n:Int) (wr:Bool) (w:World) (h:bf w br vw ws nx n wr) (hl:ws.length≤100000) (hz:∀ x∈ws,x.size≤1000)
theorem dY (br:Nat) (vw:Value) (ws:List ByteArray) (nx:Nat) (n:Int) (wr:Bool) (w:World) (h:bf w br vw ws nx n wr) (hl:ws.length≤100000) (hz:∀ x∈ws,x.size≤1000) (a b:Int) (ha:0≤a) (hb:b≤999) :
  Calls Tryz.prog 113 #[Zp (some ⟨br,0,O⟩),I J a,I J b] w fun e w'=>e=Zr (I J (aJ (wrd ws nx) a b))∧bG w w' br vw ws (nxt ws nx) n (wr||!ay (wrd ws nx).data.toList a b):=by
 have k:=kK (nx:=nx) hz;have j:Hid (((wr||!decide (nx<ws.length))||!ay (wrd ws nx).data.toList a b)=(wr||!ay (wrd ws nx).data.toList a b)):=nN (f:=fun x=>ay x.data.toList a b) (xW rfl ha)
 have d:Hid (∀ w,Calls Tryz.prog 149 #[Z (wrd ws nx),I J a,I J b] w fun e w'=>e=Zr (.tuple #[I J (aJ (wrd ws nx) a b),.bool (ay (wrd ws nx).data.toList a b)])∧w'=w):=fun w=>pY _ _ _ w (by unfold maxLen;omega) ha hb
 have g:Hid (Calls Tryz.prog 69 #[Zp (some ⟨br,0,O⟩)] w fun e w'=>e=Zr (Z (wrd ws nx))∧bG w w' br vw ws (nxt ws nx) n (wr||!decide (nx<ws.length))):=lW br vw ws nx n wr w h hl
 rw[← j.out];clear j;generalize (wr||!decide (nx<ws.length))=m at *
 generalize aJ (wrd ws nx) a b=v at *;generalize ay (wrd ws nx).data.toList a b=l at *;go_enter Tryz.func113,Tryz.ntmps113;go_wp2_with fail;refine g.out.mono ?_;rintro e o ⟨rfl,c⟩;go_wp2_with fail;refine (d.out _).mono ?_;rintro e p ⟨rfl,i⟩;subst i;have c3:=c.1.at 3 (by omega)
 have q:=c.1.free 3;simp at c3;cases l
 ·go_wp2;go_ret;exact⟨rfl,by simpa using c.wrong true⟩
 ·go_wp2;go_ret;exact⟨rfl,by simpa using c⟩
theorem Br (br:Nat) (vw:Value) (ws:List ByteArray) (nx:Nat) (n:Int) (wr:Bool) (w:World) (h:bf w br vw ws nx n wr) (hl:ws.length≤100000) (hz:∀ x∈ws,x.size≤1000) :
  Calls Tryz.prog 114 #[Zp (some ⟨br,0,O⟩)] w fun e w'=>e=Zr (Z (if eF (wrd ws nx).data.toList then wrd ws nx else ⟨#[]⟩))∧bG w w' br vw ws (nxt ws nx) n (wr||!eF (wrd ws nx).data.toList):=by
 have k:=kK (nx:=nx) hz;have j:Hid (((wr||!decide (nx<ws.length))||!eF (wrd ws nx).data.toList)=(wr||!eF (wrd ws nx).data.toList)):=nN (f:=fun x=>eF x.data.toList) rfl
 have b:Hid (∀ w,Calls Tryz.prog 150 #[Z (wrd ws nx)] w fun e w'=>e=Zr (.bool (eF (wrd ws nx).data.toList))∧w'=w):=fun w=>qD _ w (by unfold maxLen;omega)
 have c:Hid (∀ w,Calls Tryz.prog 151 #[Z (wrd ws nx)] w fun e w'=>e=Zr (Z (wrd ws nx))∧Below w.heap.size w w'):=fun w=>Co _ w
 have d:Hid (Calls Tryz.prog 69 #[Zp (some ⟨br,0,O⟩)] w fun e w'=>e=Zr (Z (wrd ws nx))∧bG w w' br vw ws (nxt ws nx) n (wr||!decide (nx<ws.length))):=lW br vw ws nx n wr w h hl
 rw[← j.out];clear j;generalize (wr||!decide (nx<ws.length))=m at *
 generalize eF (wrd ws nx).data.toList=l at *;go_enter Tryz.func114,Tryz.ntmps114;go_wp2_with fail;refine d.out.mono ?_;rintro e o ⟨rfl,a⟩;go_wp2_with fail;refine (b.out _).mono ?_;rintro e p ⟨rfl,g⟩;subst g;have c3:=a.1.at 3 (by omega)
 have q:=a.1.free 3;simp at c3;cases l
 ·go_wp2;go_ret;exact⟨rfl,by simpa using a.wrong true⟩
 ·go_wp2_with fail;refine (c.out _).mono ?_;rintro e r ⟨rfl,i⟩;go_wp2;go_ret;exact⟨rfl,by simpa using a.below i⟩
theorem Ki (br:Nat) (vw:Value) (ws:List ByteArray) (nx:Nat) (n:Int) (wr:Bool) (w:World) (h:bf w br vw ws nx n wr) (hl:ws.length≤100000) (hz:∀ x∈ws,x.size≤1000) :
  Calls Tryz.prog 154 #[Zp (some ⟨br,0,O⟩)] w fun e w'=>∃ v,e=Zr v∧w'.ownsRow w.heap.size 3 1 v (gJ (wrd ws nx) n).length ((gJ (wrd ws nx) n).map (Value.int .i64))∧bG w w' br vw ws (nxt ws nx) n (wr||!bK (wrd ws nx).data.toList n):=by
 have A:=kK (nx:=nx) hz;have u:Hid (((wr||!decide (nx<ws.length))||!bK (wrd ws nx).data.toList n)=(wr||!bK (wrd ws nx).data.toList n)):=nN (f:=fun x=>bK x.data.toList n) rfl
 have m:Hid (∀ w,Calls Tryz.prog 15 #[Z (wrd ws nx),I J n] w fun e w'=>∃ v,e=Zr v∧w'.ownsRow w.heap.size 3 1 v (gJ (wrd ws nx) n).length ((gJ (wrd ws nx) n).map (Value.int .i64))∧(v=Y O 0 0↔bK (wrd ws nx).data.toList n=false)∧Below w.heap.size w w'):=fun w=>sF _ n w (by unfold maxLen;omega)
 have o:Hid (Calls Tryz.prog 69 #[Zp (some ⟨br,0,O⟩)] w fun e w'=>e=Zr (Z (wrd ws nx))∧bG w w' br vw ws (nxt ws nx) n (wr||!decide (nx<ws.length))):=lW br vw ws nx n wr w h hl
 have p:=lt_of_block h.block;rw[← u.out];clear u;generalize (wr||!decide (nx<ws.length))=H at *
 generalize bK (wrd ws nx).data.toList n=B at *;generalize gJ (wrd ws nx) n=gr at *;have C:=fun w a n c=>Lib.run_eql_slice_nil (P:=Tryz.prog) w 44 3 a n c 0 0 Tryz.underlying44
 go_enter Tryz.func154,Tryz.ntmps154;go_wp2_with fail;refine o.out.mono ?_;rintro e K ⟨rfl,r⟩;have c2:=r.1.at 2 (by omega)
 simp at c2;go_wp2_with fail;refine (m.out _).mono ?_;rintro e y ⟨D,rfl,i,j,s⟩;have b:=r.below s;have c3:=b.1.at 3 (by omega)
 have L:=b.1.free 3;simp at c3;have d:y.ownsRow w.heap.size 3 1 D gr.length (gr.map (Value.int .i64)):=by
  refine⟨i.1,?_⟩
  rcases i.2 with q|⟨g,k,l,e,E,F,G⟩
  ·exact .inl q
  ·exact .inr ⟨g,k,l,e,Nat.le_trans r.2.size E,F,G⟩
 cases B
 ·obtain rfl:=j.2 rfl;go_wp2;go_ret;exact⟨_,rfl,iJ d ((Kp.refl [br] y).set br 3 _ (.inl (by simp))) (fun x z=>by simp at z;subst z;exact p),by simpa using b.wrong true⟩
 ·rcases i.2 with ⟨t,_⟩|⟨g,k,l,t,_⟩
  ·exact absurd (j.1 t) (by decide)
  ·subst t;go_wp2;go_ret;exact⟨_,rfl,d,by simpa using b⟩
end
theorem inDec (b:UInt8):inB b.toNat DEC.data.toList=iT b.toNat:=by
 rw[Bool.eq_iff_iff];unfold inB iT;simp[DEC];omega
theorem dO {fn:Func} {t:Tmp} {T:TypeId} (h:fn.results=#[.cell t T]) (tmps:Array Value) (P:Program) (w:World) {p:Addr} {v:Value} (hp:tmps.getD t undef=Zp (some p)) (hl:(loadVar T p).run P w=.ok v w) :
  (results fn tmps).run P w=.ok v w:=by
 have hp':tmps[t]?.getD undef=Zp (some p):=by simpa using hp
 simp only[results,h];simp[hp',hl,asAddr]
theorem fB {w:World} {base base':Nat} {e:TypeId} {size:Nat} {v:Value} {n:Nat} {xs:List Value} (h:w.ownsRow base e size v n xs) (hb:base'≤base):w.ownsRow base' e size v n xs:=by
 refine⟨h.1,?_⟩
 rcases h.2 with q|⟨g,a,b,e,c,d,f⟩
 ·exact .inl q
 ·exact .inr ⟨g,a,b,e,Nat.le_trans hb c,d,f⟩
def tY (s:ByteArray):ByteArray:=if jr s.data.toList=true then s else ⟨#[]⟩
section
variable (br:Nat) (vw:Value) (ws:List ByteArray) (nx:Nat) (n:Int) (wr:Bool) (w:World) (h:bf w br vw ws nx n wr) (hl:ws.length≤100000) (hz:∀ x∈ws,x.size≤1000)
theorem H8 (br:Nat) (vw:Value) (ws:List ByteArray) (nx:Nat) (n:Int) (wr:Bool) (w:World) (h:bf w br vw ws nx n wr) (hl:ws.length≤100000) (hz:∀ x∈ws,x.size≤1000) :
  Calls Tryz.prog 115 #[Zp (some ⟨br,0,O⟩)] w fun e w'=>e=Zr (Z (tY (wrd ws nx)))∧bG w w' br vw ws (nxt ws nx) n (wr||!jr (wrd ws nx).data.toList):=by
 have B:=kK (nx:=nx) hz;have y:Hid (((wr||!decide (nx<ws.length))||!jr (wrd ws nx).data.toList)=(wr||!jr (wrd ws nx).data.toList)):=nN (f:=fun x=>jr x.data.toList) rfl
 have o:Hid (Calls Tryz.prog 69 #[Zp (some ⟨br,0,O⟩)] w fun e w'=>e=Zr (Z (wrd ws nx))∧bG w w' br vw ws (nxt ws nx) n (wr||!decide (nx<ws.length))):=lW br vw ws nx n wr w h hl
 rw[← y.out];clear y;generalize (wr||!decide (nx<ws.length))=K at *
 generalize wrd ws nx=s at *;generalize nxt ws nx=nx' at *;have p:=nP s;have r:Hid (jr s.data.toList=(s.data.toList.all (fun b=>iT b.toNat)&&(decide (1≤s.size)&&decide (s.size≤8)))):=by
  unfold Hid jr;rw[nP];congr 2;funext b;exact inDec b
 have c:Hid (jr s.data.toList=false→tY s=⟨#[]⟩):=fun q=>by unfold tY;rw[q];rfl
 have t:Hid (jr s.data.toList=true→tY s=s):=fun q=>by unfold tY;rw[q];rfl
 generalize tY s=L at *;generalize jr s.data.toList=d at *;go_enter Tryz.func115,Tryz.ntmps115;go_wp2_with fail;refine o.out.mono ?_;rintro e C ⟨rfl,g⟩;have c3:=g.1.at 3 (by omega)
 have M:=g.1.free 3;simp at c3;clear p;by_cases N:s.size<1
 ·have a:Hid (d=false):=by unfold Hid;rw[r.out];simp;omega
  have D:(s.size:Int)<1:=by omega
  go_wp2;go_ret;exact⟨jV (by rw[c.out a.out]),by rw[a.out];simpa using g.wrong true⟩
 by_cases P:8<s.size
 ·have a:Hid (d=false):=by unfold Hid;rw[r.out];simp;omega
  have E:(8:Int)<(s.size:Int):=by omega
  go_wp2;go_ret;exact⟨jV (by rw[c.out a.out]),by rw[a.out];simpa using g.wrong true⟩
 have j:Hid (d=s.data.toList.all (fun b=>iT b.toNat)):=by unfold Hid;rw[r.out,decide_eq_true (by omega:1≤s.size),decide_eq_true (by omega:s.size≤8)];simp
 go_upto_if 14 with fail
 go_cut [] from 5 (fun wr=>wr=C)
 case first =>
  go_wp2_with fail;go_meet
  case rel=>rfl
 case rest =>
  subst hcut;go_wp2_with fail;go_loop [4] (fun i=>∃ k:Nat,k≤s.size∧i=I J k∧(s.data.toList.take k).all (fun b=>iT b.toNat)=true) (fun i=>s.size-(intOf i).toNat)
  case atStart=>exact⟨0,Nat.zero_le _,rfl,by simp⟩
  case round =>
   obtain⟨k,Q,rfl,z⟩:=hrel
   have A:Hid ((s.data.toList.take k).all (fun b=>iT b.toNat)=true):=z
   clear z;by_cases m:k<s.size
   ·have u:Hid (∀ w,Calls Tryz.prog 37 #[I .u8 (s[k].toNat:Int)] w fun e w'=>e=Zr (.bool (iT (s[k].toNat:Int)))∧w'=w):=fun w=>nY _ w
    have F:Hid ((s.data.toList.take (k+1)).all (fun b=>iT b.toNat)=((s.data.toList.take k).all (fun b=>iT b.toNat)&&iT (s[k].toNat:Int))):=by
     unfold Hid;rw[sO s k m,List.all_append];simp
    have G:Hid (iT (s[k].toNat:Int)=false→d=false):=fun q=>by
     rw[j.out,List.all_eq_false];exact⟨s[k],List.getElem_mem (l:=s.data.toList) (by simpa using m),by simpa using q⟩
    generalize iT (s[k].toNat:Int)=H at *;go_wp2_with fail;refine (u.out _).mono ?_;rintro e R ⟨rfl,v⟩;subst v;cases H
    ·have a:Hid (d=false):=G.out (by trivial)
     go_wp2;go_ret;exact⟨jV (by rw[c.out a.out]),by rw[a.out];simpa using g.wrong true⟩
    ·go_wp2_with fail;go_round
     case rel=>exact⟨k+1,by omega,by go_num,by rw[F.out,A.out];rfl⟩
     case measure=>simp[intOf];omega
   ·obtain rfl:k=s.size:=by omega
    have a:Hid (d=true):=by unfold Hid;rw[j.out];have:=A.out;rwa [List.take_of_length_le (by rw[nP];exact Nat.le_refl _)] at this
    go_wp2;go_ret;exact⟨jV (by rw[t.out a.out]),by rw[a.out];simpa using g⟩
def jM (s:ByteArray) (n:Int):List Int:=if dM s n=true then eB s else []
theorem xJ (br:Nat) (vw:Value) (ws:List ByteArray) (nx:Nat) (n:Int) (wr:Bool) (w:World) (h:bf w br vw ws nx n wr) (hl:ws.length≤100000) (hz:∀ x∈ws,x.size≤1000) (n3:3≤n) (n7:n≤7) :
    Calls Tryz.prog 116 #[Zp (some ⟨br,0,O⟩)] w fun e w'=>∃ v,e=Zr v∧w'.ownsRow w.heap.size 3 1 v (jM (wrd ws nx) n).length ((jM (wrd ws nx) n).map (Value.int .i64))∧bG w w' br vw ws (nxt ws nx) n (wr||!dM (wrd ws nx) n):=by
  obtain⟨i0,hi,hz0,hz1,hz2⟩:=info_parts Tryz.infoInt
  have hzw:=kK (nx:=nx) hz
  have hlb:=lt_of_block h.block
  have HO:Hid (((wr||!decide (nx<ws.length))||!dM (wrd ws nx) n)=(wr||!dM (wrd ws nx) n)):=nN (f:=fun x=>dM x n) (by
    have e:bU (⟨#[]⟩:ByteArray) 46=[⟨#[]⟩]:=rfl
    unfold dM;rw[e];simp;omega)
  have HWd:Hid (Calls Tryz.prog 69 #[Zp (some ⟨br,0,O⟩)] w fun e w'=>e=Zr (Z (wrd ws nx))∧bG w w' br vw ws (nxt ws nx) n (wr||!decide (nx<ws.length))):=lW br vw ws nx n wr w h hl
  rw[← HO.out]
  clear HO
  generalize (wr||!decide (nx<ws.length))=w0 at *
  generalize wrd ws nx=s at *
  generalize nxt ws nx=nx' at *
  have HSp : Hid (∀ w, Calls Tryz.prog 39 #[Z s, I .u8 46] w fun e w' => ∃ v, e = Zr v ∧ w'.ownsRow w.heap.size 9 1 v (bU s 46).length ((bU s 46).map Value.string) ∧ Below w.heap.size w w') := fun w => sG s 46 w (by omega)
  have hps:=mM s 46
  have hpl:=Ee s 46
  have HI:Hid (dM s n=((bU s 46).all (fun p=>ay p.data.toList 0 999)&&((bU s 46).length:Int)==n)):=rfl
  have HR0 : Hid (dM s n = false → jM s n = []) := fun q => by unfold jM; rw [q]; rfl
  have HR1 : Hid (dM s n = true → jM s n = (bU s 46).map (fun p => aH p.data.toList)) := fun q => by unfold jM; rw [q]; rfl
  generalize bU s 46=ps at *
  generalize jM s n=lr at *
  generalize dM s n=ok at *
  go_enter Tryz.func116,Tryz.ntmps116
  go_wp2_with fail
  refine HWd.out.mono ?_
  rintro e w1 ⟨rfl,hP⟩
  go_wp2_with fail
  refine (HSp.out _).mono ?_
  rintro e w2 ⟨v2,rfl,hown2,hb2⟩
  have hP2:=hP.below hb2
  have hst:=Strs.bX hown2
  obtain⟨a2,cap2,rfl,_,_⟩:=hst.shape
  have c2 := hP2.1.at 2 (by omega)
  have c3 := hP2.1.at 3 (by omega)
  have f3:=hP2.1.free 3
  simp at c2 c3
  have hsz1:w.heap.size≤w2.heap.size:=hP2.2.size
  clear hown2
  have bne:((ps.length:Int) != n) = !((ps.length:Int)==n):=rfl
  cases hq:((ps.length:Int)==n)
  · have HZ : Hid (ok = false) := by unfold Hid; rw [HI.out, hq]; simp
    rw[hq] at bne
    have p3:((ps.length:Int) != n)=true:=bne
    go_wp2
    go_ret
    exact ⟨_, rfl, by rw [HR0.out HZ.out]; exact World.ownsRow_nil _ _ _ _, by rw [HZ.out]; simpa using hP2.wrong true⟩
  rw[hq] at bne
  have p3:((ps.length:Int) != n)=false:=bne
  have HQ:Hid (((ps.length:Int)==n)=true):=hq
  have hpl7 : ps.length ≤ 7 := by have : (ps.length : Int) = n := by simpa using hq
                                  omega
  clear bne hq
  go_upto_if 19 with fail
  go_cut [] from 9 (fun wr=>wr=w2)
  case first =>
    go_wp2_with fail
    go_meet
    case rel=>rfl
  case rest =>
    subst hcut
    clear p3
    go_wp2_with fail
    go_loopw [5,6] (fun v i wr=>∃ k:Nat,k≤ps.length∧i=I J k∧wr.ownsRow wc.heap.size 3 1 v (((ps.take k).map (fun p=>aH p.data.toList)).map (Value.int .i64)).length (((ps.take k).map (fun p=>aH p.data.toList)).map (Value.int .i64))∧(ps.take k).all (fun p=>ay p.data.toList 0 999)=true∧Below wc.heap.size wc wr) (fun _ i _=>ps.length-(intOf i).toNat)
    case atStart => exact ⟨0, Nat.zero_le _, rfl, World.ownsRow_nil _ _ _ _, by simp, Below.refl _ _⟩
    case round =>
      obtain⟨k,hk,rfl,hown,hall,hb⟩:=hrel
      have HAl:Hid ((ps.take k).all (fun p=>ay p.data.toList 0 999)=true):=hall
      clear hall
      have hP3:=hP2.below hb
      by_cases hlt:k<ps.length
      · have hstr:=hst.below hb
        obtain⟨bp,op,rfl,_,yk⟩:=hstr.get k hlt
        have zk:=hps ps[k] (List.getElem_mem _)
        have HNk : Hid (∀ w, Calls Tryz.prog 149 #[Z ps[k], I J 0, I J 999] w fun e w' => e = Zr (.tuple #[I J (aJ ps[k] 0 999), .bool (ay ps[k].data.toList 0 999)]) ∧ w' = w) := fun w => pY _ _ _ w (by unfold maxLen; omega) (by omega) (by omega)
        have HNv : Hid (ay ps[k].data.toList 0 999 = true → aJ ps[k] 0 999 = aH ps[k].data.toList) := fun q => by unfold aJ; rw [q]; rfl
        have HTk:Hid ((ps.take (k+1)).map (fun p=>aH p.data.toList)=(ps.take k).map (fun p=>aH p.data.toList)++[aH ps[k].data.toList]):=tH hlt
        have HAk:Hid ((ps.take (k+1)).all (fun p=>ay p.data.toList 0 999)=((ps.take k).all (fun p=>ay p.data.toList 0 999)&&ay ps[k].data.toList 0 999)):=by
          unfold Hid;rw[List.take_succ_eq_append_getElem hlt,List.all_append];simp
        have HF:Hid (ay ps[k].data.toList 0 999=false→ok=false):=fun q=>by
          have : ps.all (fun p => ay p.data.toList 0 999) = false := List.all_eq_false.2 ⟨ps[k], List.getElem_mem _, by simpa using q⟩
          rw[HI.out,this];rfl
        have hml : ((ps.take k).map (fun p => aH p.data.toList)).length ≤ 10 := by simp; omega
        generalize (ps.take k).map (fun p=>aH p.data.toList)=lk at *
        have j1 : (0 : Int) ≤ (k : Int) := by omega
        have j2 : (k : Int) < (ps.length : Int) := by omega
        have c3' := hP3.1.at 3 (by omega)
        have f3':=hP3.1.free 3
        simp at c3'
        generalize ay ps[k].data.toList 0 999=wk at *
        generalize aJ ps[k] 0 999=xk at *
        go_wp2_with fail
        refine (HNk.out _).mono ?_
        rintro e w4 ⟨rfl,hw4⟩
        subst hw4
        cases wk
        · have HZ : Hid (ok = false) := HF.out (by trivial)
          go_wp2
          go_ret
          exact ⟨_, rfl, by rw [HR0.out HZ.out]; exact World.ownsRow_nil _ _ _ _, by rw [HZ.out]; simpa using hP3.wrong true⟩
        · have hx := HNv.out (by trivial)
          have HX:Hid (xk=aH ps[k].data.toList):=hx
          clear hx
          go_wp2_with (at_builtin; refine app1 rfl _ _ 44 rfl wc.heap.size 3 i0 (I J 0) 1 8 Tryz.underlying44 hi hz0 hz1 hz2 rfl (by decide) w4 _ _ _ (by rfl) hown 1 [I J xk] (by rfl) rfl ?c2 (by simp; omega) (by decide) hb.size ?_)
          case c2=>intro u hu;simp at hu;subst hu;rfl
          intro v5 w5 hown5 hg5 hb5 hn5
          go_wp2
          go_roundw
          case rel => exact ⟨k + 1, by omega, by go_num, by rw [HTk.out, ← HX.out]; simpa using hown5, by rw [HAk.out, HAl.out]; rfl, hb.trans hb5⟩
          case measure=>simp[intOf];omega
      · obtain rfl : k = ps.length := by omega
        have HZ : Hid (ok = true) := by unfold Hid; rw [HI.out, HQ.out]; have := HAl.out; rw [List.take_length] at this; rw [this]; rfl
        rw[List.take_length] at hown
        go_wp2
        go_ret
        exact ⟨_, rfl, by rw [HR1.out HZ.out]; exact fB (by simpa using hown) hsz1, by rw [HZ.out]; simpa using hP3⟩
end
def Pf (N:Nd) (c:Int):Nat→Nat
 | 0=>0
 | j+1=>Pf N c j+if ((EZ N.group j != N.id)&&decide (c≤N.acks.getD (EZ N.group j).toNat 0))=true then 1 else 0
def Pe (N:Nd):Nat→Int
 | 0=>N.commit
 | f+1=>if N.group.size≤2*Pf N (N.commit+(f+1:Nat)) N.group.size+1 then N.commit+(f+1:Nat) else Pe N f
def KW (N:Nd) (q:Nat) (k:Int):Nd:=if N.acks.getD q 0<k then { N with acks:=N.acks.set q k } else N
def kC (N:Nd) (m:Sd):Nd×List (Int×ByteArray) :=
 if (N.log.length:Int)<nmB m then (N,[])
 else Ll (KW N m.frm.toNat (nmB m)) (Pe (KW N m.frm.toNat (nmB m)) (N.log.length-N.commit).toNat)
def RB:ByteArray:=⟨#[114]⟩
variable {X:List Nat}
def gY (M:Nd) (ls:List Int) (k:Nat):Nd :=
 if (((k:Int) != M.id)&&decide (M.lives.getD k 0<ls.getD k 0))=true then { M with lives:=M.lives.set k (ls.getD k 0),acks:=M.acks.set k 0 } else M
section
open Go.Shelf
def Tryz.laysItoa_ren:Go.Shelf.Ren:=⟨fun|171=>121|243=>155|246=>167|283=>175|284=>176|285=>177|286=>178|129=>182|317=>181|318=>183|319=>184|320=>185|337=>186|338=>187|n=>n,fun|3=>3|9=>9|2=>2|4=>4|171=>148|0=>0|53=>149|37=>100|5=>5|173=>152|212=>156|51=>157|20=>20|213=>158|46=>159|232=>162|233=>163|n=>n,fun|17=>0|18=>1|19=>2|n=>n⟩
theorem Tryz.laysItoa:Go.Proofs.LaysM.n171 Tryz.prog Tryz.laysItoa_ren where
 mixed:=by kernel_rfl
 f129:=Tryz.func182.trans (congrArg some (by kernel_rfl))
 f171:=Tryz.func121.trans (congrArg some (by kernel_rfl))
 f243:=Tryz.func155.trans (congrArg some (by kernel_rfl))
 f246:=Tryz.func167.trans (congrArg some (by kernel_rfl))
 f283:=Tryz.func175.trans (congrArg some (by kernel_rfl))
 f284:=Tryz.func176.trans (congrArg some (by kernel_rfl))
 f285:=Tryz.func177.trans (congrArg some (by kernel_rfl))
 f286:=Tryz.func178.trans (congrArg some (by kernel_rfl))
 f317:=Tryz.func181.trans (congrArg some (by kernel_rfl))
 f318:=Tryz.func183.trans (congrArg some (by kernel_rfl))
 f319:=Tryz.func184.trans (congrArg some (by kernel_rfl))
 f320:=Tryz.func185.trans (congrArg some (by kernel_rfl))
 f337:=Tryz.func186.trans (congrArg some (by kernel_rfl))
 f338:=Tryz.func187.trans (congrArg some (by kernel_rfl))
 t0:=Tryz.underlying0
 a0:=Tryz.isAgg0
 z0:=Tryz.sizeOf0
 v0:=Tryz.zeroValue0
 t2:=Tryz.underlying2
 a2:=Tryz.isAgg2
 z2:=Tryz.sizeOf2
 v2:=Tryz.zeroValue2
 t3:=Tryz.underlying3
 a3:=Tryz.isAgg3
 z3:=Tryz.sizeOf3
 v3:=Tryz.zeroValue3
 t4:=Tryz.underlying4
 a4:=Tryz.isAgg4
 z4:=Tryz.sizeOf4
 v4:=Tryz.zeroValue4
 t5:=Tryz.underlying5
 a5:=Tryz.isAgg5
 z5:=Tryz.sizeOf5
 v5:=Tryz.zeroValue5
 t9:=Tryz.underlying9
 a9:=Tryz.isAgg9
 z9:=Tryz.sizeOf9
 v9:=Tryz.zeroValue9
 t20:=Tryz.underlying20
 a20:=Tryz.isAgg20
 z20:=Tryz.sizeOf20
 v20:=Tryz.zeroValue20
 t37:=Tryz.underlying100
 a37:=Tryz.isAgg100
 z37:=Tryz.sizeOf100
 v37:=Tryz.zeroValue100
 t46:=Tryz.underlying159
 a46:=Tryz.isAgg159
 z46:=Tryz.sizeOf159
 v46:=Tryz.zeroValue159
 t51:=Tryz.underlying157
 a51:=Tryz.isAgg157
 z51:=Tryz.sizeOf157
 v51:=Tryz.zeroValue157
 t53:=Tryz.underlying149
 a53:=Tryz.isAgg149
 z53:=Tryz.sizeOf149
 v53:=Tryz.zeroValue149
 t171:=Tryz.underlying148
 a171:=Tryz.isAgg148
 z171:=Tryz.sizeOf148
 v171:=Tryz.zeroValue148
 t173:=Tryz.underlying152
 a173:=Tryz.isAgg152
 z173:=Tryz.sizeOf152
 v173:=Tryz.zeroValue152
 t212:=Tryz.underlying156
 a212:=Tryz.isAgg156
 z212:=Tryz.sizeOf156
 v212:=Tryz.zeroValue156
 t213:=Tryz.underlying158
 a213:=Tryz.isAgg158
 z213:=Tryz.sizeOf158
 t232:=Tryz.underlying162
 a232:=Tryz.isAgg162
 z232:=Tryz.sizeOf162
 v232:=Tryz.zeroValue162
 t233:=Tryz.underlying163
 a233:=Tryz.isAgg163
 z233:=Tryz.sizeOf163
 v233:=Tryz.zeroValue163
 g17:=by kernel_rfl
 g18:=by kernel_rfl
 g19:=by kernel_rfl
 i0:=by kernel_rfl
 i2:=by kernel_rfl
 i3:=by kernel_rfl
 i4:=by kernel_rfl
 i5:=by kernel_rfl
 i9:=by kernel_rfl
 i20:=by kernel_rfl
 i37:=by kernel_rfl
 i46:=by kernel_rfl
 i51:=by kernel_rfl
 i53:=by kernel_rfl
 i171:=by kernel_rfl
 i173:=by kernel_rfl
 i212:=by kernel_rfl
 i232:=by kernel_rfl
 i233:=by kernel_rfl
 m17:=by kernel_rfl
 m18:=by kernel_rfl
 m19:=by kernel_rfl
theorem Tryz.gTab:Tryz.prog.globalNamed "internal/strconv.uint64pow10" = some 0:=by kernel_rfl
def Tab (w:World):Prop:=Lib.TabIs Tryz.prog w "internal/strconv.uint64pow10" .u64 Lib.pow10Tab
theorem Tab.lt {w:World} (h:Tab w):0<w.heap.size:=by
 unfold Tab Lib.TabIs World.var? at h;rw[Tryz.gTab] at h;simp only[Option.bind_some] at h;rcases Nat.lt_or_ge 0 w.heap.size with a|a
 ·exact a
 ·rw[Array.getElem?_eq_none a] at h;cases h
theorem Tab.kp {S:List Nat} {w w':World} (h:Tab w) (k:Kp S w w') (hS:0∉S):Tab w':=by
 have a:=h.lt;unfold Tab Lib.TabIs World.var? at h ⊢;rw[Tryz.gTab] at h ⊢;simp only[Option.bind_some] at h ⊢;rw[k.block 0 a hS];exact h
theorem Tab.below {w w':World} (h:Tab w) (k:Below w.heap.size w w'):Tab w':=h.kp (Kp.of_below (S:=[]) k) (by simp)
theorem Lm (u:Nat):Lib.decDigits u=jI u:=by
 induction u using Nat.strongRecOn with
 | _ u ih =>
  unfold Lib.decDigits jI;by_cases h:u<10
  ·rw[dif_pos h,if_pos h]
  ·rw[dif_neg h,if_neg h,ih (u / 10) (by omega)]
theorem iK (n:Int) (w:World) (hT:Tab w) (h0:0≤n) (h1:n≤9223372036854775807):Calls Tryz.prog 121 #[I J n] w fun e w'=>e=Zr (Z (dg n))∧Below w.heap.size w w':=by
 refine (Any.strconv_Itoa Tryz.laysItoa n (by omega) h1 w hT).mono ?_
 rintro e w' ⟨rfl,k,a,rfl⟩;refine⟨?_,?_⟩
 ·unfold dg Lib.itoa;rw[if_neg (by omega),Lm]
 ·exact Lib.below_grow _ w (Nat.le_refl _) k a
end
theorem yj:∀ (n:Nat) (l:List Int),l.Nodup→(∀ x∈l,0≤x∧x<n)→l.length≤n
 | 0,l,_,h=>by
  cases l with
  | nil=>simp
  | cons a l=>have:=h a (by simp);omega
 | n+1,l,hd,h=>by
  have f:=yj n (l.filter (fun x=>decide (x<(n:Int)))) (hd.sublist List.filter_sublist) (fun x b=>by
   rw[List.mem_filter] at b;have:=h x b.1
   have c:x<(n:Int):=by simpa using b.2
   omega)
  have c:l.length≤(l.filter (fun x=>decide (x<(n:Int)))).length+1:=by
   have e:=List.length_eq_countP_add_countP (fun x=>decide (x<(n:Int))) (l:=l)
   rw[List.countP_eq_length_filter] at e;have g:l.countP (fun a=>decide (¬(decide (a<(n:Int)))=true))≤1:=by
    have d:l.countP (fun a=>decide (¬(decide (a<(n:Int)))=true))=l.count (n:Int):=by
     rw[List.count];apply List.countP_congr
     intro x b;have:=h x b
     simp
     omega
    rw[d];exact List.nodup_iff_count.1 hd _
   omega
  omega
variable {X:List Nat}
theorem Ea {P:Program} {ops:Array Oper} {rest:List Oper} {o:Oper} {a:Act} {Q:Exit→Act→World→Prop} (hgd:o.guard=O) (s x:Operand) (t:TypeId)
  (ho:o.op=.call { callee:=.builtin .append,args:=#[s,x],argTypes:=#[t,t] })
  (base:Nat) (e:TypeId) (i:TypeInfo) (z:Value) (size bytes:Nat) (ht:P.underlying t=some (.slice e)) (hi:P.info? e=some i) (hz:i.zero=some z)
  (hsize:i.size=size) (hby:i.bytes=bytes) (hzs:z.cells.size=size) (hsz:0<size)
  (w:World) (g:Nat) (hg:w.heap.size=g) (v:Value) (n:Nat) (xs:List Value) (hs:a.eval s=v) (hown:w.ownsRow base e size v n xs)
  (c:Nat) (news:List Value) (hx:a.eval x=Y (some ⟨g,0,O⟩) 1 c) (hl:news.length=size) (h1:∀ u∈news,u.oneCell'=true)
  (hn:n≤1000000000) (hby2:bytes≤1000) (hbase:base≤w.heap.size)
  (h:∀ v' w',w'.ownsRow base e size v' (n+1) (xs++news)→w.grownBy w' v.ownBlock→Below base w w'→v'≠Y O 0 0→wpList P ops Q rest (a.put o.dst v') w') :
  wpList P ops Q (o :: rest) a (w.alloc (.cells news.toArray e)):=by
 subst hg;exact app1 hgd s x t ho base e i z size bytes ht hi hz hsize hby hzs hsz w v n xs hs hown c news hx hl h1 hn hby2 hbase h
theorem fH {ws:List ByteArray} {f:ByteArray} {n:Int} (hfit:∀ k,k<f.size→mq (ws.getD (k+1) Ze) (f.data.toList.getD k 0).toNat n (ws.getD k Ze)=true) (k:Nat) (c:UInt8) (h:f.data.toList[k]? = some c) :
  mq (ws.getD (k+1) Ze) c.toNat n (ws.getD k Ze)=true:=by
 have a:k<f.size:=by have:=(List.getElem?_eq_some_iff.1 h).1;simpa using this
 have:=hfit k a
 have e:f.data.toList.getD k 0=c:=by rw[List.getD,h];rfl
 rwa [e] at this
theorem N9 {ws:List ByteArray} {f:ByteArray} {n:Int} (hf:f.data.toList.take 4=[102,108,101,118]) (hfit:∀ k,k<f.size→mq (ws.getD (k+1) Ze) (f.data.toList.getD k 0).toNat n (ws.getD k Ze)=true) :
  ay (ws.getD 1 Ze).data.toList 0 (n-1)=true∧dM (ws.getD 2 Ze) n=true∧ay (ws.getD 3 Ze).data.toList 0 10=true∧ay (ws.getD 4 Ze).data.toList 0 999=true:=by
 have g:∀ k,k<4→f.data.toList[k]? = ([102,108,101,118]:List UInt8)[k]?:=fun k e=>by rw[← hf,List.getElem?_take_of_lt e]
 have a:=fH hfit 0 102 (g 0 (by omega))
 have b:=fH hfit 1 108 (g 1 (by omega))
 have c:=fH hfit 2 101 (g 2 (by omega))
 have d:=fH hfit 3 118 (g 3 (by omega))
 simp[mq] at a b c d;exact⟨a,b,c,d⟩
theorem LV {s:ByteArray} {n:Int} (h:dM s n=true):((eB s).length:Int)=n∧∀ x∈eB s,0≤x∧x≤999:=by
 unfold dM at h;simp only[Bool.and_eq_true,List.all_eq_true,beq_iff_eq] at h;refine⟨by unfold eB;rw[List.length_map];exact h.2,fun x a=>?_⟩
 unfold eB at a;rw[List.mem_map] at a;obtain⟨p,b,rfl⟩:=a
 exact dW (h.1 p b)
theorem um {s:ByteArray} {n:Int} (h:fE s n=true):∀ e∈nC s,eX e n=true:=by
 unfold fE at h;unfold nC
 split at h
 ·rename_i hd;rw[if_pos hd];simp
 ·rename_i hd;rw[if_neg hd];simp only[Bool.and_eq_true,List.all_eq_true] at h;exact h.1
theorem Ml {s:ByteArray} {n:Int} (h:bK s.data.toList n=true∨s.toList=[45]):s.size≤5:=by
 rcases h with h|h
 ·exact (mY h).2
 ·rw[ByteArray.toList_eq] at h;have:s.data.toList.length=1:=by rw[h];rfl
  have a:s.size=s.data.toList.length:=by simp
  omega
def qX (k:ByteArray):Bool:=k.toList==[112]||k.toList==[107]||k.toList==[99]||k.toList==[104]||k.toList==[103]||k.toList==[114]||k.toList==[116]||k.toList==[118]||k.toList==[115]||k.toList==[97]
theorem IB {k:ByteArray} (h:0<(bM k).size):k.toList=[113]∨k.toList=[109]∨qX k=true:=by
 cases hr:qX k
 ·by_cases d:k.toList=[113]
  ·exact .inl d
  ·by_cases e:k.toList=[109]
   ·exact .inr (.inl e)
   ·exfalso
    unfold qX at hr;simp only[Bool.or_eq_false_iff] at hr;obtain⟨⟨⟨⟨⟨⟨⟨⟨⟨f,g⟩,i⟩,j⟩,l⟩,m⟩,n⟩,o⟩,p⟩,a⟩:=hr
    have b:(k.toList==[113])=false:=by rw[beq_eq_false_iff_ne];exact d
    have c:(k.toList==[109])=false:=by rw[beq_eq_false_iff_ne];exact e
    unfold bM at h;rw[b,c,f,g,i,j,l,m,n,o,p,a] at h;exact absurd h (by decide)
 ·exact .inr (.inr rfl)
theorem OO {k:ByteArray} (h:qX k=true):(bM k).data.toList.take 4=[102,108,101,118]:=by
 unfold qX at h;simp only[Bool.or_eq_true,beq_iff_eq] at h;unfold bM;rcases h with ((((((((h|h)|h)|h)|h)|h)|h)|h)|h)|h <;> rw[h] <;> rfl
section
variable {s:ByteArray} {n:Int} (hw:aZ s n≠[]) (hn:n≤7) (hr:qX ((aZ s n).getD 0 Ze)=true)
theorem Ik {s:ByteArray} {n:Int} (hw:aZ s n≠[]) (hn:n≤7) (hr:qX ((aZ s n).getD 0 Ze)=true):PO n (gF (aZ s n))∧PK n (gF (aZ s n)):=by
 obtain⟨E,F,R,c,b⟩:=sQ hw
 rw[F] at hr ⊢;have t:∀ x∈bU s 32,x.size≤400:=fun x j=>Nat.le_trans (mM s 32 x j) E
 have u:∀ k,((bU s 32).getD k Ze).size≤400:=fun k=>by
  by_cases G:k<(bU s 32).length
  ·have e:(bU s 32).getD k Ze=(bU s 32)[k]:=by simp[List.getD,G]
   rw[e];exact t _ (List.getElem_mem _)
  ·have e:(bU s 32).getD k Ze=Ze:=by rw[List.getD,List.getElem?_eq_none (by omega)];rfl
   rw[e];exact Nat.zero_le _
 obtain⟨H,K,L,M⟩:=N9 (OO hr) b
 generalize bU s 32=a at *;have b1:=dW H;have l:=LV K;have g:=dW L;have i:=dW M;have w:(a.getD 1 Ze).size=1:=by have:=num1 b1.1 b1.2 (by omega);simpa using this
 have z:=hr;unfold qX at z;simp only[Bool.or_eq_true,beq_iff_eq] at z;rcases z with ((((((((h|h)|h)|h)|h)|h)|h)|h)|h)|h
 ·have f:bM (a.getD 0 Ze)=⟨#[102,108,101,118,120,112,121]⟩:=by unfold bM;rw[h];rfl
  have m:gF a=⟨a,a.getD 0 Ze,aH (a.getD 1 Ze).data.toList,eB (a.getD 2 Ze),aH (a.getD 3 Ze).data.toList,aH (a.getD 4 Ze).data.toList,aH (a.getD 7 Ze).data.toList,[]⟩:=by
   unfold gF lF;rw[h,f];rfl
  rw[f] at b c;have o:=fH b 4 120 rfl;have p:=fH b 5 112 rfl;have q:=fH b 6 121 rfl;simp[mq] at o p q;have v:=dW o;have g7:=dW q;have y:a.length=8:=c
  obtain⟨N,P⟩:=uj p (u 6)
  rw[m];refine⟨⟨fun x j=>Nat.le_trans (t x j) (by omega),b1.1,by have:=b1.2;show aH _<n;omega,l.1,l.2,g.1,g.2,i.1,i.2,g7.1,g7.2,⟨Nat.zero_le _,by simp,by simp,by simp⟩,by simp⟩,⟨by show 4<a.length;omega,w,fun _=>⟨⟨by show 6<a.length;omega,v.2,N,u 6,P,t⟩,p,v.1⟩,?_,?_,?_,?_⟩⟩ <;> (intro hc;exfalso;have d:(a.getD 0 Ze).toList=_:=hc;rw[h] at d;simp at d)
 ·have f:bM (a.getD 0 Ze)=⟨#[102,108,101,118,121]⟩:=by unfold bM;rw[h];rfl
  have m:gF a=⟨a,a.getD 0 Ze,aH (a.getD 1 Ze).data.toList,eB (a.getD 2 Ze),aH (a.getD 3 Ze).data.toList,aH (a.getD 4 Ze).data.toList,0,[]⟩:=by
   unfold gF lF;rw[h,f];rfl
  rw[f] at b c;have o:=fH b 4 121 rfl;simp[mq] at o;have y:a.length=6:=c
  rw[m];have v:=dW o;refine⟨⟨fun x j=>Nat.le_trans (t x j) (by omega),b1.1,by have:=b1.2;show aH _<n;omega,l.1,l.2,g.1,g.2,i.1,i.2,Int.le_refl _,by show (0:Int)≤10;omega,⟨Nat.zero_le _,by simp,by simp,by simp⟩,by simp⟩,⟨by show 4<a.length;omega,w,?_,fun _=>⟨by show 5<a.length;omega,v.1,v.2⟩,?_,?_,?_⟩⟩ <;> (intro hc;exfalso;have d:(a.getD 0 Ze).toList=_:=hc;rw[h] at d;simp at d)
 ·have f:bM (a.getD 0 Ze)=⟨#[102,108,101,118,121]⟩:=by unfold bM;rw[h];rfl
  have m:gF a=⟨a,a.getD 0 Ze,aH (a.getD 1 Ze).data.toList,eB (a.getD 2 Ze),aH (a.getD 3 Ze).data.toList,aH (a.getD 4 Ze).data.toList,aH (a.getD 5 Ze).data.toList,[]⟩:=by
   unfold gF lF;rw[h,f];rfl
  rw[f] at b c;have o:=fH b 4 121 rfl;simp[mq] at o;have y:a.length=6:=c
  have r:=dW o;rw[m];refine⟨⟨fun x j=>Nat.le_trans (t x j) (by omega),b1.1,by have:=b1.2;show aH _<n;omega,l.1,l.2,g.1,g.2,i.1,i.2,r.1,r.2,⟨Nat.zero_le _,by simp,by simp,by simp⟩,by simp⟩,⟨by show 4<a.length;omega,w,?_,?_,?_,?_,?_⟩⟩ <;> (intro hc;exfalso;have d:(a.getD 0 Ze).toList=_:=hc;rw[h] at d;simp at d)
 ·have f:bM (a.getD 0 Ze)=⟨#[102,108,101,118]⟩:=by unfold bM;rw[h];rfl
  have m:gF a=⟨a,a.getD 0 Ze,aH (a.getD 1 Ze).data.toList,eB (a.getD 2 Ze),aH (a.getD 3 Ze).data.toList,aH (a.getD 4 Ze).data.toList,0,[]⟩:=by
   unfold gF lF;rw[h,f];rfl
  rw[f] at b c;have y:a.length=5:=c
  rw[m];refine⟨⟨fun x j=>Nat.le_trans (t x j) (by omega),b1.1,by have:=b1.2;show aH _<n;omega,l.1,l.2,g.1,g.2,i.1,i.2,Int.le_refl _,by show (0:Int)≤10;omega,⟨Nat.zero_le _,by simp,by simp,by simp⟩,by simp⟩,⟨by show 4<a.length;omega,w,?_,?_,?_,?_,?_⟩⟩ <;> (intro hc;exfalso;have d:(a.getD 0 Ze).toList=_:=hc;rw[h] at d;simp at d)
 ·have f:bM (a.getD 0 Ze)=⟨#[102,108,101,118]⟩:=by unfold bM;rw[h];rfl
  have m:gF a=⟨a,a.getD 0 Ze,aH (a.getD 1 Ze).data.toList,eB (a.getD 2 Ze),aH (a.getD 3 Ze).data.toList,aH (a.getD 4 Ze).data.toList,0,[]⟩:=by
   unfold gF lF;rw[h,f];rfl
  rw[f] at b c;have y:a.length=5:=c
  rw[m];refine⟨⟨fun x j=>Nat.le_trans (t x j) (by omega),b1.1,by have:=b1.2;show aH _<n;omega,l.1,l.2,g.1,g.2,i.1,i.2,Int.le_refl _,by show (0:Int)≤10;omega,⟨Nat.zero_le _,by simp,by simp,by simp⟩,by simp⟩,⟨by show 4<a.length;omega,w,?_,?_,?_,?_,?_⟩⟩ <;> (intro hc;exfalso;have d:(a.getD 0 Ze).toList=_:=hc;rw[h] at d;simp at d)
 ·have f:bM (a.getD 0 Ze)=⟨#[102,108,101,118]⟩:=by unfold bM;rw[h];rfl
  have m:gF a=⟨a,a.getD 0 Ze,aH (a.getD 1 Ze).data.toList,eB (a.getD 2 Ze),aH (a.getD 3 Ze).data.toList,aH (a.getD 4 Ze).data.toList,0,[]⟩:=by
   unfold gF lF;rw[h,f];rfl
  rw[f] at b c;have y:a.length=5:=c
  rw[m];refine⟨⟨fun x j=>Nat.le_trans (t x j) (by omega),b1.1,by have:=b1.2;show aH _<n;omega,l.1,l.2,g.1,g.2,i.1,i.2,Int.le_refl _,by show (0:Int)≤10;omega,⟨Nat.zero_le _,by simp,by simp,by simp⟩,by simp⟩,⟨by show 4<a.length;omega,w,?_,?_,?_,?_,?_⟩⟩ <;> (intro hc;exfalso;have d:(a.getD 0 Ze).toList=_:=hc;rw[h] at d;simp at d)
 ·have f:bM (a.getD 0 Ze)=⟨#[102,108,101,118]⟩:=by unfold bM;rw[h];rfl
  have m:gF a=⟨a,a.getD 0 Ze,aH (a.getD 1 Ze).data.toList,eB (a.getD 2 Ze),aH (a.getD 3 Ze).data.toList,aH (a.getD 4 Ze).data.toList,0,[]⟩:=by
   unfold gF lF;rw[h,f];rfl
  rw[f] at b c;have y:a.length=5:=c
  rw[m];refine⟨⟨fun x j=>Nat.le_trans (t x j) (by omega),b1.1,by have:=b1.2;show aH _<n;omega,l.1,l.2,g.1,g.2,i.1,i.2,Int.le_refl _,by show (0:Int)≤10;omega,⟨Nat.zero_le _,by simp,by simp,by simp⟩,by simp⟩,⟨by show 4<a.length;omega,w,?_,?_,?_,?_,?_⟩⟩ <;> (intro hc;exfalso;have d:(a.getD 0 Ze).toList=_:=hc;rw[h] at d;simp at d)
 ·have f:bM (a.getD 0 Ze)=⟨#[102,108,101,118,118,121,76]⟩:=by unfold bM;rw[h];rfl
  have m:gF a=⟨a,a.getD 0 Ze,aH (a.getD 1 Ze).data.toList,eB (a.getD 2 Ze),aH (a.getD 3 Ze).data.toList,aH (a.getD 4 Ze).data.toList,aH (a.getD 6 Ze).data.toList,nC (a.getD 7 Ze)⟩:=by
   unfold gF lF;rw[h,f];rfl
  rw[f] at b c;have o:=fH b 4 118 rfl;have p:=fH b 5 121 rfl;have q:=fH b 6 76 rfl;simp[mq] at o p q;have y:a.length=8:=c
  have r:=dW p;have A:=xw q.1 (u 7);have C:=um q.1;rw[m];have v:=dW o;refine⟨⟨fun x j=>Nat.le_trans (t x j) (by omega),b1.1,by have:=b1.2;show aH _<n;omega,l.1,l.2,g.1,g.2,i.1,i.2,r.1,r.2,A,C⟩,⟨by show 4<a.length;omega,w,?_,?_,fun _=>⟨by show 5<a.length;omega,v.1,v.2,q.2⟩,?_,?_⟩⟩ <;> (intro hc;exfalso;have d:(a.getD 0 Ze).toList=_:=hc;rw[h] at d;simp at d)
 ·have f:bM (a.getD 0 Ze)=⟨#[102,108,101,118,103,104,121,76]⟩:=by unfold bM;rw[h];rfl
  have m:gF a=⟨a,a.getD 0 Ze,aH (a.getD 1 Ze).data.toList,eB (a.getD 2 Ze),aH (a.getD 3 Ze).data.toList,aH (a.getD 4 Ze).data.toList,aH (a.getD 7 Ze).data.toList,nC (a.getD 8 Ze)⟩:=by
   unfold gF lF;rw[h,f];rfl
  rw[f] at b c;have o:=fH b 4 103 rfl;have p:=fH b 5 104 rfl;have q:=fH b 6 121 rfl;have B:=fH b 7 76 rfl;simp[mq] at o p q B;have y:a.length=9:=c
  have r:=dW q;have A:=xw B.1 (u 8);have C:=um B.1;rw[m];have Q:(a.getD 6 Ze).size≤5:=Ml p
  refine⟨⟨fun x j=>Nat.le_trans (t x j) (by omega),b1.1,by have:=b1.2;show aH _<n;omega,l.1,l.2,g.1,g.2,i.1,i.2,r.1,r.2,A,C⟩,⟨by show 4<a.length;omega,w,?_,?_,?_,fun _=>⟨⟨by show 6<a.length;omega,g.1,g.2,i.1,i.2,(mY o).1,(mY o).2,Q,A,r.1,B.2⟩,o,p⟩,?_⟩⟩ <;> (intro hc;exfalso;have d:(a.getD 0 Ze).toList=_:=hc;rw[h] at d;simp at d)
 ·have f:bM (a.getD 0 Ze)=⟨#[102,108,101,118,105,103,104,121,76]⟩:=by unfold bM;rw[h];rfl
  have m:gF a=⟨a,a.getD 0 Ze,aH (a.getD 1 Ze).data.toList,eB (a.getD 2 Ze),aH (a.getD 3 Ze).data.toList,aH (a.getD 4 Ze).data.toList,aH (a.getD 8 Ze).data.toList,nC (a.getD 9 Ze)⟩:=by
   unfold gF lF;rw[h,f];rfl
  rw[f] at b c;have o:=fH b 4 105 rfl;have p:=fH b 5 103 rfl;have q:=fH b 6 104 rfl;have B:=fH b 7 121 rfl;have D:=fH b 8 76 rfl;simp[mq] at o p q B D;have y:a.length=10:=c
  have r:=dW B;have A:=xw D.1 (u 9);have C:=um D.1;rw[m];have v:=dW o;have g7:(a.getD 7 Ze).size≤5:=Ml q
  refine⟨⟨fun x j=>Nat.le_trans (t x j) (by omega),b1.1,by have:=b1.2;show aH _<n;omega,l.1,l.2,g.1,g.2,i.1,i.2,r.1,r.2,A,C⟩,⟨by show 4<a.length;omega,w,?_,?_,?_,?_,fun _=>⟨⟨by show 7<a.length;omega,g.1,g.2,i.1,i.2,(mY p).1,(mY p).2,g7,A,r.1,D.2⟩,p,q,v.1,v.2⟩⟩⟩ <;> (intro hc;exfalso;have d:(a.getD 0 Ze).toList=_:=hc;rw[h] at d;simp at d)
end
theorem AZ (n:Nat):(cZ n).length=n:=by simp[cZ]
variable {X:List Nat}
def KA:ByteArray:=⟨#[97]⟩
variable {X:List Nat}
def KH:ByteArray:=⟨#[104]⟩
end Go.Proofs.YtinaollfjiddmaaGreatDoor
