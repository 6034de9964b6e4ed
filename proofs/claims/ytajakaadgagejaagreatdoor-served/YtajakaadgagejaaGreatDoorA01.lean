import Derived.Test.YtajakaadgagejaaGreatDoorProg
import Derived.WalkKit
import Derived.WalkSpells
import Derived.WalkLawsBesides
import Derived.Laws.BytesArg
import Derived.Laws.OwnMore
import Derived.Laws.AppendOwnNone
import Derived.Deep.QuietTactic
import Derived.BigQuiet
import Derived.Deep.RegionHeld3
import Derived.Deep.AppendLies
import Derived.Deep.RegionLaw
import Derived.Deep.RegionWith
import Derived.Shelf.Strconv.Itoa3
import Derived.Lib.AppendIntMem
import Derived.Ground.NamesProg
import Derived.Deep.Cut
import Derived.Laws.IdiomStrings
import Derived.Laws.Rows
set_option maxRecDepth 100000
set_option maxHeartbeats 8000000
set_option linter.unusedVariables false
set_option linter.unusedSimpArgs false
set_option linter.unusedSectionVars false
namespace Go.Proofs.YtajakaadgagejaaGreatDoor
open Go.Value renaming int→I,slice→Y,string→Z,pointer→Zp
open Go.Ending renaming returned→Zr
open _root_.ByteArray renaming empty→Ze
open Go.IntKind renaming i64→J
open Option renaming none→O
open Go.RowKit
theorem aS {a b:Bool} (h:a=b):Zr (.bool a)=Zr (.bool b):=by rw[h]
theorem mH {k:IntKind} {a b:Int} (h:a=b):Zr (.int k a)=Zr (.int k b):=by rw[h]
theorem je {a b:ByteArray} (h:a=b):Zr (Z a)=Zr (Z b):=by rw[h]
theorem uH (s:ByteArray) (k:Nat) (h:k<s.size):s.data.toList.take (k+1)=s.data.toList.take k++[s[k]]:=by
 rw[List.take_succ_eq_append_getElem (by simpa using h)];rfl
theorem Fq (a b:List UInt8):(⟨a.toArray⟩:ByteArray)++⟨b.toArray⟩=⟨(a++b).toArray⟩:=by
 ext1;simp
theorem H8 (n:Int) (w:World):(convert 100 9 (Y (some ⟨w.heap.size,0,O⟩) 1 1)).run Tryz.prog (w.alloc (.cells #[I .u8 n] 5))=.ok (Z ⟨#[UInt8.ofNat n.toNat]⟩) (w.alloc (.cells #[I .u8 n] 5)):=by
 have h:=run_convert_bytes_arg (P:=Tryz.prog) (w.alloc (.cells #[I .u8 n] 5)) 100 5 Tryz.underlying100 Tryz.underlying5 w.heap.size 0 1 1 [n] rfl (fun i hi=>by
  obtain rfl:i=0:=by omega
  simp) 9 Tryz.underlying9
 rw[h];rfl
theorem xI {w w':World} {o:Obj} {row:Option Nat} (h:(w.alloc o).grownBy w' row):w.grownBy w' row :=
 ⟨h.os,h.tape,h.output,by have:=h.size;simp at this;omega,fun k hk hne=>(h.block k (by simp;omega) hne).trans (Below.heap_alloc w o k hk)⟩
theorem app1 {P:Program} {ops:Array Oper} {rest:List Oper} {o:Oper} {a:Act} {Q:Exit→Act→World→Prop} (hgd:o.guard=O) (s x:Operand) (t:TypeId)
  (ho:o.op=.call { callee:=.builtin .append,args:=#[s,x],argTypes:=#[t,t] })
  (base:Nat) (e:TypeId) (i:TypeInfo) (z:Value) (size bytes:Nat) (ht:P.underlying t=some (.slice e)) (hi:P.info? e=some i) (hz:i.zero=some z)
  (hsize:i.size=size) (hby:i.bytes=bytes) (hzs:z.cells.size=size) (hsz:0<size)
  (w:World) (v:Value) (n:Nat) (xs:List Value) (hs:a.eval s=v) (hown:w.ownsRow base e size v n xs)
  (c:Nat) (news:List Value) (hx:a.eval x=Y (some ⟨w.heap.size,0,O⟩) 1 c) (hl:news.length=size) (h1:∀ u∈news,u.oneCell'=true)
  (hn:n≤1000000000) (hby2:bytes≤1000) (hbase:base≤w.heap.size)
  (h:∀ v' w',w'.ownsRow base e size v' (n+1) (xs++news)→w.grownBy w' v.ownBlock→Below base w w'→v'≠Y O 0 0→wpList P ops Q rest (a.put o.dst v') w') :
  wpList P ops Q (o :: rest) a (w.alloc (.cells news.toArray e)):=by
 refine wpList_append_own _ hgd s x t ho base e i z size bytes ht hi hz hsize hby hzs hsz v n xs hs (hown.alloc _) ⟨w.heap.size,0,O⟩ 1 c news hx (by simpa using hl) ?_ h1 (by unfold maxLen;omega) ?_ (by simp;omega) ?_
 ·intro j u hj;have hjl:j<news.length:=(List.getElem?_eq_some_iff.1 hj).1
  have hplain:(⟨w.heap.size,0,O⟩:Addr).add j=⟨w.heap.size,j,O⟩:=by unfold Addr.add;split <;> simp_all
  rw[hplain];simp[hj]
 ·have:(n+1)*bytes≤1000000001*1000:=Nat.mul_le_mul (by omega) hby2
  omega
 ·intro v' w' h2 h3 h4;have g:=xI h3;refine h v' w' h2 g ((Below.refl _ w).grown g hbase ?_) (fun hc=>by rw[h4] at hc;simp at hc)
  intro k hk;exact (hown.lt k hk).1
def inB (c:Int) (l:List UInt8):Bool:=l.any fun b=>(b.toNat:Int)==c
def jR (n:Nat):List UInt8:=if n<10 then [UInt8.ofNat (48+n)] else jR (n / 10)++[UInt8.ofNat (48+n % 10)]
theorem sj {n:Nat} (h:n<10):jR n=[UInt8.ofNat (48+n)]:=by rw[jR,if_pos h]
theorem EH {n:Nat} (h:¬n<10):jR n=jR (n / 10)++[UInt8.ofNat (48+n % 10)]:=by rw[jR,if_neg h]
theorem Ih (n:Nat):(jR n).length≤n+1:=by
 induction n using Nat.strongRecOn with
 | ind n ih =>
 by_cases h:n<10
 ·rw[sj h];simp
 ·rw[EH h];have:=ih (n / 10) (by omega);simp;omega
def iM (l:List UInt8):Int:=l.foldl (fun v b=>v*10+((b.toNat:Int)-48)) 0
def gJ (b:UInt8):Bool:=decide (48≤(b.toNat:Int))&&decide ((b.toNat:Int)≤57)
def oF (l:List UInt8):Bool:=l.all gJ&&!l.isEmpty&&decide (l.length≤3)&&!(l.head?==some 48&&!(l==[48]))
def aH (l:List UInt8):Int:=if oF l then iM l else -1
theorem G8 (l:List UInt8) (b:UInt8):iM (l++[b])=iM l*10+((b.toNat:Int)-48):=by simp[iM]
theorem KW {s:ByteArray} {k:Nat} (h:k<s.size) (h1:¬(48≤(s[k].toNat:Int)∧(s[k].toNat:Int)≤57)):aH s.data.toList = -1:=by
 unfold aH;rw[if_neg];intro hc;simp only[oF,Bool.and_eq_true,List.all_eq_true] at hc;have:=hc.1.1.1 s[k] (by rw[show s[k]=s.data.toList[k]'(by simpa using h) from rfl];exact List.getElem_mem _)
 simp[gJ] at this;omega
theorem l6 (s:ByteArray):s.data.toList.length=s.size:=by simp
theorem nilS {s:ByteArray} (h:s.size=0):s.data.toList=[]:=List.eq_nil_of_length_eq_zero (by rw[l6,h])
theorem Gt {s:ByteArray} (h:¬s.size=0):s.data.toList.isEmpty=false:=by
 have:=l6 s
 cases hl:s.data.toList with
 | nil=>rw[hl] at this;exact absurd this.symm h
 | cons=>rfl
theorem JQ {s:ByteArray} (h:s.size=0):aH s.data.toList = -1:=by
 rw[nilS h];rfl
theorem IL {s:ByteArray} (hp:0<s.size) (hz:((s[0].toNat:Int)==48)=true) (h:(s.toList==[48])=false):aH s.data.toList = -1:=by
 rw[ByteArray.toList_eq] at h;have hh:s.data.toList.head? = some 48:=by
  rw[List.head?_eq_getElem?,List.getElem?_eq_getElem (by simpa using hp)]
  have e:s.data.toList[0]'(by simpa using hp)=s[0]:=rfl
  rw[e];congr 1;apply UInt8.toNat_inj.1;have:=eq_of_beq hz;have e2:(48:UInt8).toNat=48:=rfl;omega
 unfold aH oF;rw[if_neg];rw[hh,h];simp
theorem Cv {s:ByteArray} (hp:0<s.size) (h3:¬3<s.size) (ha:s.data.toList.all gJ=true) (h:((s[0].toNat:Int)==48)=false∨(s.toList==[48])=true):oF s.data.toList=true:=by
 unfold oF;rw[ha];have e1:s.data.toList.isEmpty=false:=Gt (by omega)
 have e2:decide (s.data.toList.length≤3)=true:=by rw[l6];simp;omega
 rw[e1,e2];rcases h with h|h
 ·have hh:(s.data.toList.head?==some 48)=false:=by
   rw[List.head?_eq_getElem?,List.getElem?_eq_getElem (by simpa using hp)]
   have e:s.data.toList[0]'(by simpa using hp)=s[0]:=rfl
   rw[e];simp;intro hc;rw[hc] at h;simp at h
  rw[hh];rfl
 ·rw[ByteArray.toList_eq] at h;rw[h];simp
theorem Hy {s:ByteArray} {k:Nat} (h:k<s.size) (h0:(s.data.toList.take k).all gJ=true) (h1:48≤(s[k].toNat:Int)) (h2:(s[k].toNat:Int)≤57):(s.data.toList.take (k+1)).all gJ=true:=by
 rw[uH s k h];simp only[List.all_append,h0,List.all_cons,List.all_nil,gJ];simp;omega
def aj (l:List UInt8) (a b:Int):Bool:=decide (a≤aH l)&&decide (aH l≤b)
theorem ext1 (s:ByteArray) (k:Nat) (h:k<s.size):(s.extract k (k+1)).data.toList=[s[k]]:=by
 have e:s.data.toList[k]'(by simpa using h)=s[k]:=rfl
 simp[ByteArray.data_extract,Array.toList_extract,List.extract];rw[List.drop_eq_getElem_cons (by simpa using h)]
 simp[e]
def gAt (l:List UInt8) (n:Int) (i:Nat):Bool:=decide (0≤aH [l.getD i 0])&&decide (aH [l.getD i 0]<n)&&(List.range i).all fun j=>!(l.getD i 0==l.getD j 0)
def gTo (l:List UInt8) (n:Int) (k:Nat):Bool:=(List.range k).all (gAt l n)
def aQ (l:List UInt8) (n:Int):Bool:=gTo l n l.length&&(l.length==3||l.length==5)
theorem Il (l:List UInt8) (n:Int) (k:Nat):gTo l n (k+1)=(gTo l n k&&gAt l n k):=by simp[gTo,List.range_succ]
theorem FJ {l:List UInt8} {n:Int} {k:Nat} (hk:k<l.length) (h:gAt l n k=false):aQ l n=false:=by
 have:gTo l n l.length=false:=by
  unfold gTo;rw[List.all_eq_false];exact⟨k,by simpa using hk,by simp[h]⟩
 simp[aQ,this]
theorem atS {s:ByteArray} {k:Nat} (h:k<s.size):s.data.toList.getD k 0=s[k]:=by
 have e:s.data.toList[k]'(by simpa using h)=s[k]:=rfl
 rw[← e];simp[List.getD,List.getElem?_eq_getElem (show k<s.data.toList.length by simpa using h)]
theorem FH {s:ByteArray} {n:Int} {k:Nat} (h:k<s.size) (h1:aH [s[k]]<0∨n≤aH [s[k]]):gAt s.data.toList n k=false:=by
 unfold gAt;rw[atS h];rcases h1 with h1|h1
 ·rw[decide_eq_false (by omega)];simp
 ·rw[decide_eq_false (p:=aH [s[k]]<n) (by omega)];simp
theorem FI {s:ByteArray} {n:Int} {k j:Nat} (h:k<s.size) (hj:j<k) (h1:((s[k].toNat:Int)==(s[j]'(by omega)).toNat)=true):gAt s.data.toList n k=false:=by
 unfold gAt;have h2:s[k]=s[j]'(by omega):=UInt8.toNat_inj.1 (by have:=eq_of_beq h1;omega)
 have:((List.range k).all fun j=>!(s.data.toList.getD k 0==s.data.toList.getD j 0))=false:=by
  rw[List.all_eq_false];exact⟨j,by simpa using hj,by rw[atS h,atS (show j<s.size by omega),h2];simp⟩
 rw[this];simp
theorem Tryz.infoStr:(Tryz.prog.info? 9).map (fun i=>(i.zero,i.size,i.bytes))=some (some (Z Ze),1,16):=by kernel_rfl
def gy (s:ByteArray) (c:Int):Nat→List ByteArray×Nat
 | 0=>([],0)
 | k+1=>if h:k<s.size then (if ((s[k].toNat:Int)==c)=true then ((gy s c k).1++[s.extract (gy s c k).2 k],k+1) else gy s c k) else gy s c k
def bX (s:ByteArray) (c:Int):List ByteArray:=(gy s c s.size).1++[s.extract (gy s c s.size).2 s.size]
theorem Fw {s:ByteArray} {c:Int} {k:Nat} (h:k<s.size) (h1:((s[k].toNat:Int)==c)=true):gy s c (k+1)=((gy s c k).1++[s.extract (gy s c k).2 k],k+1):=by
 rw[gy,dif_pos h,if_pos h1]
theorem H9 {s:ByteArray} {c:Int} {k:Nat} (h:k<s.size) (h1:((s[k].toNat:Int)==c)=false):gy s c (k+1)=gy s c k:=by
 rw[gy,dif_pos h,if_neg (by simp[h1])]
theorem xg (s:ByteArray) (c:Int) (k:Nat):(gy s c k).2≤k∧(gy s c k).1.length≤k:=by
 induction k with
 | zero=>simp[gy]
 | succ k ih=>unfold gy;split <;> (try split) <;> (try simp) <;> omega
def Rd (w:World) (size:Nat) (v:Value) (n:Nat) (xs:List Value):Prop :=
 xs.length=n*size∧((v=Y O 0 0∧n=0)∨∃ b off cap,v=Y (some ⟨b,off,O⟩) n cap∧n≤cap∧cap≤maxLen∧b<w.heap.size∧∀ j u,xs[j]? = some u→w.cell? ⟨b,off+j,O⟩=some u)
theorem Rd.form {w:World} {size:Nat} {v:Value} {n:Nat} {xs:List Value} (h:Rd w size v n xs) :
  ∃ a cap,v=Y a n cap∧n≤cap∧cap≤maxLen∧(0<n→∃ b off,a=some ⟨b,off,O⟩∧b<w.heap.size∧∀ j u,xs[j]? = some u→w.cell? ⟨b,off+j,O⟩=some u):=by
 obtain⟨_,h⟩:=h
 rcases h with ⟨rfl,rfl⟩|⟨b,off,cap,rfl,h1,h2,h3,h4⟩
 ·exact⟨O,0,rfl,Nat.le_refl _,by unfold maxLen;omega,fun h=>absurd h (by omega)⟩
 ·exact⟨_,cap,rfl,h1,h2,fun _=>⟨b,off,rfl,h3,h4⟩⟩
theorem Rd.bK {w:World} {base:Nat} {e:TypeId} {size:Nat} {v:Value} {n:Nat} {xs:List Value} (h:w.ownsRow base e size v n xs):Rd w size v n xs:=by
 refine⟨h.1,?_⟩
 rcases h.2 with h2|⟨g,cap,cur,rfl,hb,hg,hn,hm,hc,ht⟩
 ·exact .inl h2
 ·refine .inr ⟨g,0,cap,rfl,hn,hm,lt_of_block hg,?_⟩;intro j u hj;have:=h.cells rfl j u hj
  have hplain:(⟨g,0,O⟩:Addr).add j=⟨g,0+j,O⟩:=by unfold Addr.add;split <;> simp_all
  rwa [hplain] at this
theorem Rd.keep {w w':World} {size:Nat} {v:Value} {n:Nat} {xs:List Value} (h:Rd w size v n xs) (hs:w.heap.size≤w'.heap.size) (hk:∀ b,v.ownBlock=some b→b<w.heap.size→w'.heap[b]? = w.heap[b]?):Rd w' size v n xs:=by
 refine⟨h.1,?_⟩
 rcases h.2 with h2|⟨b,off,cap,rfl,h1,h2,h3,h4⟩
 ·exact .inl h2
 ·exact .inr ⟨b,off,cap,rfl,h1,h2,by omega,fun j u hj=>(World.cell?_of_block (hk b rfl h3)).trans (h4 j u hj)⟩
theorem Rd.below {w w':World} {size:Nat} {v:Value} {n:Nat} {xs:List Value} (h:Rd w size v n xs) (hb:Below w.heap.size w w'):Rd w' size v n xs :=
 h.keep hb.size fun b _ hb2=>hb.block b hb2
def Strs (w:World) (v:Value) (l:List ByteArray):Prop:=Rd w 1 v l.length (l.map Value.string)
theorem Strs.below {w w':World} {v:Value} {l:List ByteArray} (h:Strs w v l) (hb:Below w.heap.size w w'):Strs w' v l:=Rd.below h hb
def iw (l:List ByteArray) (c:ByteArray):Nat→ByteArray
 | 0=>Ze
 | k+1=>(if 0<k then iw l c k++c else iw l c k)++l.getD k Ze
def xG (l:List ByteArray) (c:ByteArray):ByteArray:=iw l c l.length
theorem Strs.get {w:World} {a:Option Addr} {n cap:Nat} {l:List ByteArray} (h:Strs w (Y a n cap) l) (k:Nat) (hk:k<l.length) :
  ∃ b off,a=some ⟨b,off,O⟩∧b<w.heap.size∧w.cell? ⟨b,off+k,O⟩=some (Z l[k]):=by
 rcases h.2 with ⟨h1,h2⟩|⟨b,off,cap',h1,_,_,hb,hc⟩
 ·omega
 ·simp only[Value.slice.injEq] at h1;obtain⟨rfl,rfl,rfl⟩:=h1
  exact⟨b,off,rfl,hb,hc k _ (by simp[hk])⟩
theorem Strs.shape {w:World} {v:Value} {l:List ByteArray} (h:Strs w v l):∃ a cap,v=Y a l.length cap∧l.length≤cap∧cap≤9223372036854775807:=by
 obtain⟨a,cap,rfl,hn,hm,_⟩:=h.form
 exact⟨a,cap,rfl,hn,by unfold maxLen at hm;omega⟩
theorem Strs.bK {w:World} {base:Nat} {e:TypeId} {v:Value} {l:List ByteArray} (h:w.ownsRow base e 1 v l.length (l.map Value.string)):Strs w v l:=Rd.bK h
def opB (e:ByteArray):ByteArray:=(bX e 46).getD 2 Ze
def isR (e:ByteArray):Bool:=(opB e).data.toList.head?==some 114
def Le (l:List ByteArray):Nat:=(l.filter isR).length
def KQ (o:ByteArray):Prop:=2≤o.size∧(o.data.toList.getD 0 0≠114→o.data.toList.getD 0 0≠103→o.data.toList.getD 0 0≠112→o.data.toList.getD 0 0≠100→o.size=4)
def Ak (e:ByteArray):Prop:=e.size≤100000000∧2<(bX e 46).length∧KQ (opB e)
def b0 (o:ByteArray):Int:=(o.data.toList.getD 0 0).toNat
def b1 (o:ByteArray):Int:=(o.data.toList.getD 1 0).toNat
def BJ (log:List ByteArray) (key:Int):Nat→ByteArray
 | 0=>⟨#[]⟩
 | n+1 =>
  let o:=opB (log.getD n Ze)
  if b1 o != key||b0 o==114||b0 o==103 then BJ log key n
  else if b0 o==112 then o.extract 2 o.size
  else if b0 o==100 then ⟨#[]⟩
  else if (BJ log key n).toList==(o.extract 2 3).toList then o.extract 3 o.size else BJ log key n
theorem Kn {o:ByteArray} (h:0<o.size):b0 o=(o[0].toNat:Int):=by unfold b0;rw[atS h]
theorem Ko {o:ByteArray} (h:1<o.size):b1 o=(o[1].toNat:Int):=by unfold b1;rw[atS h]
variable {X:List Nat}
structure He (l:List ByteArray):Prop where
 len:l.length≤10
 eg:∀ e∈l,Ak e
 es:∀ e∈l,e.size≤400
 er:∀ e∈l,isR e=true→(opB e).size≤6
def LET:ByteArray:=⟨#[97,98,99,100,101,102,103,104,105,106,107,108,109,110,111,112,113,114,115,116,117,118,119,120,121,122]⟩
def LETD:ByteArray:=⟨#[97,98,99,100,101,102,103,104,105,106,107,108,109,110,111,112,113,114,115,116,117,118,119,120,121,122,48,49,50,51,52,53,54,55,56,57]⟩
def DEC:ByteArray:=⟨#[48,49,50,51,52,53,54,55,56,57]⟩
def isLet (b:UInt8):Bool:=inB b.toNat LET.data.toList
def isVal (b:UInt8):Bool:=inB b.toNat LETD.data.toList
def fM (b:UInt8):Nat:=if b=103 then 2 else if b=100 then 2 else if b=112 then 3 else if b=99 then 4 else 0
def opTo (l:List UInt8) (i:Nat):Bool:=isLet (l.getD 1 0)&&((l.take i).drop 2).all isVal
def dh (l:List UInt8):Bool:=decide (2≤l.length)&&!(fM (l.getD 0 0)==0)&&(opTo l l.length&&l.length==fM (l.getD 0 0))
theorem hd1 (s:ByteArray) (h:0<s.size) (x:UInt8):((s.extract 0 1).toList==[x])=(s[0]==x):=by
 rw[ByteArray.toList_eq,ext1 s 0 h];simp
theorem DL {s:ByteArray} (h:s.size<2):dh s.data.toList=false:=by
 unfold dh;rw[l6,decide_eq_false (by omega)];rfl
theorem Dv (s:ByteArray) (c:Int) (k:Nat):∀ p∈(gy s c k).1,p.size≤s.size:=by
 induction k with
 | zero=>simp[gy]
 | succ k ih =>
  unfold gy;split
  ·split
   ·intro p hp;rcases List.mem_append.1 hp with hp|hp
    ·exact ih p hp
    ·simp at hp;subst hp;simp;omega
   ·exact ih
  ·exact ih
theorem kN (s:ByteArray) (c:Int):∀ p∈bX s c,p.size≤s.size:=by
 intro p hp;rcases List.mem_append.1 hp with hp|hp
 ·exact Dv s c _ p hp
 ·simp at hp;subst hp;simp
theorem BQ (s:ByteArray) (c:Int):(bX s c).length≤s.size+1:=by
 unfold bX;have:=xg s c s.size;simp;omega
theorem drop1 (s:ByteArray):(s.extract 1 s.size).data.toList=s.data.toList.drop 1:=by
 simp[ByteArray.data_extract,Array.toList_extract,List.extract];rw[List.take_of_length_le (by simp)]
def lD (l:List UInt8) (n:Int):Bool:=if l.head? = some 114 then aQ (l.drop 1) n else dh l
def zI (ps:List ByteArray) (n:Int):Bool :=
 match ps with
 | [p0,p1,p2]=>aj p0.data.toList 1 9&&aj p1.data.toList 1 999&&lD p2.data.toList n
 | _=>false
def dw (s:ByteArray) (n:Int):Bool:=zI (bX s 46) n
theorem Fz {ps:List ByteArray} {n:Int} (h:¬ps.length=3):zI ps n=false:=by
 unfold zI;split
 ·simp at h
 ·rfl
theorem Io {s:ByteArray} (h:0<s.size):s.data.toList.head? = some s[0]:=by
 rw[List.head?_eq_getElem?,List.getElem?_eq_getElem (by simpa using h)];rfl
theorem Km {s:ByteArray} {n:Int} (h:0<s.size) (h1:((s[0].toNat:Int)==114)=true):lD s.data.toList n=aQ (s.extract 1 s.size).data.toList n:=by
 unfold lD;rw[Io h,drop1,if_pos]
 congr 1;apply UInt8.toNat_inj.1;have:=eq_of_beq h1;have e2:(114:UInt8).toNat=114:=rfl;omega
theorem ask_o {s:ByteArray} {n:Int} (h:0<s.size) (h1:((s[0].toNat:Int)==114)=false):lD s.data.toList n=dh s.data.toList:=by
 unfold lD;rw[Io h,if_neg];intro hc;rw[Option.some.injEq] at hc;rw[hc] at h1;simp at h1
def kG (s:ByteArray):List ByteArray:=if s.toList==[45] then [] else bX s 47
def bG (s:ByteArray) (n:Int):Bool:=if s.toList==[45] then true else (bX s 47).all (fun p=>dw p n)&&decide ((bX s 47).length≤10)
def aK (s:ByteArray) (n:Int):Bool:=(bX s 46).all (fun p=>aj p.data.toList 0 999)&&((bX s 46).length:Int)==n
def bytes (l:List UInt8):ByteArray:=⟨l.toArray⟩
def bI (s:ByteArray):ByteArray :=
 if s.toList==[113] then ⟨#[99,110,111]⟩ else if s.toList==[109] then ⟨#[99,110,118,119]⟩ else if s.toList==[112] then ⟨#[102,108,101,118,120,112,121]⟩
 else if s.toList==[107] then ⟨#[102,108,101,118,121]⟩ else if s.toList==[99] then ⟨#[102,108,101,118,121]⟩
 else if s.toList==[104] then ⟨#[102,108,101,118]⟩ else if s.toList==[103] then ⟨#[102,108,101,118]⟩ else if s.toList==[114] then ⟨#[102,108,101,118]⟩ else if s.toList==[116] then ⟨#[102,108,101,118]⟩
 else if s.toList==[118] then ⟨#[102,108,101,118,118,121,76]⟩ else if s.toList==[115] then ⟨#[102,108,101,118,103,104,121,76]⟩ else if s.toList==[97] then ⟨#[102,108,101,118,105,103,104,121,76]⟩
 else ⟨#[]⟩
def fF (l:List UInt8):Bool:=l.all (fun b=>inB b.toNat DEC.data.toList)&&(decide (1≤l.length)&&decide (l.length≤8))
def mg (s:ByteArray) (c n:Int) (ahead:ByteArray):Bool :=
 if c=99 then aj s.data.toList 1 9 else if c=110∨c=105 then aj s.data.toList 1 999 else if c=111 then dh s.data.toList
 else if c=119 then fF s.data.toList else if c=102 then aj s.data.toList 0 (n-1) else if c=108 then aK s n
 else if c=101∨c=121 then aj s.data.toList 0 10 else if c=118 then aj s.data.toList 0 999 else if c=120 then aj s.data.toList 1 10
 else if c=112 then dw s n else if c=103 then aQ s.data.toList n else if c=104 then aQ s.data.toList n||s.toList==[45]
 else bG s n&&decide (aH ahead.data.toList≤(kG s).length)
section
variable (s:ByteArray) (n:Int) (ahead:ByteArray) (w:World) (hs:s.size≤100000000)
end
def dU (ws:List ByteArray) (f:ByteArray) (n:Int) (k:Nat):Bool:=(List.range k).all fun j=>mg (ws.getD (j+1) Ze) (f.data.toList.getD j 0).toNat n (ws.getD j Ze)
def aU (s:ByteArray) (n:Int):List ByteArray :=
 if 400<s.size then [] else
 let ws:=bX s 32
 let f:=bI (ws.getD 0 Ze)
 if f.size=0 then [] else if ws.length≠f.size+1 then [] else if dU ws f n f.size then ws else []
theorem eB {x:Int} (h1 : -9223372036854775808≤x) (h2:x≤9223372036854775807):IntKind.i64.wrap x=x:=by
 rw[IntKind.wrap_i64];omega
theorem iL {B:Nat} {w w':World} (h:Below B w.drew w'):Below B w w':=(Below.refl _ w).drew.trans h
theorem bH {w w':World} {base:Nat} {e:TypeId} {size:Nat} {v:Value} {n:Nat} {xs:List Value} (h:w.ownsRow base e size v n xs) (hb:Below w.heap.size w w'):w'.ownsRow base e size v n xs :=
 h.kept (row:=O) ⟨hb.os,hb.tape,hb.output,hb.size,fun k hk _=>hb.block k hk⟩ (by cases hv:v.ownBlock <;> simp)
theorem jH {l:List UInt8} {n:Int} (h:aQ l n=true):l.length=3∨l.length=5:=by
 unfold aQ at h;simp at h;exact h.2
theorem rE {e:ByteArray} {n:Int} (h:dw e n=true) (hs:e.size≤400):Ak e∧(isR e=true→(opB e).size≤6):=by
 unfold dw zI at h
 split at h
 ·rename_i p0 p1 p2 hc;have ho:opB e=p2:=by unfold opB;rw[hc];rfl
  simp only[Bool.and_eq_true] at h;have h3:=h.2;have hl:p2.size=p2.data.toList.length:=by simp
  unfold lD at h3;refine⟨⟨by omega,by rw[hc];simp,?_⟩,?_⟩
  ·rw[ho]
   split at h3
   ·rename_i hh;have:=jH h3
    rw[List.length_drop] at this;refine⟨by omega,fun h1=>?_⟩
    exfalso;apply h1
    rw[List.head?_eq_getElem?] at hh;rw[List.getD,hh];rfl
   ·unfold dh at h3;simp only[Bool.and_eq_true,decide_eq_true_eq,Bool.not_eq_true',beq_eq_false_iff_ne,beq_iff_eq] at h3;refine⟨by omega,fun h1 h2 h4 h5=>?_⟩
    have hw:=h3.1.2;have hq:=h3.2.2;unfold fM at hw hq;rw[if_neg h2,if_neg h5,if_neg h4] at hw hq
    split at hw
    ·rename_i h6;rw[if_pos h6] at hq;omega
    ·simp at hw
  ·intro hr;rw[ho];unfold isR at hr;rw[ho] at hr;have hh:p2.data.toList.head? = some 114:=by simpa using hr
   rw[if_pos hh] at h3;have:=jH h3
   rw[List.length_drop] at this;omega
 ·simp at h
theorem tX {s:ByteArray} {n:Int} (h:bG s n=true) (hs:s.size≤400):He (kG s):=by
 unfold bG at h;unfold kG
 split at h
 ·rename_i hd;rw[if_pos hd];exact⟨Nat.zero_le _,by simp,by simp,by simp⟩
 ·rename_i hd;rw[if_neg hd];simp only[Bool.and_eq_true,decide_eq_true_eq,List.all_eq_true] at h;have hz:∀ e∈bX s 47,e.size≤400:=fun e he=>Nat.le_trans (kN s 47 e he) hs
  exact⟨h.2,fun e he=>(rE (h.1 e he) (hz e he)).1,hz,fun e he=>(rE (h.1 e he) (hz e he)).2⟩
theorem dM {l:List UInt8} {a b:Int} (h:aj l a b=true):a≤aH l∧aH l≤b:=by
 unfold aj at h;simpa using h
theorem qD {s:ByteArray} {n:Int} (h:aU s n≠[]):s.size≤400∧aU s n=bX s 32∧0<(bI ((bX s 32).getD 0 Ze)).size∧(bX s 32).length=(bI ((bX s 32).getD 0 Ze)).size+1 ∧
  ∀ k,k<(bI ((bX s 32).getD 0 Ze)).size→mg ((bX s 32).getD (k+1) Ze) ((bI ((bX s 32).getD 0 Ze)).data.toList.getD k 0).toNat n ((bX s 32).getD k Ze)=true:=by
 unfold aU at h ⊢
 split at h
 ·exact absurd rfl h
 ·rename_i h4;rw[if_neg h4];dsimp only at h ⊢
  split at h
  ·exact absurd rfl h
  ·rename_i h5;rw[if_neg h5]
   split at h
   ·exact absurd rfl h
   ·rename_i h6;rw[if_neg h6]
    split at h
    ·rename_i h7;rw[if_pos h7];refine⟨by omega,rfl,by omega,by simpa using h6,fun k hk=>?_⟩
     unfold dU at h7;rw[List.all_eq_true] at h7;exact h7 k (by simpa using hk)
    ·exact absurd rfl h
structure Sd where
 w:List ByteArray
 kind:ByteArray
 frm:Int
 lives:List Int
 epoch:Int
 view:Int
 commit:Int
 log:List ByteArray
structure Nd where
 id:Int
 n:Int
 lives:List Int
 status:Int
 epoch:Int
 view:Int
 normal:Int
 group:ByteArray
 old:ByteArray
 log:List ByteArray
 commit:Int
 acks:List Int
 votes:List Sd
 answers:List Sd
 begun:ByteArray
def Ints (w:World) (v:Value) (l:List Int):Prop:=Rd w 1 v l.length (l.map (Value.int .i64))
theorem Ints.below {w w':World} {v:Value} {l:List Int} (h:Ints w v l) (hb:Below w.heap.size w w'):Ints w' v l:=Rd.below h hb
theorem Ints.get {w:World} {a:Option Addr} {n cap:Nat} {l:List Int} (h:Ints w (Y a n cap) l) (k:Nat) (hk:k<l.length) :
  ∃ b off,a=some ⟨b,off,O⟩∧b<w.heap.size∧w.cell? ⟨b,off+k,O⟩=some (I J l[k]):=by
 rcases h.2 with ⟨h1,h2⟩|⟨b,off,cap',h1,_,_,hb,hc⟩
 ·omega
 ·simp only[Value.slice.injEq] at h1;obtain⟨rfl,rfl,rfl⟩:=h1
  exact⟨b,off,rfl,hb,hc k _ (by simp[hk])⟩
theorem Ints.shape {w:World} {v:Value} {l:List Int} (h:Ints w v l):∃ a cap,v=Y a l.length cap∧l.length≤cap∧cap≤9223372036854775807:=by
 obtain⟨a,cap,rfl,hn,hm,_⟩:=h.form
 exact⟨a,cap,rfl,hn,by unfold maxLen at hm;omega⟩
variable {X:List Nat}
structure KR (m:Sd):Prop where
 len:6<m.w.length
 k1:aH (m.w.getD 5 Ze).data.toList≤10
 eg:Ak (m.w.getD 6 Ze)
 es:(m.w.getD 6 Ze).size≤400
 er:isR (m.w.getD 6 Ze)=true→(opB (m.w.getD 6 Ze)).size≤6
 sz:∀ t∈m.w,t.size≤400
variable {X:List Nat}
structure Ho (m:Sd) (j:Nat):Prop where
 len:j+1<m.w.length
 e0:0≤m.epoch
 e1:m.epoch≤10
 v0:0≤m.view
 v1:m.view≤999
 g0:0<(m.w.getD j Ze).size
 g1:(m.w.getD j Ze).size≤5
 o1:(m.w.getD (j+1) Ze).size≤5
 log:He m.log
 c0:0≤m.commit
 c1:m.commit≤m.log.length
variable {X:List Nat}
def nmB (s:Sd):Int:=aH (s.w.getD 5 Ze).data.toList
def l5 (k:ByteArray):Bool:=k.toList==[112]||k.toList==[99]||k.toList==[118]||k.toList==[115]||k.toList==[97]
def Dg (ws:List ByteArray) (f:ByteArray):Nat→Int
 | 0=>0
 | k+1=>if (((f.data.toList.getD k 0).toNat:Int)==121)=true then aH (ws.getD (k+1) Ze).data.toList else Dg ws f k
def KO (ws:List ByteArray) (f:ByteArray):Nat→List ByteArray
 | 0=>[]
 | k+1=>if (((f.data.toList.getD k 0).toNat:Int)==76)=true then kG (ws.getD (k+1) Ze) else KO ws f k
def dN (s:ByteArray):List Int:=(bX s 46).map fun p=>aH p.data.toList
def gI (ws:List ByteArray):Sd :=
  ⟨ws,ws.getD 0 Ze,aH (ws.getD 1 Ze).data.toList,dN (ws.getD 2 Ze),aH (ws.getD 3 Ze).data.toList,aH (ws.getD 4 Ze).data.toList,
   if l5 (ws.getD 0 Ze) then Dg ws (bI (ws.getD 0 Ze)) (bI (ws.getD 0 Ze)).size else 0,
   if l5 (ws.getD 0 Ze) then KO ws (bI (ws.getD 0 Ze)) (bI (ws.getD 0 Ze)).size else []⟩
structure KU (n:Int) (m:Sd):Prop where
 sz:∀ x∈m.w,x.size≤100000000
 f0:0≤m.frm
 f1:m.frm<n
 ll:(m.lives.length:Int)=n
 lv:∀ x∈m.lives,0≤x∧x≤999
 e0:0≤m.epoch
 e1:m.epoch≤10
 v0:0≤m.view
 v1:m.view≤999
 c0:0≤m.commit
 c1:m.commit≤10
 log:He m.log
 le:∀ e∈m.log,dw e n=true
structure KV (m:Sd):Prop where
 len:5<m.w.length
 n0:0≤nmB m
 n1:nmB m≤999
 cl:m.commit≤m.log.length
structure KP (n:Int) (m:Sd):Prop where
 len:4<m.w.length
 w1:(m.w.getD 1 Ze).size=1
 p:m.kind.toList=[112]→KR m∧dw (m.w.getD 6 Ze) n=true∧1≤aH (m.w.getD 5 Ze).data.toList
 k:m.kind.toList=[107]→5<m.w.length∧0≤nmB m∧nmB m≤10
 v:m.kind.toList=[118]→KV m
 s:m.kind.toList=[115]→Ho m 5∧aQ (m.w.getD 5 Ze).data.toList n=true∧(aQ (m.w.getD 6 Ze).data.toList n=true∨(m.w.getD 6 Ze).toList=[45])
 a:m.kind.toList=[97]→Ho m 6∧aQ (m.w.getD 6 Ze).data.toList n=true∧(aQ (m.w.getD 7 Ze).data.toList n=true∨(m.w.getD 7 Ze).toList=[45])∧1≤nmB m∧nmB m≤999
theorem num1 {l:List UInt8} {n:Int} (h0:0≤aH l) (h1:aH l≤n) (hn:n≤9):l.length=1:=by
 unfold aH at h0 h1
 split at h0
 ·rename_i hk;rw[if_pos hk] at h1;unfold oF at hk;simp only[Bool.and_eq_true,Bool.not_eq_true',decide_eq_true_eq,List.all_eq_true] at hk;obtain⟨⟨⟨h2,h3⟩,h4⟩,h5⟩:=hk
  match l,h2,h3,h4,h5,h1 with
  | [],_,h3,_,_,_=>simp at h3
  | [_],_,_,_,_,_=>rfl
  | [a,b],h2,_,_,h5,h1 =>
   exfalso
   have ha:=h2 a (by simp)
   have hb:=h2 b (by simp)
   simp[gJ] at ha hb;have:a.toNat≠48:=by
    intro hc;have:a=48:=by apply UInt8.toNat_inj.1;rw[hc];rfl
    subst this;simp at h5
   simp[iM] at h1;omega
  | [a,b,c],h2,_,_,h5,h1 =>
   exfalso
   have ha:=h2 a (by simp)
   have hb:=h2 b (by simp)
   have hc:=h2 c (by simp)
   simp[gJ] at ha hb hc;have:a.toNat≠48:=by
    intro hc;have:a=48:=by apply UInt8.toNat_inj.1;rw[hc];rfl
    subst this;simp at h5
   simp[iM] at h1;omega
  | _ :: _ :: _ :: _ :: _,_,_,h4,_,_=>simp at h4
 ·omega
theorem lH {s:ByteArray} {n:Int} (h:aQ s.data.toList n=true):0<s.size∧s.size≤5:=by
 have h1:=jH h;have hl:s.size=s.data.toList.length:=by simp
 omega
theorem bytes_inj {a b:ByteArray} (h:a.data.toList=b.data.toList):a=b:=by
 obtain⟨⟨a⟩⟩:=a
 obtain⟨⟨b⟩⟩:=b
 have h2:a=b:=h
 rw[h2]
theorem Ig (n:Nat):∀ b∈jR n,48≤b.toNat∧b.toNat≤57:=by
 induction n using Nat.strongRecOn with
 | _ n ih =>
  intro b hb;unfold jR at hb
  split at hb
  ·rw[List.mem_singleton] at hb;subst hb;rename_i h;rw[UInt8.toNat_ofNat'];omega
  ·rename_i h;rcases List.mem_append.1 hb with hb|hb
   ·exact ih (n / 10) (by omega) b hb
   ·rw[List.mem_singleton] at hb;subst hb;rw[UInt8.toNat_ofNat'];omega
theorem Ai {a:UInt8} {n:Nat} (h:a.toNat=n):UInt8.ofNat n=a:=by
 apply UInt8.toNat_inj.1;rw[UInt8.toNat_ofNat'];have:=a.toNat_lt;omega
theorem Ib {n:Nat} (h:n<10):jR n=[UInt8.ofNat (48+n)]:=by unfold jR;rw[if_pos h]
theorem Ic {n:Nat} (h:¬n<10):jR n=jR (n / 10)++[UInt8.ofNat (48+n % 10)]:=by rw[jR];rw[if_neg h]
theorem Dw {l:List UInt8} (h:0≤aH l):jR (aH l).toNat=l:=by
 unfold aH at h ⊢
 split at h
 ·rename_i hk;rw[if_pos hk];unfold oF at hk;simp only[Bool.and_eq_true,Bool.not_eq_true',decide_eq_true_eq,List.all_eq_true] at hk;obtain⟨⟨⟨h2,h3⟩,h4⟩,h5⟩:=hk
  match l,h2,h3,h4,h5 with
  | [],_,h3,_,_=>simp at h3
  | [a],h2,_,_,_ =>
   have ha:=h2 a (by simp)
   simp[gJ] at ha;have e:(iM [a]).toNat=a.toNat-48:=by simp[iM];omega
   rw[e,Ib (by omega),Ai (a:=a) (by omega)]
  | [a,b],h2,_,_,h5 =>
   have ha:=h2 a (by simp)
   have hb:=h2 b (by simp)
   simp[gJ] at ha hb;have hz:a.toNat≠48:=by
    intro hc;have:a=48:=by apply UInt8.toNat_inj.1;rw[hc];rfl
    subst this;simp at h5
   have e:(iM [a,b]).toNat=(a.toNat-48)*10+(b.toNat-48):=by simp[iM];omega
   rw[e,Ic (by omega),Ib (by omega),Ai (a:=a) (by omega),Ai (a:=b) (by omega)];rfl
  | [a,b,c],h2,_,_,h5 =>
   have ha:=h2 a (by simp)
   have hb:=h2 b (by simp)
   have hc:=h2 c (by simp)
   simp[gJ] at ha hb hc;have hz:a.toNat≠48:=by
    intro hc;have:a=48:=by apply UInt8.toNat_inj.1;rw[hc];rfl
    subst this;simp at h5
   have e:(iM [a,b,c]).toNat=(a.toNat-48)*100+(b.toNat-48)*10+(c.toNat-48):=by simp[iM];omega
   rw[e,Ic (by omega),Ic (by omega),Ib (by omega),Ai (a:=a) (by omega),Ai (a:=b) (by omega),Ai (a:=c) (by omega)];rfl
  | _ :: _ :: _ :: _ :: _,_,_,h4,_=>simp at h4
 ·omega
theorem JN {l:List UInt8} (h:0≤aH l) {c:UInt8} (hc:c.toNat<48∨57<c.toNat):c∉l:=by
 intro hm;rw[← Dw h] at hm;have:=Ig _ c hm
 omega
theorem pz {l:List UInt8} {n:Int} (h:aQ l n=true) (k:Nat) (hk:k<l.length):0≤aH [l.getD k 0]∧aH [l.getD k 0]<n:=by
 unfold aQ gTo at h;simp only[Bool.and_eq_true,List.all_eq_true] at h;have:=h.1 k (by simpa using hk)
 unfold gAt at this;simp only[Bool.and_eq_true,decide_eq_true_eq] at this;exact this.1
theorem Ip {l:List UInt8} {n:Int} (h:aQ l n=true) {c:UInt8} (hc:c.toNat<48∨57<c.toNat):c∉l:=by
 intro hm;obtain⟨k,hk,rfl⟩:=List.mem_iff_getElem.1 hm
 have:=pz h k hk
 have e:l.getD k 0=l[k]:=by simp[List.getD,hk]
 rw[e] at this;exact absurd (List.mem_singleton.2 rfl) (JN this.1 hc)
def dg (x:Int):ByteArray:=⟨(jR x.toNat).toArray⟩
theorem mh (l:List ByteArray) (c:ByteArray) (M:Nat) (h:∀ t∈l,t.size≤M) (k:Nat):(iw l c k).size≤k*(M+c.size):=by
 induction k with
 | zero=>simp[iw]
 | succ k ih =>
  have hg:(l.getD k Ze).size≤M:=by
   by_cases hk:k<l.length
   ·have e:l.getD k Ze=l[k]:=by simp[List.getD,hk]
    rw[e];exact h _ (List.getElem_mem _)
   ·have e:l.getD k Ze=Ze:=by rw[List.getD,List.getElem?_eq_none (by omega)];rfl
    rw[e];exact Nat.zero_le _
  have e2:(k+1)*(M+c.size)=k*(M+c.size)+(M+c.size):=by rw[Nat.add_mul,Nat.one_mul]
  unfold iw
  split <;> simp only[ByteArray.size_append] <;> omega
def SP:ByteArray:=⟨#[32]⟩
def DOT:ByteArray:=⟨#[46]⟩
def SLASH:ByteArray:=⟨#[47]⟩
def kr (l:List Int):ByteArray:=xG (l.map dg) DOT
def KL (N:Nd) (kind:ByteArray):ByteArray:=kind++SP++dg N.id++SP++kr N.lives++SP++dg N.epoch++SP++dg N.view
theorem qP {α β:Type} {l:List α} {f:α→β} {k:Nat} (h:k<l.length):(l.take (k+1)).map f=(l.take k).map f++[f l[k]]:=by
 rw[List.take_succ_eq_append_getElem h,List.map_append];rfl
def OKb:ByteArray:=⟨#[111,107]⟩
def NOb:ByteArray:=⟨#[110,111]⟩
def oI:ByteArray:=⟨#[45]⟩
def J4 (log:List ByteArray) (k:Nat):ByteArray :=
 let o:=opB (log.getD k Ze)
 let v:=BJ log (b1 o) k
 if b0 o==114 then OKb else if b0 o==103 then (if v.toList.isEmpty then oI else v) else if b0 o==100 then (if v.toList.isEmpty then oI else OKb)
 else if b0 o==99 then (if v.toList==(o.extract 2 3).toList then OKb else NOb) else OKb
def Iw (l:List ByteArray):ByteArray:=if l.length=0 then oI else xG l SLASH
def Lu (N:Nd):ByteArray:=SP++dg N.commit++SP++Iw N.log
def oldB (o:ByteArray):ByteArray:=if o.toList.isEmpty then oI else o
def JH (N:Nd):ByteArray:=SP++N.group++SP++oldB N.old
def KS:ByteArray:=⟨#[115]⟩
def Jr (N:Nd):ByteArray:=KL N KS++JH N++Lu N
def ofB (g:ByteArray) (q:Int):Bool:=inB (48+q) g.data.toList
theorem dg1 (q:Int) (h0:0≤q) (h1:q<10):∃ h:0<(dg q).size,((dg q)[0].toNat:Int)=48+q:=by
 have e:dg q=⟨#[UInt8.ofNat (48+q.toNat)]⟩:=by unfold dg;rw[sj (by omega)]
 rw[e];refine⟨by show 0<1;omega,?_⟩
 show ((UInt8.ofNat (48+q.toNat)).toNat:Int)=48+q
 rw[UInt8.toNat_ofNat_of_lt' (by show 48+q.toNat<256;omega)];omega
def CO (g:ByteArray) (v:Nat):Int:=aH [g.data.toList.getD (v % g.size) 0]
def K8 (N:Nd):Bool:=CO N.group N.view.toNat==N.id
theorem Hz {P:Program} {ops:Array Oper} {rest:List Oper} {o:Oper} {a:Act} {Q:Exit→Act→World→Prop} (hgd:o.guard=O) (s x:Operand) (t:TypeId)
  (ho:o.op=.call { callee:=.builtin .append,args:=#[s,x],argTypes:=#[t,t] })
  (base:Nat) (e:TypeId) (i:TypeInfo) (z:Value) (size bytes:Nat) (ht:P.underlying t=some (.slice e)) (hi:P.info? e=some i) (hz:i.zero=some z)
  (hsize:i.size=size) (hby:i.bytes=bytes) (hzs:z.cells.size=size) (hsz:0<size)
  (w:World) (v:Value) (n:Nat) (xs:List Value) (hs:a.eval s=v) (hown:w.ownsRow base e size v n xs)
  (vx:Value) (m:Nat) (news:List Value) (hx:a.eval x=vx) (hrd:Rd w size vx m news) (h1:∀ u∈news,u.oneCell'=true)
  (hn:n≤1000000000) (hm:m≤1000000000) (hby2:bytes≤1000) (hbase:base≤w.heap.size)
  (h:∀ v' w',w'.ownsRow base e size v' (n+m) (xs++news)→w.grownBy w' v.ownBlock→Below base w w'→wpList P ops Q rest (a.put o.dst v') w') :
  wpList P ops Q (o :: rest) a w:=by
 rcases hrd.2 with ⟨rfl,rfl⟩|⟨b,off,cap,rfl,h2,h3,h4,h5⟩
 ·have hnil:news=[]:=List.eq_nil_of_length_eq_zero (by have:=hrd.1;omega)
  subst hnil;refine wpList_append_own_none hgd s x t ho base e i size ht hi v n xs hs hown hx ?_;exact h v w (by simpa using hown) ⟨rfl,rfl,rfl,Nat.le_refl _,fun _ _ _=>rfl⟩ (Below.refl _ _)
 ·refine wpList_append_own _ hgd s x t ho base e i z size bytes ht hi hz hsize hby hzs hsz v n xs hs hown ⟨b,off,O⟩ m cap news hx hrd.1 ?_ h1 (by unfold maxLen;omega) ?_ hbase ?_
  ·intro j u hj;have hplain:(⟨b,off,O⟩:Addr).add j=⟨b,off+j,O⟩:=by unfold Addr.add;split <;> simp_all
   rw[hplain];exact h5 j u hj
  ·have:(n+m)*bytes≤2000000000*1000:=Nat.mul_le_mul (by omega) hby2
   omega
  ·intro v' w' k2 k3 _;exact h v' w' k2 k3 ((Below.refl _ w).grown k3 hbase (fun k hk=>(hown.lt k hk).1))
theorem Tryz.infoOut:(Tryz.prog.info? 36).map (fun i=>(i.zero,i.size,i.bytes))=some (some (.agg #[I J 0,Z Ze]),2,24):=by kernel_rfl
def gL (l:List (Int×ByteArray)):List Value:=l.flatMap fun o=>[I J o.1,Z o.2]
def lq (w:World) (base:Nat) (v:Value) (l:List (Int×ByteArray)):Prop:=w.ownsRow base 36 2 v l.length (gL l)
theorem lq.below {w w':World} {base:Nat} {v:Value} {l:List (Int×ByteArray)} (h:lq w base v l) (hb:Below w.heap.size w w'):lq w' base v l:=bH h hb
theorem lq.nil (w:World) (base:Nat):lq w base (Y O 0 0) []:=World.ownsRow_nil _ _ _ _
def yw (id:Int) (g t:ByteArray):Nat→List (Int×ByteArray)
 | 0=>[]
 | k+1=>if (CO g k==id)=true then yw id g t k else yw id g t k++[(CO g k,t)]
def Bg (id:Int) (g t:ByteArray):List (Int×ByteArray):=yw id g t g.size
def KG:ByteArray:=⟨#[103]⟩
variable {X:List Nat}
structure Kp (S:List Nat) (w w':World):Prop where
 os:w'.os=w.os
 tape:w'.tape=w.tape
 output:w'.output=w.output
 size:w.heap.size≤w'.heap.size
 block:∀ k,k<w.heap.size→k∉S→w'.heap[k]? = w.heap[k]?
theorem sub3 {b bl ba:Nat} {X:List Nat}:∀ x∈[b,bl,ba],x∈b :: bl :: ba :: X:=by
 intro x hx;simp at hx;rcases hx with h|h|h <;> simp[h]
theorem Kp.refl (S:List Nat) (w:World):Kp S w w:=⟨rfl,rfl,rfl,Nat.le_refl _,fun _ _ _=>rfl⟩
theorem Kp.of_below {S:List Nat} {w w':World} (h:Below w.heap.size w w'):Kp S w w':=⟨h.os,h.tape,h.output,h.size,fun k hk _=>h.block k hk⟩
theorem Kp.trans {S S':List Nat} {a b c:World} (h:Kp S a b) (k:Kp S' b c) (hs:∀ x∈S',x<a.heap.size→x∈S):Kp S a c :=
 ⟨k.os.trans h.os,k.tape.trans h.tape,k.output.trans h.output,Nat.le_trans h.size k.size,fun x hx hn =>
  (k.block x (Nat.lt_of_lt_of_le hx h.size) (fun hc=>hn (hs x hc hx))).trans (h.block x hx hn)⟩
theorem Kp.trans' {S:List Nat} {a b c:World} (h:Kp S a b) (k:Kp S b c):Kp S a c:=h.trans k (fun _ hx _=>hx)
theorem Kp.aF {S:List Nat} {a b c:World} (h:Kp S a b) (k:Below b.heap.size b c):Kp S a c:=h.trans' (Kp.of_below k)
theorem Kp.set {S:List Nat} {a w:World} (h:Kp S a w) (g j:Nat) (v:Value) (hg:g∈S∨a.heap.size≤g):Kp S a (w.setCell ⟨g,j,O⟩ v):=by
 refine⟨h.os,h.tape,h.output,by have:=h.size;simp[World.setCell];exact this,fun k hk hn=>?_⟩
 have hne:k≠g:=by
  rcases hg with hg|hg
  ·intro hc;exact hn (hc▸hg)
  ·omega
 rw[Below.heap_setCell w ⟨g,j,O⟩ v k hne];exact h.block k hk hn
theorem Kp.alloc {S:List Nat} {a w:World} (h:Kp S a w) (o:Obj):Kp S a (w.alloc o) :=
 h.aF ((Below.refl _ w).alloc (Nat.le_refl _) o)
def Fr (S:List Nat) (v:Value):Prop:=∀ k,v.ownBlock=some k→k∉S
theorem Fr.nil (S:List Nat) (n c:Nat):Fr S (Y O n c):=by intro k hk;simp[Value.ownBlock] at hk
theorem Rd.lt {w:World} {size:Nat} {v:Value} {n:Nat} {xs:List Value} (h:Rd w size v n xs):∀ k,v.ownBlock=some k→k<w.heap.size:=by
 intro k hk;rcases h.2 with ⟨rfl,_⟩|⟨b,off,cap,rfl,_,_,hb,_⟩
 ·simp[Value.ownBlock] at hk
 ·simp[Value.ownBlock] at hk;subst hk;exact hb
theorem Rd.kp {w w':World} {size:Nat} {v:Value} {n:Nat} {xs:List Value} {S S':List Nat} (h:Rd w size v n xs) (k:Kp S w w') (hf:Fr S' v) (hsub:∀ x∈S,x∈S':=by first|exact fun _ h=>h|exact sub3|(intro x hx;simp at hx;simp[hx])):Rd w' size v n xs :=
 h.keep k.size fun b hb hlt=>k.block b hlt (fun hc=>hf b hb (hsub b hc))
theorem Strs.kp {w w':World} {v:Value} {l:List ByteArray} {S S':List Nat} (h:Strs w v l) (k:Kp S w w') (hf:Fr S' v) (hsub:∀ x∈S,x∈S':=by first|exact fun _ h=>h|exact sub3|(intro x hx;simp at hx;simp[hx])):Strs w' v l:=Rd.kp h k hf hsub
theorem Ints.kp {w w':World} {v:Value} {l:List Int} {S S':List Nat} (h:Ints w v l) (k:Kp S w w') (hf:Fr S' v) (hsub:∀ x∈S,x∈S':=by first|exact fun _ h=>h|exact sub3|(intro x hx;simp at hx;simp[hx])):Ints w' v l:=Rd.kp h k hf hsub
theorem Fr.swap {w:World} {size:Nat} {v:Value} {n:Nat} {xs:List Value} {S S':List Nat} (h:Rd w size v n xs) (hf:Fr S v) (hs:∀ x∈S',x∈S∨w.heap.size≤x):Fr S' v:=by
 intro k hk hc;rcases hs k hc with hx|hx
 ·exact hf k hk hx
 ·have:=h.lt k hk;omega
def mU (w:World) (v:Value) (g:Nat) (l:List Int):Prop:=w.ownsRow 0 3 1 v l.length (l.map (Value.int .i64))∧∃ cap,v=Y (some ⟨g,0,Option.none⟩) l.length cap
theorem mU.kp {w w':World} {v:Value} {g:Nat} {l:List Int} {S:List Nat} (h:mU w v g l) (k:Kp S w w') (hg:g∉S):mU w' v g l:=by
 obtain⟨h1,cap,rfl⟩:=h
 refine⟨⟨h1.1,?_⟩,cap,rfl⟩
 rcases h1.2 with ⟨h2,_⟩|⟨g',cap',cur,e,q1,q2,q3⟩
 ·simp at h2
 ·simp at e;obtain⟨rfl,rfl⟩:=e
  exact .inr ⟨g,cap,cur,rfl,q1,(k.block g (lt_of_block q2) hg).trans q2,q3⟩
theorem mU.lt {w:World} {v:Value} {g:Nat} {l:List Int} (h:mU w v g l):g<w.heap.size:=by
 obtain⟨h1,cap,rfl⟩:=h;exact (h1.lt g rfl).2
theorem mU.rd {w:World} {v:Value} {g:Nat} {l:List Int} (h:mU w v g l):Ints w v l:=Rd.bK h.1
theorem mU.put {w:World} {v:Value} {g:Nat} {l:List Int} (h:mU w v g l) (j:Nat) (x:Int):mU (w.setCell ⟨g,j,Option.none⟩ (I J x)) v g (l.set j x):=by
 obtain⟨h1,cap,rfl⟩:=h
 refine⟨?_,cap,by simp⟩
 have:=h1.stored j (I J x)
 rw[List.length_set,List.map_set];exact this.1
theorem mU.frozen {w:World} {v:Value} {g:Nat} {l:List Int} (h:mU w v g l) (j:Nat):w.frozen? ⟨g,j,Option.none⟩=false:=by
 obtain⟨h1,cap,rfl⟩:=h;exact h1.frozenAt j
variable {X:List Nat}
theorem Tryz.infoInt:(Tryz.prog.info? 3).map (fun i=>(i.zero,i.size,i.bytes))=some (some (I J 0),1,8):=by kernel_rfl
def bZ (n:Nat):List Int:=List.replicate n 0
def iB (n:Nat):Array Value:=((bZ n).map (Value.int .i64)).toArray
theorem Ei (n:Nat):madeCells (I J 0).cells (n*1)=iB n:=by
 apply Array.ext
 ·simp[size_madeCells,iB,bZ]
 ·intro i h1 h2;have e:(I J 0).cells=#[I J 0]:=rfl
  simp[madeCells,iB,bZ,e,Nat.mod_one]
theorem zT (n:Int) (h0:0≤n) (h1:n≤1000000) (W:World) :
  (Instr.makeSlice 44 (I J n) (I J n)).run Tryz.prog W=.ok (Y (some ⟨W.heap.size,0,O⟩) n.toNat n.toNat) (W.alloc (.cells (iB n.toNat) 3)):=by
 obtain⟨i0,hi,hz0,hz1,hz2⟩:=info_parts Tryz.infoInt
 rw[run_make W 44 3 i0 (I J 0) Tryz.underlying44 hi hz0 .i64 .i64 n n h0 (Int.le_refl _) (by rw[hz2];omega) (by omega),hz1]
 rw[Ei]
theorem zY (w:World) (n:Nat) (hn:n≤1000000):mU (w.alloc (.cells (iB n) 3)) (Y (some ⟨w.heap.size,0,O⟩) n n) w.heap.size (bZ n):=by
 have hl:(bZ n).length=n:=by simp[bZ]
 refine⟨⟨by simp,.inr ⟨w.heap.size,n,iB n,by rw[hl],Nat.zero_le _,heap_alloc_new _ _,by rw[hl];exact Nat.le_refl _,by unfold maxLen;omega,by simp[iB,hl],?_⟩⟩,n,by rw[hl]⟩
 simp[iB,hl];exact List.take_of_length_le (by simp[hl])
def JC (N:Nd):Nd:={ N with acks:=bZ N.n.toNat,votes:=[] }
variable {X:List Nat}
def YS:ByteArray:=⟨#[121,32]⟩
def Li (log:List ByteArray) (k:Nat):Int×ByteArray :=
 let p:=bX (log.getD k Ze) 46
 (-(aH (p.getD 0 Ze).data.toList),YS++p.getD 0 Ze++SP++p.getD 1 Ze++SP++J4 log k)
def KT:ByteArray:=⟨#[116]⟩
def turnA (N:Nd) (g:ByteArray):Nd:={ N with old:=N.group,group:=g,epoch:=N.epoch+1,view:=0,normal:=0,begun:=⟨#[]⟩ }
def Dl (N:Nd) (g:ByteArray):Nd:=JC (turnA N g)
def Kc (N:Nd) (g:ByteArray):Nd:=if ofB g N.id then Dl N g else { Dl N g with status:=5 }
def Ke (N:Nd) (g:ByteArray):List (Int×ByteArray) :=
 if ofB g N.id then Bg N.id g (Jr (Dl N g))++Bg N.id N.group (KL (Dl N g) KT) else Bg N.id g (Jr (Dl N g))
variable {X:List Nat}
def wV (w:World) (b j:Nat):Int:=match w.cell? ⟨b,j,O⟩ with
 | some (.int _ n)=>n
 | _=>0
def wc (N:Nd) (c:Int):Nd:={ N with commit:=c }
def replN (N:Nd) (k:Nat):List (Int×ByteArray):=if K8 N&&N.status==1 then [Li N.log k] else []
def Kg (N:Nd) (k:Nat):Bool:=isR (N.log.getD k Ze)&&decide (N.epoch<(Le (N.log.take (k+1)):Int))
def KE (N:Nd) (k:Nat):ByteArray:=(opB (N.log.getD k Ze)).extract 1 (opB (N.log.getD k Ze)).size
def Av (N:Nd):Nat→List (Int×ByteArray)
 | 0=>[]
 | i+1=>Av N i++replN N (N.commit.toNat+i)
def Kt (N:Nd):Nat→Nat→Nd×List (Int×ByteArray)
 | 0,i=>(wc N (N.commit+i),Av N i)
 | f+1,i=>if Kg N (N.commit.toNat+i) then (Kc (wc N (N.commit+i+1)) (KE N (N.commit.toNat+i)),Av N (i+1)++Ke (wc N (N.commit+i+1)) (KE N (N.commit.toNat+i))) else Kt N f (i+1)
def Ia (N:Nd) (c:Int):Nd×List (Int×ByteArray):=Kt N (c-N.commit).toNat 0
theorem yO (n:Nat):(bZ n).length=n:=by simp[bZ]
section
open Go.Shelf
def Tryz.laysItoa_ren:Go.Shelf.Ren:=⟨fun|171=>122|243=>156|246=>168|283=>176|284=>177|285=>178|286=>179|129=>183|317=>182|318=>184|319=>185|320=>186|337=>187|338=>188|n=>n,fun|3=>3|9=>9|2=>2|4=>4|171=>148|0=>0|53=>149|37=>100|5=>5|173=>152|212=>156|51=>157|20=>20|213=>158|46=>159|232=>162|233=>163|n=>n,fun|17=>0|18=>1|19=>2|n=>n⟩
theorem Tryz.laysItoa:Go.Proofs.LaysM.n171 Tryz.prog Tryz.laysItoa_ren where
 mixed:=by kernel_rfl
 f129:=Tryz.func183.trans (congrArg some (by kernel_rfl))
 f171:=Tryz.func122.trans (congrArg some (by kernel_rfl))
 f243:=Tryz.func156.trans (congrArg some (by kernel_rfl))
 f246:=Tryz.func168.trans (congrArg some (by kernel_rfl))
 f283:=Tryz.func176.trans (congrArg some (by kernel_rfl))
 f284:=Tryz.func177.trans (congrArg some (by kernel_rfl))
 f285:=Tryz.func178.trans (congrArg some (by kernel_rfl))
 f286:=Tryz.func179.trans (congrArg some (by kernel_rfl))
 f317:=Tryz.func182.trans (congrArg some (by kernel_rfl))
 f318:=Tryz.func184.trans (congrArg some (by kernel_rfl))
 f319:=Tryz.func185.trans (congrArg some (by kernel_rfl))
 f320:=Tryz.func186.trans (congrArg some (by kernel_rfl))
 f337:=Tryz.func187.trans (congrArg some (by kernel_rfl))
 f338:=Tryz.func188.trans (congrArg some (by kernel_rfl))
 t0:=Tryz.underlying0
 a0:=Tryz.isAgg0
 z0:=Tryz.sizeOf0
 v0:=Tryz.zeroValue0
 t2:=Tryz.underlying2
 a2:=Tryz.isAgg2
 z2:=Tryz.sizeOf2
 v2:=Tryz.zeroValue2
 t3:=Tryz.underlying3
 a3:=Tryz.isAgg3
 z3:=Tryz.sizeOf3
 v3:=Tryz.zeroValue3
 t4:=Tryz.underlying4
 a4:=Tryz.isAgg4
 z4:=Tryz.sizeOf4
 v4:=Tryz.zeroValue4
 t5:=Tryz.underlying5
 a5:=Tryz.isAgg5
 z5:=Tryz.sizeOf5
 v5:=Tryz.zeroValue5
 t9:=Tryz.underlying9
 a9:=Tryz.isAgg9
 z9:=Tryz.sizeOf9
 v9:=Tryz.zeroValue9
 t20:=Tryz.underlying20
 a20:=Tryz.isAgg20
 z20:=Tryz.sizeOf20
 v20:=Tryz.zeroValue20
 t37:=Tryz.underlying100
 a37:=Tryz.isAgg100
 z37:=Tryz.sizeOf100
 v37:=Tryz.zeroValue100
 t46:=Tryz.underlying159
 a46:=Tryz.isAgg159
 z46:=Tryz.sizeOf159
 v46:=Tryz.zeroValue159
 t51:=Tryz.underlying157
 a51:=Tryz.isAgg157
 z51:=Tryz.sizeOf157
 v51:=Tryz.zeroValue157
 t53:=Tryz.underlying149
 a53:=Tryz.isAgg149
 z53:=Tryz.sizeOf149
 v53:=Tryz.zeroValue149
 t171:=Tryz.underlying148
 a171:=Tryz.isAgg148
 z171:=Tryz.sizeOf148
 v171:=Tryz.zeroValue148
 t173:=Tryz.underlying152
 a173:=Tryz.isAgg152
 z173:=Tryz.sizeOf152
 v173:=Tryz.zeroValue152
 t212:=Tryz.underlying156
 a212:=Tryz.isAgg156
 z212:=Tryz.sizeOf156
 v212:=Tryz.zeroValue156
 t213:=Tryz.underlying158
 a213:=Tryz.isAgg158
 z213:=Tryz.sizeOf158
 t232:=Tryz.underlying162
 a232:=Tryz.isAgg162
 z232:=Tryz.sizeOf162
 v232:=Tryz.zeroValue162
 t233:=Tryz.underlying163
 a233:=Tryz.isAgg163
 z233:=Tryz.sizeOf163
 v233:=Tryz.zeroValue163
 g17:=by kernel_rfl
 g18:=by kernel_rfl
 g19:=by kernel_rfl
 i0:=by kernel_rfl
 i2:=by kernel_rfl
 i3:=by kernel_rfl
 i4:=by kernel_rfl
 i5:=by kernel_rfl
 i9:=by kernel_rfl
 i20:=by kernel_rfl
 i37:=by kernel_rfl
 i46:=by kernel_rfl
 i51:=by kernel_rfl
 i53:=by kernel_rfl
 i171:=by kernel_rfl
 i173:=by kernel_rfl
 i212:=by kernel_rfl
 i232:=by kernel_rfl
 i233:=by kernel_rfl
 m17:=by kernel_rfl
 m18:=by kernel_rfl
 m19:=by kernel_rfl
theorem Tryz.gTab:Tryz.prog.globalNamed "internal/strconv.uint64pow10" = some 0:=by kernel_rfl
def Tab (w:World):Prop:=Lib.TabIs Tryz.prog w "internal/strconv.uint64pow10" .u64 Lib.pow10Tab
theorem Tab.lt {w:World} (h:Tab w):0<w.heap.size:=by
 unfold Tab Lib.TabIs World.var? at h;rw[Tryz.gTab] at h;simp only[Option.bind_some] at h;rcases Nat.lt_or_ge 0 w.heap.size with h'|h'
 ·exact h'
 ·rw[Array.getElem?_eq_none h'] at h;cases h
theorem Tab.kp {S:List Nat} {w w':World} (h:Tab w) (k:Kp S w w') (hS:0∉S):Tab w':=by
 have hl:=h.lt;unfold Tab Lib.TabIs World.var? at h ⊢;rw[Tryz.gTab] at h ⊢;simp only[Option.bind_some] at h ⊢;rw[k.block 0 hl hS];exact h
theorem Tab.below {w w':World} (h:Tab w) (k:Below w.heap.size w w'):Tab w':=h.kp (Kp.of_below (S:=[]) k) (by simp)
theorem Ie (u:Nat):Lib.decDigits u=jR u:=by
 induction u using Nat.strongRecOn with
 | _ u ih =>
  unfold Lib.decDigits jR;by_cases h:u<10
  ·rw[dif_pos h,if_pos h]
  ·rw[dif_neg h,if_neg h,ih (u / 10) (by omega)]
theorem gT (n:Int) (w:World) (hT:Tab w) (h0:0≤n) (h1:n≤9223372036854775807):Calls Tryz.prog 122 #[I J n] w fun e w'=>e=Zr (Z (dg n))∧Below w.heap.size w w':=by
 refine (Any.strconv_Itoa Tryz.laysItoa n (by omega) h1 w hT).mono ?_
 rintro e w' ⟨rfl,k,os,rfl⟩;refine⟨?_,?_⟩
 ·unfold dg Lib.itoa;rw[if_neg (by omega),Ie]
 ·exact Lib.below_grow _ w (Nat.le_refl _) k os
end
theorem Dp (l:List UInt8) (h:l.all gJ=true):0≤iM l:=by
 unfold iM
 suffices ∀ (l:List UInt8) (x:Int),l.all gJ=true→0≤x→x≤l.foldl (fun v b=>v*10+((b.toNat:Int)-48)) x by
  exact this l 0 h (Int.le_refl _)
 intro l
 induction l with
 | nil=>intro x _ _;exact Int.le_refl _
 | cons a l ih =>
  intro x hl hx;simp only[List.all_cons,Bool.and_eq_true] at hl;have ha:=hl.1;unfold gJ at ha;simp only[Bool.and_eq_true,decide_eq_true_eq] at ha;rw[List.foldl_cons];have:=ih (x*10+((a.toNat:Int)-48)) hl.2 (by omega)
  omega
theorem G7 (l:List UInt8) (h:l.all gJ=true) (x:Int) (hx:0≤x):x≤l.foldl (fun v b=>v*10+((b.toNat:Int)-48)) x:=by
 induction l generalizing x with
 | nil=>exact Int.le_refl _
 | cons a l ih =>
  simp only[List.all_cons,Bool.and_eq_true] at h;have ha:=h.1;unfold gJ at ha;simp only[Bool.and_eq_true,decide_eq_true_eq] at ha;rw[List.foldl_cons];have:=ih h.2 (x*10+((a.toNat:Int)-48)) (by omega)
  omega
theorem Dq (l r:List UInt8) (hl:l.all gJ=true) (hr:r.all gJ=true):iM l≤iM (l++r):=by
 have h0:=Dp l hl;unfold iM at h0 ⊢;rw[List.foldl_append];exact G7 r hr _ h0
theorem uJ {l:List UInt8} {a b:Int} (h:aH l = -1) (ha:0≤a):aj l a b=false:=by
 unfold aj;rw[h];simp;omega
theorem IK {s:ByteArray} {k:Nat} {a b:Int} (h0:(s.data.toList.take k).all gJ=true) (hv:b<iM (s.data.toList.take k)) (ha:0≤a):aj s.data.toList a b=false:=by
 by_cases ho:oF s.data.toList=true
 ·have hall:s.data.toList.all gJ=true:=by
   unfold oF at ho;simp only[Bool.and_eq_true] at ho;exact ho.1.1.1
  have e:aH s.data.toList=iM s.data.toList:=by unfold aH;rw[if_pos ho]
  have hd:(s.data.toList.drop k).all gJ=true:=by
   rw[List.all_eq_true] at hall ⊢;exact fun x hx=>hall x (List.mem_of_mem_drop hx)
  have:=Dq _ _ h0 hd
  rw[List.take_append_drop] at this;unfold aj;rw[e];simp;omega
 ·refine uJ ?_ ha;unfold aH;rw[if_neg ho]
theorem four {l:List UInt8} (h:3<l.length):∃ a b c d r,l=a :: b :: c :: d :: r:=by
 match l,h with
 | a :: b :: c :: d :: r,_=>exact⟨a,b,c,d,r,rfl⟩
 | [],h=>simp at h
 | [_],h=>simp at h
 | [_,_],h=>simp at h
 | [_,_,_],h=>simp at h
theorem JO {s:ByteArray} (hp:0<s.size) (hz:s.size≤1∨((s[0].toNat:Int)==48)=false) (ha:s.data.toList.all gJ=true) (hv:iM s.data.toList≤999):oF s.data.toList=true:=by
 have hl:=l6 s;have h3:¬3<s.size:=by
  intro h4;rcases hz with hz|hz
  ·omega
  ·obtain⟨a,b,c,d,r,hL⟩:=four (l:=s.data.toList) (by omega)
   have e0:s.data.toList[0]? = some s[0]:=List.getElem?_eq_getElem (by omega)
   rw[hL] at e0 ha hv;simp only[List.getElem?_cons_zero,Option.some.injEq] at e0;rw[← e0] at hz;simp only[List.all_cons,Bool.and_eq_true] at ha;obtain⟨h1,h2,h3,h5,h6⟩:=ha
   have k1:=h1;have k2:=h2;have k3:=h3;have k5:=h5;unfold gJ at h1 h2 h3 h5;simp only[Bool.and_eq_true,decide_eq_true_eq] at h1 h2 h3 h5;have hz':(a.toNat:Int)≠48:=by simpa using hz
   have:=Dq [a,b,c,d] r (by simp[k1,k2,k3,k5]) h6
   have e:iM [a,b,c,d]=((((a.toNat:Int)-48)*10+((b.toNat:Int)-48))*10+((c.toNat:Int)-48))*10+((d.toNat:Int)-48):=by simp[iM]
   simp only[List.cons_append,List.nil_append] at this;omega
 cases h48:(s.toList==[48])
 ·refine Cv hp h3 ha (.inl ?_);rcases hz with hz|hz
  ·have hs1:s.size=1:=by omega
   by_cases hq:((s[0].toNat:Int)==48)=true
   ·exfalso
    have:s.toList=[48]:=by
     rw[ByteArray.toList_eq];have e0:s.data.toList=[s[0]]:=by
      have e2:s.data.toList[0]? = some s[0]:=List.getElem?_eq_getElem (by omega)
      have e3:s.data.toList.length=1:=by omega
      obtain⟨x,hx⟩:=List.length_eq_one_iff.1 e3
      rw[hx] at e2 ⊢;simp at e2;rw[e2]
     have:s[0]=48:=by
      have hq2:(s[0].toNat:Int)=48:=by simpa using hq
      apply UInt8.toNat_inj.1;show s[0].toNat=48;omega
     rw[e0,this]
    rw[this] at h48;exact absurd h48 (by decide)
   ·simpa using hq
  ·exact hz
 ·exact Cv hp h3 ha (.inr h48)
theorem qj (s:ByteArray) (c:Int) (w:World) (hs:s.size≤1000000000) :
  Calls Tryz.prog 40 #[Z s,I .u8 c] w fun e w'=>∃ v,e=Zr v∧w'.ownsRow w.heap.size 9 1 v (bX s c).length ((bX s c).map Value.string)∧Below w.heap.size w w':=by
 obtain⟨i0,hi,hz0,hz1,hz2⟩:=info_parts Tryz.infoStr
 unfold bX;go_enter Tryz.func40,Tryz.ntmps40;go_wp2_with fail;go_loopw [5,6,7] (fun v f i wr=>∃ k:Nat,k≤s.size∧i=I J k∧f=I J (gy s c k).2∧wr.ownsRow w.heap.size 9 1 v (gy s c k).1.length ((gy s c k).1.map Value.string)∧Below w.heap.size w wr)
  (fun _ _ i _=>s.size-(intOf i).toNat)
 case atStart=>exact⟨0,Nat.zero_le _,rfl,rfl,World.ownsRow_nil _ _ _ _,Below.refl _ _⟩
 case round =>
  obtain⟨k,hk,rfl,rfl,hown,hb⟩:=hrel
  have hle:=xg s c k;by_cases hlt:k<s.size
  ·cases h1:((s[k].toNat:Int)==c)
   ·have HH:Hid (gy s c (k+1)=gy s c k):=H9 hlt h1
    go_wp2_with fail;go_roundw
    case rel=>exact⟨k+1,by omega,by go_num,by rw[HH.out],by rw[HH.out];exact hown,hb⟩
    case measure=>simp[intOf];omega
   ·have HH:Hid (gy s c (k+1)=((gy s c k).1++[s.extract (gy s c k).2 k],k+1)):=Fw hlt h1
    generalize gy s c k=st at *;go_wp2_with (at_builtin;go_loud (refine app1 rfl _ _ 48 rfl w.heap.size 9 i0 (Z Ze) 1 16 Tryz.underlying48 hi hz0 hz1 hz2 rfl (by decide) wr _ _ _ (by rfl) hown 1 [Z (s.extract st.2 k)] (by rfl) rfl ?c2 (by omega) (by decide) hb.size ?_))
    case c2=>intro u hu;simp at hu;subst hu;rfl
    intro v' w1 hown' hg hb1 hnil;go_wp2_with fail;go_roundw
    case rel=>exact⟨k+1,by omega,by go_num,by rw[HH.out];go_num,by rw[HH.out];simpa using hown',hb.trans hb1⟩
    case measure=>simp[intOf];omega
  ·have hke:k=s.size:=by omega
   subst hke;generalize hst:gy s c s.size=st at *;have Hst:Hid (gy s c s.size=st):=hst
   clear hst;go_wp2_with (at_builtin;refine app1 rfl _ _ 48 rfl w.heap.size 9 i0 (Z Ze) 1 16 Tryz.underlying48 hi hz0 hz1 hz2 rfl (by decide) wr _ _ _ (by rfl) hown 1 [Z (s.extract st.2 s.size)] (by rfl) rfl ?c3 (by omega) (by decide) hb.size ?_)
   case c3=>intro u hu;simp at hu;subst hu;rfl
   intro v' w1 hown' hg hb1 hnil;go_wp2_with fail;go_ret;exact⟨v',rfl,by rw[Hst.out];simpa using hown',hb.trans hb1⟩
def ig (c:Int):Bool:=decide (48≤c)&&decide (c≤57)
def l8 (c:Int):Bool:=decide (97≤c)&&decide (c≤122)
theorem mD (c:Int) (w:World):Calls Tryz.prog 38 #[I .u8 c] w fun e w'=>e=Zr (.bool (ig c))∧w'=w:=by
 have HD:Hid (ig c=(decide (48≤c)&&decide (c≤57))):=rfl
 by_cases h1:48≤c
 ·by_cases h2:c≤57
  ·go_enter Tryz.func38,Tryz.ntmps38;go_wp2_with fail;go_ret;exact⟨aS (by rw[HD.out,decide_eq_true h1,decide_eq_true h2];rfl),rfl⟩
  ·go_enter Tryz.func38,Tryz.ntmps38;go_wp2_with fail;go_ret;exact⟨aS (by rw[HD.out,decide_eq_true h1,decide_eq_false (by omega)];rfl),rfl⟩
 ·go_enter Tryz.func38,Tryz.ntmps38;go_wp2_with fail;go_ret;exact⟨aS (by rw[HD.out,decide_eq_false (by omega)];rfl),rfl⟩
theorem sK (c:Int) (w:World):Calls Tryz.prog 166 #[I .u8 c] w fun e w'=>e=Zr (.bool (l8 c))∧w'=w:=by
 have HD:Hid (l8 c=(decide (97≤c)&&decide (c≤122))):=rfl
 by_cases h1:97≤c
 ·by_cases h2:c≤122
  ·go_enter Tryz.func166,Tryz.ntmps166;go_wp2_with fail;go_ret;exact⟨aS (by rw[HD.out,decide_eq_true h1,decide_eq_true h2];rfl),rfl⟩
  ·go_enter Tryz.func166,Tryz.ntmps166;go_wp2_with fail;go_ret;exact⟨aS (by rw[HD.out,decide_eq_true h1,decide_eq_false (by omega)];rfl),rfl⟩
 ·go_enter Tryz.func166,Tryz.ntmps166;go_wp2_with fail;go_ret;exact⟨aS (by rw[HD.out,decide_eq_false (by omega)];rfl),rfl⟩
theorem pJ (c:Int) (w:World):Calls Tryz.prog 167 #[I .u8 c] w fun e w'=>e=Zr (.bool (l8 c||ig c))∧w'=w:=by
 go_enter Tryz.func167,Tryz.ntmps167;go_wp2_with fail;refine (sK c _).mono ?_;rintro e w1 ⟨rfl,hw1⟩;subst hw1;cases h1:l8 c
 ·go_wp2_with fail;refine (mD c _).mono ?_;rintro e w2 ⟨rfl,hw2⟩;subst hw2;go_wp2_with fail;go_ret;exact⟨aS (by rw[h1];rfl),rfl⟩
 ·go_wp2_with fail;go_ret;exact⟨aS (by rw[h1];rfl),rfl⟩
def aC (s:ByteArray) (a b:Int):Int:=if aj s.data.toList a b then aH s.data.toList else 0
theorem nN (s:ByteArray) (a b:Int) (w:World) (hs:s.size≤maxLen) (ha:0≤a) (hb:b≤999) :
    Calls Tryz.prog 150 #[Z s,I J a,I J b] w fun e w'=>e=Zr (.tuple #[I J (aC s a b),.bool (aj s.data.toList a b)])∧w'=w:=by
  unfold maxLen at hs
  have HV0 : Hid (aj s.data.toList a b = false → aC s a b = 0) := fun q => by unfold aC; rw [q]; rfl
  have HV1 : Hid (aj s.data.toList a b = true → aC s a b = aH s.data.toList) := fun q => by unfold aC; rw [q]; rfl
  have HW:Hid (aj s.data.toList a b=(decide (a≤aH s.data.toList)&&decide (aH s.data.toList≤b))):=rfl
  have HNo:Hid (aH s.data.toList = -1→aj s.data.toList a b=false):=fun q=>uJ q ha
  have HOv:Hid (∀ k,(s.data.toList.take k).all gJ=true→b<iM (s.data.toList.take k)→aj s.data.toList a b=false):=fun k q r=>IK q r ha
  generalize aC s a b=nv at *
  by_cases h0:s.size=0
  · have q:=HNo.out (JQ h0)
    have HZ:Hid (aj s.data.toList a b=false):=q
    have HZ1:Hid (nv=0):=HV0.out q
    clear q
    generalize aj s.data.toList a b=wb at *
    go_enter Tryz.func150,Tryz.ntmps150
    go_wp2_with fail
    go_ret2
    exact ⟨by rw [HZ.out, HZ1.out]; rfl, rfl⟩
  have hp : 0 < s.size := by omega
  by_cases hz:1<s.size∧((s[0].toNat:Int)==48)=true
  · obtain⟨hz1,hz2⟩:=hz
    have h48:(s.toList==[48])=false:=by
      rw[beq_eq_false_iff_ne];intro hc
      have:=congrArg List.length hc
      rw[ByteArray.toList_eq,l6] at this
      simp at this;omega
    have q:=HNo.out (IL hp hz2 h48)
    have HZ:Hid (aj s.data.toList a b=false):=q
    have HZ1:Hid (nv=0):=HV0.out q
    clear q h48
    generalize aj s.data.toList a b=wb at *
    go_enter Tryz.func150,Tryz.ntmps150
    go_wp2_with fail
    go_ret2
    exact ⟨by rw [HZ.out, HZ1.out]; rfl, rfl⟩
  have hz':s.size≤1∨((s[0].toNat:Int)==48)=false:=by
    by_cases h1:1<s.size
    · right
      cases hq:((s[0].toNat:Int)==48)
      · rfl
      · exact absurd ⟨h1,hq⟩ hz
    · left;omega
  have HZ':Hid (s.size≤1∨((s[0].toNat:Int)==48)=false):=hz'
  clear hz
  by_cases h1:s.size≤1
  case' pos => have h1' : (s.size : Int) ≤ 1 := by omega
  case' neg =>
    have h1' : (1 : Int) < (s.size : Int) := by omega
    have hz0 : ((s[0].toNat : Int) == 48) = false := by rcases hz' with q | q; exact absurd q h1; exact q
  all_goals
    clear hz'
    go_enter Tryz.func150,Tryz.ntmps150
    go_upto_if 22 with fail
    go_cut [] from 10 (fun wr=>wr=w)
    case first =>
      go_wp2_with fail
      go_meet
      case rel=>rfl
    case rest =>
     subst hcut
     go_wp2_with fail
     go_loop [8,9] (fun v i=>∃ k:Nat,k≤s.size∧i=I J k∧v=I J (iM (s.data.toList.take k))∧(s.data.toList.take k).all gJ=true∧0≤iM (s.data.toList.take k)∧(iM (s.data.toList.take k)≤b∨k=0)) (fun _ i=>s.size-(intOf i).toNat)
     case atStart => exact ⟨0, Nat.zero_le _, rfl, rfl, by simp, Int.le_refl _, .inr rfl⟩
     case round =>
       obtain⟨k,hk,rfl,rfl,hd,hv0,hvb⟩:=hrel
       have HD:Hid ((s.data.toList.take k).all gJ=true):=hd
       have hv9 : iM (s.data.toList.take k) ≤ 999 := by rcases hvb with q | q; omega; (subst q; simp [iM])
       have HVb:Hid (iM (s.data.toList.take k)≤b∨k=0):=hvb
       clear hd hvb
       by_cases hlt:k<s.size
       · have hb5 : (s[k].toNat : Int) ≤ 255 := by have := s[k].toNat_lt; omega
         have HV : Hid (iM (s.data.toList.take (k + 1)) = iM (s.data.toList.take k) * 10 + ((s[k].toNat : Int) - 48)) := by rw [uH s k hlt]; exact G8 _ _
         have HA:Hid (48≤(s[k].toNat:Int)→(s[k].toNat:Int)≤57→(s.data.toList.take (k+1)).all gJ=true):=fun q r=>Hy hlt HD.out q r
         have HDi:Hid (∀ w,Calls Tryz.prog 38 #[I .u8 (s[k].toNat:Int)] w fun e w'=>e=Zr (.bool (ig (s[k].toNat:Int)))∧w'=w):=fun w=>mD _ w
         have HDd:Hid (ig (s[k].toNat:Int)=(decide (48≤(s[k].toNat:Int))&&decide ((s[k].toNat:Int)≤57))):=rfl
         have HBad:Hid (¬(48≤(s[k].toNat:Int)∧(s[k].toNat:Int)≤57)→aj s.data.toList a b=false):=fun q=>HNo.out (KW hlt q)
         generalize hvk:iM (s.data.toList.take k)=vk at *
         clear hvk
         go_wp2_with fail
         refine (HDi.out _).mono ?_
         rintro e w1 ⟨rfl,hw1⟩
         subst hw1
         by_cases hdg:48≤(s[k].toNat:Int)∧(s[k].toNat:Int)≤57
         · obtain⟨g1,g2⟩:=hdg
           have hdt : ig (s[k].toNat : Int) = true := by rw [HDd.out, decide_eq_true g1, decide_eq_true g2]; rfl
           have HA1:=HA.out g1 g2
           have HA2:Hid ((s.data.toList.take (k+1)).all gJ=true):=HA1
           clear HA1 HA
           generalize ig (s[k].toNat:Int)=dgk at *
           subst hdt
           by_cases hov:b<vk*10+((s[k].toNat:Int)-48)
           · have q := HOv.out (k + 1) HA2.out (by rw [HV.out]; exact hov)
             have HZ:Hid (aj s.data.toList a b=false):=q
             have HZ1:Hid (nv=0):=HV0.out q
             clear q
             go_wp2_with fail
             go_ret2
             exact ⟨by rw [HZ.out, HZ1.out]; rfl, rfl⟩
           · go_wp2_with fail
             go_round
             case rel => exact ⟨k + 1, by omega, by go_num, by rw [HV.out], HA2.out, by rw [HV.out]; omega, .inl (by rw [HV.out]; omega)⟩
             case measure=>simp[intOf];omega
         · have hdf:ig (s[k].toNat:Int)=false:=by
             rw[HDd.out];simp;omega
           have q:=HBad.out hdg
           have HZ:Hid (aj s.data.toList a b=false):=q
           have HZ1:Hid (nv=0):=HV0.out q
           clear q hdg
           generalize ig (s[k].toNat:Int)=dgk at *
           subst hdf
           go_wp2_with fail
           go_ret2
           exact ⟨by rw [HZ.out, HZ1.out]; rfl, rfl⟩
       · obtain rfl : k = s.size := by omega
         have ht : s.data.toList.take s.size = s.data.toList := List.take_of_length_le (by rw [l6]; exact Nat.le_refl _)
         rw[ht] at HD HVb hv0 hv9 ⊢
         have hok:=JO hp HZ'.out HD.out hv9
         have hnb : aH s.data.toList = iM s.data.toList := by unfold aH; rw [if_pos hok]
         have hle : iM s.data.toList ≤ b := by rcases HVb.out with q | q; exact q; omega
         rw[hnb] at HV1 HW
         clear hok hnb ht HNo HOv HD HVb
         generalize iM s.data.toList=vl at *
         by_cases hlo:vl<a
         · have q : aj s.data.toList a b = false := by rw [HW.out]; simp; omega
           have HZ:Hid (aj s.data.toList a b=false):=q
           have HZ1:Hid (nv=0):=HV0.out q
           clear q
           go_wp2_with fail
           go_ret2
           exact ⟨by rw [HZ.out, HZ1.out]; rfl, rfl⟩
         · have q : aj s.data.toList a b = true := by rw [HW.out]; simp; omega
           have HZ:Hid (aj s.data.toList a b=true):=q
           have HZ1:Hid (nv=vl):=HV1.out q
           clear q
           go_wp2_with fail
           go_ret2
           exact ⟨by rw [HZ.out, HZ1.out]; rfl, rfl⟩
theorem xZ (b:UInt8):aH [b]=if ig b.toNat=true then (b.toNat:Int)-48 else -1:=by
 unfold aH;have hk:oF [b]=ig b.toNat:=by
  unfold oF;have e:gJ b=ig b.toNat:=rfl
  by_cases h48:b=48
  ·subst h48;rfl
  ·simp[e]
 rw[hk]
 split
 ·simp[iM]
 ·rfl
theorem IJ {a b:UInt8} (h:aH [a]=aH [b]) (h0:0≤aH [a]):a=b:=by
 have h1:=Dw h0;have h2:=Dw (l:=[b]) (by omega)
 rw[h] at h1;rw[h1] at h2
 simpa using h2
def dW (s:ByteArray):List Int:=s.data.toList.map (fun b=>aH [b])
theorem jS (s:ByteArray):(dW s).length=s.size:=by unfold dW;rw[List.length_map,l6]
theorem AL (s:ByteArray) (k:Nat) (h:k<s.size):(dW s)[k]'(by rw[jS];exact h)=aH [s[k]]:=by
 simp only[dW,List.getElem_map];rfl
theorem FU (s:ByteArray) (k:Nat) (h:k<s.size):(dW s).take (k+1)=(dW s).take k++[aH [s[k]]]:=by
 rw[List.take_succ_eq_append_getElem (by rw[jS];exact h),AL s k h]
def bY (s:ByteArray) (n:Int):List Int:=if aQ s.data.toList n=true then dW s else []
theorem kH (v:Value) (l:List Int) (r:Int) (w:World) (hv:Ints w v l) (_hl:l.length≤1000000) :
  Calls Tryz.prog 39 #[v,I J r] w fun e w'=>e=Zr (.bool (l.any (fun x=>x==r)))∧w'=w:=by
 obtain⟨a,cap,rfl,_,_⟩:=hv.shape
 have HT:Hid (∀ k (hk:k<l.length),(l.take (k+1)).any (fun x=>x==r)=((l.take k).any (fun x=>x==r)||(l[k]==r))):=fun k hk=>by
  rw[List.take_succ_eq_append_getElem hk,List.any_append];simp
 have HF:Hid (l.any (fun x=>x==r)=(l.take l.length).any (fun x=>x==r)):=by unfold Hid;rw[List.take_length]
 have HY:Hid (∀ k (hk:k<l.length),(l[k]==r)=true→l.any (fun x=>x==r)=true):=fun k hk q=>List.any_eq_true.2 ⟨l[k],List.getElem_mem _,q⟩
 go_enter Tryz.func39,Tryz.ntmps39;go_wp2_with fail;go_loop [5] (fun i=>∃ k:Nat,k≤l.length∧i=I J k∧(l.take k).any (fun x=>x==r)=false) (fun i=>l.length-(intOf i).toNat)
 case atStart=>exact⟨0,Nat.zero_le _,rfl,by simp⟩
 case round =>
  obtain⟨k,hk,rfl,h0⟩:=hrel
  have H0:Hid ((l.take k).any (fun x=>x==r)=false):=h0
  clear h0;by_cases hlt:k<l.length
  ·obtain⟨b,o,rfl,_,c⟩:=hv.get k hlt
   have j1:(0:Int)≤(k:Int):=by omega
   have j2:(k:Int)<(l.length:Int):=by omega
   cases hq:(l[k]==r)
   ·go_wp2_with fail;go_round
    case rel=>exact⟨k+1,by omega,by go_num,by rw[HT.out k hlt,H0.out,hq];rfl⟩
    case measure=>simp[intOf];omega
   ·go_wp2_with fail;go_ret;exact⟨aS (HY.out k hlt hq).symm,rfl⟩
  ·obtain rfl:k=l.length:=by omega
   go_wp2_with fail;go_ret;exact⟨aS (by rw[HF.out,H0.out]),rfl⟩
theorem qh (s:ByteArray) (n:Int) (w:World) (hs:s.size≤maxLen) :
  Calls Tryz.prog 16 #[Z s,I J n] w fun e w'=>∃ v,e=Zr v∧w'.ownsRow w.heap.size 3 1 v (bY s n).length ((bY s n).map (Value.int .i64))∧(v=Y O 0 0↔aQ s.data.toList n=false)∧Below w.heap.size w w':=by
 obtain⟨i0,hi,hz0,hz1,hz2⟩:=info_parts Tryz.infoInt
 have HR0:Hid (aQ s.data.toList n=false→bY s n=[]):=fun q=>by unfold bY;rw[q];rfl
 have HR1:Hid (aQ s.data.toList n=true→bY s n=dW s):=fun q=>by unfold bY;rw[q];rfl
 have HNo:Hid (∀ W:World,aQ s.data.toList n=false→∃ v,Zr (Y O 0 0)=Zr v∧W.ownsRow w.heap.size 3 1 v (bY s n).length ((bY s n).map (Value.int .i64))∧(v=Y O 0 0↔aQ s.data.toList n=false)):=fun W q=>⟨_,rfl,by rw[HR0.out q];exact World.ownsRow_nil _ _ _ _,by rw[q];simp⟩
 have hls:=l6 s;by_cases h3:s.size=3∨s.size=5
 ·have HG:Hid (gTo s.data.toList n s.size=true→aQ s.data.toList n=true):=fun q=>by
   unfold aQ;rw[l6,q];rcases h3 with h|h <;> rw[h] <;> rfl
  have HBad:Hid (∀ k,k<s.size→gAt s.data.toList n k=false→aQ s.data.toList n=false):=fun k hk q=>FJ (by rw[l6];exact hk) q
  have hz5:s.size≤5:=by omega
  have hz0':0<s.size:=by omega
  rcases h3 with h3|h3
  case' inl =>
   have p3:((s.size:Int) != 3)=false:=by rw[h3];rfl
  case' inr =>
   have p3:((s.size:Int) != 3)=true:=by rw[h3];rfl
   have p5:((s.size:Int) != 5)=false:=by rw[h3];rfl
  all_goals
   clear h3 hls;go_enter Tryz.func16,Tryz.ntmps16;go_upto_if 15 with fail
   go_cut [] from 8 (fun wr=>wr=w)
   case first =>
    go_wp2_with fail;go_meet
    case rel=>rfl
   case rest =>
    subst hcut;clear p3;go_wp2_with fail;go_loopw [5,6] (fun v i wr=>∃ k:Nat,k≤s.size∧i=I J k∧wr.ownsRow wc.heap.size 3 1 v ((dW s).take k).length (((dW s).take k).map (Value.int .i64))∧gTo s.data.toList n k=true∧(v=Y O 0 0→k=0)∧Below wc.heap.size wc wr) (fun _ i _=>s.size-(intOf i).toNat)
    case atStart=>exact⟨0,Nat.zero_le _,rfl,World.ownsRow_nil _ _ _ _,rfl,fun _=>rfl,Below.refl _ _⟩
    case round =>
     obtain⟨k,hk,rfl,hown,hgt,hnl,hb⟩:=hrel
     have HGt:Hid (gTo s.data.toList n k=true):=hgt
     have HNl:Hid (u5=Y O 0 0→k=0):=hnl
     clear hgt hnl;by_cases hlt:k<s.size
     ·have hb5:(s[k].toNat:Int)≤255:=by have:=s[k].toNat_lt;omega
      have HDi:Hid (∀ w,Calls Tryz.prog 38 #[I .u8 (s[k].toNat:Int)] w fun e w'=>e=Zr (.bool (ig (s[k].toNat:Int)))∧w'=w):=fun w=>mD _ w
      have HDd:Hid (ig (s[k].toNat:Int)=(decide (48≤(s[k].toNat:Int))&&decide ((s[k].toNat:Int)≤57))):=rfl
      have HN1:Hid (aH [s[k]]=if ig (s[k].toNat:Int)=true then (s[k].toNat:Int)-48 else -1):=xZ s[k]
      have HTk:Hid ((dW s).take (k+1)=(dW s).take k++[aH [s[k]]]):=FU s k hlt
      have HRg:Hid (aH [s[k]]<0∨n≤aH [s[k]]→aQ s.data.toList n=false):=fun q=>HBad.out k hlt (FH hlt q)
      have HTw:Hid (0≤aH [s[k]]→((dW s).take k).any (fun x=>x==aH [s[k]])=true→aQ s.data.toList n=false):=fun q r=>by
       rw[List.any_eq_true] at r;obtain⟨x,hx,hxe⟩:=r
       obtain⟨j,hj,rfl⟩:=List.mem_iff_getElem.1 hx
       rw[List.length_take,jS] at hj;have hjs:j<s.size:=by omega
       rw[List.getElem_take,AL s j hjs,beq_iff_eq] at hxe;have:=IJ hxe (by omega)
       refine HBad.out k hlt (FI hlt (show j<k by omega) ?_)
       rw[this];simp
      have HOk:Hid (0≤aH [s[k]]→aH [s[k]]<n→((dW s).take k).any (fun x=>x==aH [s[k]])=false→gTo s.data.toList n (k+1)=true):=fun q r t=>by
       rw[Il,HGt.out];have:gAt s.data.toList n k=true:=by
        unfold gAt;rw[atS hlt];simp only[Bool.and_eq_true,decide_eq_true_eq,List.all_eq_true,Bool.not_eq_true',beq_eq_false_iff_ne];refine⟨⟨q,r⟩,fun j hj hc=>?_⟩
        have hjk:j<k:=by simpa using hj
        rw[atS (show j<s.size by omega)] at hc
        rw[List.any_eq_false] at t;refine t (aH [s[j]]) ?_ (by rw[beq_iff_eq,hc])
        rw[List.mem_iff_getElem];exact⟨j,by rw[List.length_take,jS];omega,by rw[List.getElem_take,AL s j (by omega)]⟩
       rw[this];rfl
      have hml:((dW s).take k).length≤10:=by rw[List.length_take];omega
      have hin:Ints wr u5 ((dW s).take k):=by unfold Ints;exact Rd.bK (by simpa using hown)
      generalize (dW s).take k=gk at *;go_wp2_with fail;refine (HDi.out _).mono ?_;rintro e w1 ⟨rfl,hw1⟩;subst hw1;cases hdg:ig (s[k].toNat:Int)
      ·have q:=HRg.out (.inl (by rw[HN1.out,hdg];simp))
       have HZ:Hid _:=HNo.out w1 q
       clear q;go_wp2_with fail;go_ret;obtain⟨v,z1,z2,z3⟩:=HZ.out
       exact⟨v,z1,z2,z3,hb⟩
      ·have g1:48≤(s[k].toNat:Int)∧(s[k].toNat:Int)≤57:=by have:=HDd.out;rw[hdg] at this;simpa using this.symm
       have HN2:Hid (aH [s[k]]=(s[k].toNat:Int)-48):=by unfold Hid;rw[HN1.out,hdg];rfl
       obtain⟨g1,g2⟩:=g1
       have HCo:Hid (∀ W,Ints W u5 gk→Calls Tryz.prog 39 #[u5,I J ((s[k].toNat:Int)-48)] W fun e w'=>e=Zr (.bool (gk.any (fun x=>x==aH [s[k]])))∧w'=W):=fun W q=>by rw[HN2.out];exact kH u5 gk _ W q (by omega)
       by_cases hge:n≤(s[k].toNat:Int)-48
       ·have q:=HRg.out (.inr (by rw[HN2.out];exact hge))
        have HZ:Hid _:=HNo.out w1 q
        clear q;go_wp2_with fail;go_ret;obtain⟨v,z1,z2,z3⟩:=HZ.out
        exact⟨v,z1,z2,z3,hb⟩
       ·generalize hany:gk.any (fun x=>x==aH [s[k]])=an at *
        have HAn:Hid (gk.any (fun x=>x==aH [s[k]])=an):=hany
        clear hany;go_wp2_with fail;refine (HCo.out _ hin).mono ?_;rintro e w2 ⟨rfl,hw2⟩;subst hw2;cases an
        ·have HT1:Hid (gTo s.data.toList n (k+1)=true):=HOk.out (by rw[HN2.out];omega) (by rw[HN2.out];omega) rfl
         go_wp2_with (at_builtin;refine app1 rfl _ _ 44 rfl wc.heap.size 3 i0 (I J 0) 1 8 Tryz.underlying44 hi hz0 hz1 hz2 rfl (by decide) w2 _ _ _ (by rfl) hown 1 [I J ((s[k].toNat:Int)-48)] (by rfl) rfl ?c2 (by omega) (by decide) hb.size ?_)
         case c2=>intro u hu;simp at hu;subst hu;rfl
         intro v3 w3 hown3 hg3 hb3 hn3;go_wp2_with fail;go_roundw
         case rel=>exact⟨k+1,by omega,by go_num,by rw[HTk.out,HN2.out];simpa using hown3,HT1.out,fun q=>absurd q hn3,hb.trans hb3⟩
         case measure=>simp[intOf];omega
        ·have q:=HTw.out (by rw[HN2.out];omega) rfl
         have HZ:Hid _:=HNo.out w2 q
         clear q;go_wp2_with fail;go_ret;obtain⟨v,z1,z2,z3⟩:=HZ.out
         exact⟨v,z1,z2,z3,hb⟩
     ·obtain rfl:k=s.size:=by omega
      rw[List.take_of_length_le (by rw[jS];exact Nat.le_refl _)] at hown
      have HG2:Hid (aQ s.data.toList n=true):=HG.out HGt.out
      go_wp2_with fail;go_ret;exact⟨_,rfl,by rw[HR1.out HG2.out];simpa using hown,⟨fun q=>absurd (HNl.out q) (by omega),fun q=>by rw[HG2.out] at q;exact absurd q (by decide)⟩,hb⟩
 ·have q:aQ s.data.toList n=false:=by
   cases hq:aQ s.data.toList n
   ·rfl
   ·have:=jH hq;rw[l6] at this;exact absurd this h3
  have p3:((s.size:Int) != 3)=true:=by rw[bne_iff_ne];omega
  have p5:((s.size:Int) != 5)=true:=by rw[bne_iff_ne];omega
  have HZ:Hid _:=HNo.out w q
  clear q;go_enter Tryz.func16,Tryz.ntmps16;go_wp2_with fail;go_ret;obtain⟨v,z1,z2,z3⟩:=HZ.out
  exact⟨v,z1,z2,z3,Below.refl _ _⟩
theorem zX (s:ByteArray) (w:World):Calls Tryz.prog 152 #[Z s] w fun e w'=>e=Zr (Z s)∧Below w.heap.size w w':=by
 have h1:=run_bytes_of_string (P:=Tryz.prog) w 9 100 5 s Tryz.underlying9 Tryz.underlying100 Tryz.underlying5;have hb:Below w.heap.size w (w.drew.alloc (.cells (bytesRow s (grownCap w s.size 0 5)) 5 ((bytesRow s (grownCap w s.size 0 5)).size,(bytesRow s (grownCap w s.size 0 5)).size+1))):=(Below.refl _ w).drew.alloc (Nat.le_refl _) _
 have hn:=heap_alloc_new w.drew (.cells (bytesRow s (grownCap w s.size 0 5)) 5 ((bytesRow s (grownCap w s.size 0 5)).size,(bytesRow s (grownCap w s.size 0 5)).size+1));have h2:=run_convert_bytes_back (P:=Tryz.prog) (w.drew.alloc (.cells (bytesRow s (grownCap w s.size 0 5)) 5 ((bytesRow s (grownCap w s.size 0 5)).size,(bytesRow s (grownCap w s.size 0 5)).size+1))) 100 9 5 ⟨w.heap.size,0,O⟩ (grownCap w s.size 0 5) s.data.toList Tryz.underlying100 Tryz.underlying5 Tryz.underlying9 (fun j hj=>by
  have hplain:(⟨w.heap.size,0,O⟩:Addr).add j=⟨w.heap.size,j,O⟩:=by unfold Addr.add;split <;> simp_all
  rw[hplain];have hn':(w.drew.alloc (.cells (bytesRow s (grownCap w s.size 0 5)) 5 ((bytesRow s (grownCap w s.size 0 5)).size,(bytesRow s (grownCap w s.size 0 5)).size+1))).heap[w.heap.size]? = _:=hn
  simp only[World.cell?,hn'];have hjs:j<s.data.size:=by simpa using hj
  unfold bytesRow;rw[if_neg (by simp),Array.getElem?_append_left (by simpa using hjs)]
  simp
  exact⟨_,Array.getElem?_eq_getElem hjs,rfl⟩)
 rw[l6] at h2;have e:(⟨s.data.toList.toArray⟩:ByteArray)=s:=bytes_inj (by simp)
 rw[e] at h2;generalize w.drew.alloc (.cells (bytesRow s (grownCap w s.size 0 5)) 5 ((bytesRow s (grownCap w s.size 0 5)).size,(bytesRow s (grownCap w s.size 0 5)).size+1))=W at *;generalize grownCap w s.size 0 5=C at *;clear hn e;go_enter Tryz.func152,Tryz.ntmps152;go_wp2_with fail;go_ret;exact⟨rfl,hb⟩
theorem Iq (b:UInt8):isLet b=l8 b.toNat:=by
 rw[Bool.eq_iff_iff];unfold isLet inB l8;simp[LET];omega
theorem xM (b:UInt8):isVal b=(l8 b.toNat||ig b.toNat):=by
 rw[Bool.eq_iff_iff];unfold isVal inB l8 ig;simp[LETD];omega
theorem xL (s:ByteArray) (h2:2≤s.size):dh s.data.toList=(!(fM s[0]==0)&&(l8 s[1].toNat&&((s.data.toList.drop 2).all isVal)&&s.size==fM s[0])):=by
 have hl:=l6 s;unfold dh opTo;rw[hl,atS (show 0<s.size by omega),atS (show 1<s.size by omega),decide_eq_true h2,Iq,List.take_of_length_le (by omega)]
 simp[Bool.and_assoc]
theorem Jw (s:ByteArray) (h:s.size=3):s.data.toList.drop 2=[s[2]]:=by
 have hl:=l6 s;rw[List.drop_eq_getElem_cons (show 2<s.data.toList.length by omega),List.drop_eq_nil_of_le (by omega)];rfl
theorem Jy (s:ByteArray) (h:s.size=4):s.data.toList.drop 2=[s[2],s[3]]:=by
 have hl:=l6 s;rw[List.drop_eq_getElem_cons (show 2<s.data.toList.length by omega),List.drop_eq_getElem_cons (show 3<s.data.toList.length by omega),List.drop_eq_nil_of_le (by omega)];rfl
theorem EJ (s:ByteArray) (h:s.size=2):s.data.toList.drop 2=[]:=by
 have hl:=l6 s;exact List.drop_eq_nil_of_le (by omega)
theorem Fp (b:UInt8):(((b.toNat:Int)==103)=true→fM b=2)∧(((b.toNat:Int)==100)=true→fM b=2)∧(((b.toNat:Int)==112)=true→fM b=3)∧(((b.toNat:Int)==99)=true→fM b=4) ∧
  (((b.toNat:Int)==103)=false→((b.toNat:Int)==100)=false→((b.toNat:Int)==112)=false→((b.toNat:Int)==99)=false→fM b=0):=by
 have e:∀ n:Nat,n<256→((b.toNat:Int)==(n:Int))=true→b=UInt8.ofNat n:=fun n hn h=>by
  have h':(b.toNat:Int)=n:=by simpa using h
  apply UInt8.toNat_inj.1;rw[UInt8.toNat_ofNat'];omega
 have ne:∀ c:UInt8,((b.toNat:Int)==(c.toNat:Int))=false→b≠c:=fun c h hc=>by subst hc;simp at h
 refine⟨fun h=>?_,fun h=>?_,fun h=>?_,fun h=>?_,fun h1 h2 h3 h4=>?_⟩
 ·rw[e 103 (by omega) h];rfl
 ·rw[e 100 (by omega) h];rfl
 ·rw[e 112 (by omega) h];rfl
 ·rw[e 99 (by omega) h];rfl
 ·have a1:=ne 103 h1;have a2:=ne 100 h2;have a3:=ne 112 h3;have a4:=ne 99 h4;unfold fM;rw[if_neg a1,if_neg a2,if_neg a3,if_neg a4]
theorem oD (s:ByteArray) (w:World) (hs:s.size≤maxLen):Calls Tryz.prog 151 #[Z s] w fun e w'=>e=Zr (.bool (dh s.data.toList))∧w'=w:=by
 unfold maxLen at hs;by_cases h2:2≤s.size
 ·have HD:=xL s h2;obtain⟨W1,W2,W3,W4,W5⟩:=Fp s[0]
  have HW1:Hid (((s[0].toNat:Int)==103)=true→fM s[0]=2):=W1
  have HW2:Hid (((s[0].toNat:Int)==100)=true→fM s[0]=2):=W2
  have HW3:Hid (((s[0].toNat:Int)==112)=true→fM s[0]=3):=W3
  have HW4:Hid (((s[0].toNat:Int)==99)=true→fM s[0]=4):=W4
  have HW5:Hid (((s[0].toNat:Int)==103)=false→((s[0].toNat:Int)==100)=false→((s[0].toNat:Int)==112)=false→((s[0].toNat:Int)==99)=false→fM s[0]=0):=W5
  clear W1 W2 W3 W4 W5;have HDD:Hid (dh s.data.toList=(!(fM s[0]==0)&&(l8 s[1].toNat&&((s.data.toList.drop 2).all isVal)&&s.size==fM s[0]))):=HD
  clear HD;generalize hob:dh s.data.toList=ob at *;clear hob;have HL:Hid (∀ w,Calls Tryz.prog 166 #[I .u8 (s[1].toNat:Int)] w fun e w'=>e=Zr (.bool (l8 (s[1].toNat:Int)))∧w'=w):=fun w=>sK _ w
  generalize hlt:l8 (s[1].toNat:Int)=l1 at *;clear hlt;go_enter Tryz.func151,Tryz.ntmps151;go_wp2_with fail;refine (HL.out _).mono ?_;rintro e w1 ⟨rfl,hw1⟩;subst hw1;cases l1
  ·go_wp2_with fail;go_ret;exact⟨aS (by rw[HDD.out];simp),rfl⟩
  cases q1:((s[0].toNat:Int)==103)
  ·cases q2:((s[0].toNat:Int)==100)
   ·cases q3:((s[0].toNat:Int)==112)
    ·cases q4:((s[0].toNat:Int)==99)
     ·have HZ:Hid (ob=false):=by unfold Hid;rw[HDD.out,HW5.out q1 q2 q3 q4];rfl
      go_wp2_with fail;go_ret;exact⟨aS HZ.out.symm,rfl⟩
     ·by_cases hz:s.size=4
      ·have HZ:Hid (ob=((l8 s[2].toNat||ig s[2].toNat)&&(l8 s[3].toNat||ig s[3].toNat))):=by
        have hb:(s.size==4)=true:=by simpa using hz
        unfold Hid;rw[HDD.out,HW4.out q4,Jy s hz,hb];simp[xM]
       have hz':((s.size:Int)==4)=true:=by rw[hz];rfl
       have j2:2<s.size:=by omega
       have j3:3<s.size:=by omega
       have HV2:Hid (∀ w,Calls Tryz.prog 167 #[I .u8 (s[2].toNat:Int)] w fun e w'=>e=Zr (.bool (l8 (s[2].toNat:Int)||ig (s[2].toNat:Int)))∧w'=w):=fun w=>pJ _ w
       have HV3:Hid (∀ w,Calls Tryz.prog 167 #[I .u8 (s[3].toNat:Int)] w fun e w'=>e=Zr (.bool (l8 (s[3].toNat:Int)||ig (s[3].toNat:Int)))∧w'=w):=fun w=>pJ _ w
       generalize (l8 (s[2].toNat:Int)||ig (s[2].toNat:Int))=v2 at *
       generalize (l8 (s[3].toNat:Int)||ig (s[3].toNat:Int))=v3 at *
       go_wp2_with fail;refine (HV2.out _).mono ?_;rintro e w2 ⟨rfl,hw2⟩;subst hw2;cases v2
       ·go_wp2_with fail;go_ret;exact⟨aS (by rw[HZ.out];rfl),rfl⟩
       ·go_wp2_with fail;refine (HV3.out _).mono ?_;rintro e w3 ⟨rfl,hw3⟩;subst hw3;go_wp2_with fail;go_ret;exact⟨aS (by rw[HZ.out];rfl),rfl⟩
      ·have HZ:Hid (ob=false):=by unfold Hid;rw[HDD.out,HW4.out q4];simp[hz]
       have hz':((s.size:Int)==4)=false:=by rw[beq_eq_false_iff_ne];omega
       go_wp2_with fail;go_ret;exact⟨aS HZ.out.symm,rfl⟩
    ·by_cases hz:s.size=3
     ·have HZ:Hid (ob=(l8 s[2].toNat||ig s[2].toNat)):=by
       have hb:(s.size==3)=true:=by simpa using hz
       unfold Hid;rw[HDD.out,HW3.out q3,Jw s hz,hb];simp[xM]
      have hz':((s.size:Int)==3)=true:=by rw[hz];rfl
      have j2:2<s.size:=by omega
      have HV2:Hid (∀ w,Calls Tryz.prog 167 #[I .u8 (s[2].toNat:Int)] w fun e w'=>e=Zr (.bool (l8 (s[2].toNat:Int)||ig (s[2].toNat:Int)))∧w'=w):=fun w=>pJ _ w
      generalize (l8 (s[2].toNat:Int)||ig (s[2].toNat:Int))=v2 at *
      go_wp2_with fail;refine (HV2.out _).mono ?_;rintro e w2 ⟨rfl,hw2⟩;subst hw2;go_wp2_with fail;go_ret;exact⟨aS (by rw[HZ.out]),rfl⟩
     ·have HZ:Hid (ob=false):=by unfold Hid;rw[HDD.out,HW3.out q3];simp[hz]
      have hz':((s.size:Int)==3)=false:=by rw[beq_eq_false_iff_ne];omega
      go_wp2_with fail;go_ret;exact⟨aS HZ.out.symm,rfl⟩
   ·have HZ:Hid (ob=(s.size==2)):=by
     unfold Hid;rw[HDD.out,HW2.out q2];by_cases hz:s.size=2
     ·have hb:(s.size==2)=true:=by simpa using hz
      rw[EJ s hz,hb];rfl
     ·simp[hz]
    go_wp2_with fail;go_ret;exact⟨aS (by rw[HZ.out,Bool.eq_iff_iff];simp;omega),rfl⟩
  ·have HZ:Hid (ob=(s.size==2)):=by
    unfold Hid;rw[HDD.out,HW1.out q1];by_cases hz:s.size=2
    ·have hb:(s.size==2)=true:=by simpa using hz
     rw[EJ s hz,hb];rfl
    ·simp[hz]
   go_wp2_with fail;go_ret;exact⟨aS (by rw[HZ.out,Bool.eq_iff_iff];simp;omega),rfl⟩
 ·have HZ:Hid (dh s.data.toList=false):=by
   unfold Hid dh;rw[l6,decide_eq_false h2];rfl
  go_enter Tryz.func151,Tryz.ntmps151;go_wp2_with fail;go_ret;exact⟨aS HZ.out.symm,rfl⟩
def oK (c n:Int) (op:ByteArray):Value:=.agg #[I J c,I J n,Z op]
def nk (op:ByteArray):Bool:=op.data.toList.head?==some 114
theorem jN (c n:Int) (op:ByteArray) (w:World) (hs:op.size≤maxLen):Calls Tryz.prog 75 #[oK c n op] w fun e w'=>e=Zr (.bool (nk op))∧Below w.heap.size w w':=by
 unfold maxLen at hs;have hb:∀ o,Below w.heap.size w (w.alloc o):=fun o=>(Below.refl _ w).alloc (Nat.le_refl _) o
 by_cases h0:op.size=0
 ·have HZ:Hid (nk op=false):=by unfold Hid nk;rw[nilS h0];rfl
  unfold oK;go_enter Tryz.func75,Tryz.ntmps75;go_wp2_with fail;go_ret;exact⟨aS HZ.out.symm,hb _⟩
 ·have hp:0<op.size:=by omega
  have HZ:Hid (nk op=((op[0].toNat:Int)==114)):=by
   unfold Hid nk;rw[Io hp,Bool.eq_iff_iff];simp
   constructor
   ·intro h;rw[h];rfl
   ·intro h;apply UInt8.toNat_inj.1;show op[0].toNat=114;omega
  unfold oK;go_enter Tryz.func75,Tryz.ntmps75;go_wp2_with fail;go_ret;exact⟨aS HZ.out.symm,hb _⟩
theorem mO (c m:Int) (op:ByteArray) (n:Int) (w:World) (hs:op.size≤maxLen) :
  Calls Tryz.prog 45 #[oK c m op,I J n] w fun e w'=>∃ v,e=Zr v∧(nk op=true→w'.ownsRow w.heap.size 3 1 v (bY (op.extract 1 op.size) n).length ((bY (op.extract 1 op.size) n).map (Value.int .i64)))∧(v=Y O 0 0↔(nk op&&aQ (op.extract 1 op.size).data.toList n)=false)∧Below w.heap.size w w':=by
 have hs':=hs
 unfold maxLen at hs';have HR:Hid (∀ w,Calls Tryz.prog 75 #[.agg #[I J c,I J m,Z op]] w fun e w'=>e=Zr (.bool (nk op))∧Below w.heap.size w w'):=fun w=>jN c m op w hs
 have HP:Hid (nk op=true→1≤op.size):=fun q=>by
  unfold nk at q;by_cases h0:op.size=0
  ·rw[nilS h0] at q;exact absurd q (by decide)
  ·omega
 have HG:Hid (∀ w,Calls Tryz.prog 16 #[Z (op.extract 1 op.size),I J n] w fun e w'=>∃ v,e=Zr v∧w'.ownsRow w.heap.size 3 1 v (bY (op.extract 1 op.size) n).length ((bY (op.extract 1 op.size) n).map (Value.int .i64))∧(v=Y O 0 0↔aQ (op.extract 1 op.size).data.toList n=false)∧Below w.heap.size w w'):=fun w=>qh _ n w (by unfold maxLen;simp;omega)
 have hbA:Below w.heap.size w (w.alloc (.cells #[I J c,I J m,Z op] 66)):=(Below.refl _ w).alloc (Nat.le_refl _) _
 have hBA:=heap_alloc_new w (.cells #[I J c,I J m,Z op] 66);unfold oK;go_enter Tryz.func45,Tryz.ntmps45;go_wp2_with fail;refine (HR.out _).mono ?_;rintro e w1 ⟨rfl,hb1⟩;have hb01:=hbA.trans (hb1.mono hbA.size);have hB1:=(hb1.block _ (by simp)).trans hBA
 have z2:w1.cell? ⟨w.heap.size,2,O⟩=some (Z op):=by simp[World.cell?,hB1]
 cases hr:nk op
 ·go_wp2_with fail;go_ret;exact⟨_,rfl,fun q=>by rw[hr] at q;exact absurd q (by decide),by simp[hr],hb01⟩
 ·have h1:=HP.out hr;have h1':(1:Int)≤(op.size:Int):=by omega
  go_wp2_with fail;refine (HG.out _).mono ?_;rintro e w2 ⟨v2,rfl,ho2,hn2,hb2⟩;go_wp2_with fail;go_ret;refine⟨v2,rfl,fun _=>?_,by simpa [hr] using hn2,hb01.trans (hb2.mono hb01.size)⟩
  refine⟨ho2.1,?_⟩
  rcases ho2.2 with h|⟨g,cap,cur,e,q1,q2,q3⟩
  ·exact .inl h
  ·exact .inr ⟨g,cap,cur,e,Nat.le_trans hb01.size q1,q2,q3⟩
theorem dB {fn:Func} {t u:Tmp} {T:TypeId} (h:fn.results=#[.cell t T,.tmp u]) (tmps:Array Value) (P:Program) (w:World) {p:Addr} {v:Value} (hp:tmps.getD t undef=Zp (some p)) (hl:(loadVar T p).run P w=.ok v w) :
  (results fn tmps).run P w=.ok (.tuple #[v,tmps.getD u undef]) w:=by
 have hp':tmps[t]?.getD undef=Zp (some p):=by simpa using hp
 simp only[results,h];simp[hp',hl,asAddr]
theorem Tryz.sizeEnt:(Tryz.prog.info? 66).map (fun i=>i.size)=some 3:=by kernel_rfl
theorem xW (w:World) (g:Nat) (c n:Int) (op:ByteArray) (fr:Nat×Nat) (t:TypeId) (hg:w.heap[g]? = some (.cells #[I J c,I J n,Z op] t fr)):(loadVar 66 ⟨g,0,O⟩).run Tryz.prog w=.ok (oK c n op) w :=
 run_loadVar_row w g t 66 _ fr _ hg Tryz.underlying66 rfl Tryz.sizeEnt
def iQ (W:World) (g:Nat) (a b c:Value):World:=((W.setCell ⟨g,0,O⟩ a).setCell ⟨g,1,O⟩ b).setCell ⟨g,2,O⟩ c
theorem qm {W:World} {g:Nat} {x y z a b c:Value} {t:TypeId} (h:W.heap[g]? = some (.cells #[x,y,z] t (0,0))):(iQ W g a b c).heap[g]? = some (.cells #[a,b,c] t (0,0)):=by
 have h1:=heap_setCell_same W g 0 _ _ a h;have h2:=heap_setCell_same _ g 1 _ _ b h1;have h3:=heap_setCell_same _ g 2 _ _ c h2
 simpa [iQ] using h3
theorem nS {B:Nat} {w W:World} {g:Nat} {a b c:Value} (h:Below B w W) (hg:B≤g):Below B w (iQ W g a b c):=((h.setCell (p:=⟨g,0,O⟩) hg a).setCell (p:=⟨g,1,O⟩) hg b).setCell (p:=⟨g,2,O⟩) hg c
def dL (s:ByteArray) (n:Int):Int×Int×ByteArray:=if dw s n=true then (aH ((bX s 46).getD 0 Ze).data.toList,aH ((bX s 46).getD 1 Ze).data.toList,opB s) else (0,0,⟨#[]⟩)
theorem vT (op:ByteArray) (n:Int):lD op.data.toList n=(dh op.data.toList||(nk op&&aQ (op.extract 1 op.size).data.toList n)):=by
 unfold lD nk;rw[drop1];by_cases h:op.data.toList.head? = some 114
 ·rw[if_pos h,h];have:dh op.data.toList=false:=by
   unfold dh;have e:op.data.toList.getD 0 0=114:=by rw[List.head?_eq_getElem?] at h;rw[List.getD,h];rfl
   rw[e];simp[fM]
  rw[this];simp
 ·rw[if_neg h];have:(op.data.toList.head?==some 114)=false:=by rw[beq_eq_false_iff_ne];exact h
  rw[this];simp
theorem zW (s:ByteArray) (n:Int) (w:World) (hs:s.size≤1000000) :
  Calls Tryz.prog 153 #[Z s,I J n] w fun e w'=>e=Zr (.tuple #[oK (dL s n).1 (dL s n).2.1 (dL s n).2.2,.bool (dw s n)])∧Below w.heap.size w w':=by
 have hsz:=kN s 46;have HV0:Hid (dw s n=false→dL s n=(0,0,⟨#[]⟩)):=fun q=>by unfold dL;rw[q];rfl
 have HV1:Hid (dw s n=true→dL s n=(aH ((bX s 46).getD 0 Ze).data.toList,aH ((bX s 46).getD 1 Ze).data.toList,(bX s 46).getD 2 Ze)):=fun q=>by unfold dL;rw[q];rfl
 have HE:Hid (dw s n=zI (bX s 46) n):=rfl
 have HSp:Hid (∀ w,Calls Tryz.prog 40 #[Z s,I .u8 46] w fun e w'=>∃ v,e=Zr v∧w'.ownsRow w.heap.size 9 1 v (bX s 46).length ((bX s 46).map Value.string)∧Below w.heap.size w w'):=fun w=>qj s 46 w (by omega)
 generalize bX s 46=ps at *;generalize dL s n=ev at *;generalize dw s n=ie at *;have hbA:Below w.heap.size w (w.alloc (.cells #[I J 0,I J 0,Z ⟨#[]⟩] 66)):=(Below.refl _ w).alloc (Nat.le_refl _) _
 have hBA:=heap_alloc_new w (.cells #[I J 0,I J 0,Z ⟨#[]⟩] 66);have HNo:Hid (∀ W:World,Below w.heap.size w W→W.heap[w.heap.size]? = some (.cells #[I J 0,I J 0,Z ⟨#[]⟩] 66 (0,0))→ie=false→(Zr (.tuple #[oK 0 0 ⟨#[]⟩,.bool false])=Zr (.tuple #[oK ev.1 ev.2.1 ev.2.2,.bool ie])∧Below w.heap.size w W)):=fun W q _ r=>⟨by rw[HV0.out r,r],q⟩
 go_enter Tryz.func153,Tryz.ntmps153;go_wp2_with fail;refine (HSp.out _).mono ?_;rintro e w1 ⟨v1,rfl,hown,hb1⟩;have hb01:=hbA.trans (hb1.mono hbA.size);have hB1:=(hb1.block _ (by simp)).trans hBA
 have hst:=Strs.bK hown;obtain⟨a1,cap1,rfl,_,_⟩:=hst.shape
 clear hown hbA hBA hb1;have y0:w1.cell? ⟨w.heap.size,0,O⟩=some (I J 0):=by simp[World.cell?,hB1]
 have y1:w1.cell? ⟨w.heap.size,1,O⟩=some (I J 0):=by simp[World.cell?,hB1]
 have y2:w1.cell? ⟨w.heap.size,2,O⟩=some (Z ⟨#[]⟩):=by simp[World.cell?,hB1]
 have f0:∀ j,w1.frozen? ⟨w.heap.size,j,O⟩=false:=fun j=>by simp[World.frozen?,hB1]
 have HEnd:Hid (∀ (W:World) (x y z:Value),Below w.heap.size w W→W.heap[w.heap.size]? = some (.cells #[x,y,z] 66 (0,0))→ie=false→Below w.heap.size w (iQ W w.heap.size (I J 0) (I J 0) (Z ⟨#[]⟩))∧(loadVar 66 ⟨w.heap.size,0,O⟩).run Tryz.prog (iQ W w.heap.size (I J 0) (I J 0) (Z ⟨#[]⟩))=.ok (oK 0 0 ⟨#[]⟩) (iQ W w.heap.size (I J 0) (I J 0) (Z ⟨#[]⟩))∧ev=(0,0,⟨#[]⟩)):=fun W x y z q r t=>⟨nS q (Nat.le_refl _),xW _ _ _ _ _ _ _ (qm r),HV0.out t⟩
 clear HNo;by_cases h3:ps.length=3
 ·have p3:((ps.length:Int) != 3)=false:=by rw[h3];rfl
  have l0:0<ps.length:=by omega
  have l1:1<ps.length:=by omega
  have l2:2<ps.length:=by omega
  have e0:ps.getD 0 Ze=ps[0]:=by simp[List.getD,l0]
  have e1:ps.getD 1 Ze=ps[1]:=by simp[List.getD,l1]
  have e2:ps.getD 2 Ze=ps[2]:=by simp[List.getD,l2]
  have z0:=hsz ps[0] (List.getElem_mem _);have z1:=hsz ps[1] (List.getElem_mem _);have z2:=hsz ps[2] (List.getElem_mem _);have HI:Hid (ie=(aj ps[0].data.toList 1 9&&aj ps[1].data.toList 1 999&&(dh ps[2].data.toList||(nk ps[2]&&aQ (ps[2].extract 1 ps[2].size).data.toList n)))):=by
   unfold Hid;rw[HE.out,← vT]
   match ps,h3 with
   | [a,b,c],_=>rfl
  have HV:Hid (ie=true→ev=(aH ps[0].data.toList,aH ps[1].data.toList,ps[2])):=fun q=>by rw[HV1.out q,e0,e1,e2]
  have HN0:Hid (∀ w,Calls Tryz.prog 150 #[Z ps[0],I J 1,I J 9] w fun e w'=>e=Zr (.tuple #[I J (aC ps[0] 1 9),.bool (aj ps[0].data.toList 1 9)])∧w'=w):=fun w=>nN _ _ _ w (by unfold maxLen;omega) (by omega) (by omega)
  have HN1:Hid (∀ w,Calls Tryz.prog 150 #[Z ps[1],I J 1,I J 999] w fun e w'=>e=Zr (.tuple #[I J (aC ps[1] 1 999),.bool (aj ps[1].data.toList 1 999)])∧w'=w):=fun w=>nN _ _ _ w (by unfold maxLen;omega) (by omega) (by omega)
  have HNv0:Hid (aj ps[0].data.toList 1 9=true→aC ps[0] 1 9=aH ps[0].data.toList):=fun q=>by unfold aC;rw[q];rfl
  have HNv1:Hid (aj ps[1].data.toList 1 999=true→aC ps[1] 1 999=aH ps[1].data.toList):=fun q=>by unfold aC;rw[q];rfl
  have HFr:Hid (∀ w,Calls Tryz.prog 152 #[Z ps[2]] w fun e w'=>e=Zr (Z ps[2])∧Below w.heap.size w w'):=fun w=>zX ps[2] w
  have HOp:Hid (∀ w,Calls Tryz.prog 151 #[Z ps[2]] w fun e w'=>e=Zr (.bool (dh ps[2].data.toList))∧w'=w):=fun w=>oD ps[2] w (by unfold maxLen;omega)
  have HNg:Hid (∀ (c m:Int) w,Calls Tryz.prog 45 #[.agg #[I J c,I J m,Z ps[2]],I J n] w fun e w'=>∃ v,e=Zr v∧(v=Y O 0 0↔(nk ps[2]&&aQ (ps[2].extract 1 ps[2].size).data.toList n)=false)∧Below w.heap.size w w'∧∃ a l c,v=Y a l c∧(a=O→l=0∧c=0)):=fun c m w=>(mO c m ps[2] n w (by unfold maxLen;omega)).mono (by
   rintro e w' ⟨v,h1,h2,h3,h4⟩;refine⟨v,h1,h3,h4,?_⟩
   cases hr:nk ps[2]
   ·exact⟨O,0,0,h3.2 (by rw[hr];rfl),fun _=>⟨rfl,rfl⟩⟩
   ·rcases (h2 hr).2 with ⟨hv,_⟩|⟨g,cap,cur,hv,_⟩
    ·exact⟨O,0,0,hv,fun _=>⟨rfl,rfl⟩⟩
    ·exact⟨_,_,_,hv,fun hc=>by simp at hc⟩)
  obtain⟨bp,op,rfl,hbp,x0⟩:=hst.get 0 l0
  rw[Nat.add_zero] at x0;obtain⟨bx,ox,he,_,x1⟩:=hst.get 1 l1
  simp only[Option.some.injEq,Addr.mk.injEq] at he;obtain⟨rfl,rfl,_⟩:=he
  obtain⟨bx,ox,he,_,x2⟩:=hst.get 2 l2
  simp only[Option.some.injEq,Addr.mk.injEq] at he;obtain⟨rfl,rfl,_⟩:=he
  have i0:(0:Int)<(ps.length:Int):=by omega
  have i1:(1:Int)<(ps.length:Int):=by omega
  have i2:(2:Int)<(ps.length:Int):=by omega
  generalize aC ps[0] 1 9=c0 at *;generalize aC ps[1] 1 999=m0 at *;generalize hw0:aj ps[0].data.toList 1 9=wi0 at *;generalize hw1:aj ps[1].data.toList 1 999=wi1 at *;clear hw0 hw1 h3 e0 e1 e2;have hnl:=fun w a n c=>Lib.run_eql_slice_nil (P:=Tryz.prog) w 44 3 a n c 0 0 Tryz.underlying44
  go_wp2_with fail;refine (HN0.out _).mono ?_;rintro e wX ⟨rfl,hwX⟩;subst hwX;go_wp2_with fail;refine (HN1.out _).mono ?_;rintro e wY ⟨rfl,hwY⟩;subst hwY;cases wi0
  ·have hie:ie=false:=by rw[HI.out];rfl
   obtain⟨g1,g2,g3⟩:=HEnd.out _ _ _ _ hb01 hB1 hie
   have HG:Hid (_∧_∧_∧_):=⟨g1,g2,g3,hie⟩
   clear g1 g2 g3 hie;go_wp2_with fail;exact bodyPost_ret (dB rfl _ _ _ rfl HG.out.2.1) rfl ⟨by rw[HG.out.2.2.1,HG.out.2.2.2];rfl,HG.out.1⟩
  ·cases wi1
   ·have hie:ie=false:=by rw[HI.out];rfl
    obtain⟨g1,g2,g3⟩:=HEnd.out _ _ _ _ hb01 hB1 hie
    have HG:Hid (_∧_∧_∧_):=⟨g1,g2,g3,hie⟩
    clear g1 g2 g3 hie;go_wp2_with fail;exact bodyPost_ret (dB rfl _ _ _ rfl HG.out.2.1) rfl ⟨by rw[HG.out.2.2.1,HG.out.2.2.2];rfl,HG.out.1⟩
   ·clear y0 y1 y2 f0;go_wp2_with fail;refine (HFr.out _).mono ?_;rintro e w2 ⟨rfl,hb2⟩;have hbE:Below w2.heap.size w2 (w2.alloc (.cells #[I J c0,I J m0,Z ps[2]] 66)):=(Below.refl _ w2).alloc (Nat.le_refl _) _
    have hBE:=heap_alloc_new w2 (.cells #[I J c0,I J m0,Z ps[2]] 66);have hb1E:=hb2.trans (hbE.mono hb2.size);have hb0E:=hb01.trans (hb1E.mono hb01.size);have hBr:=(hb1E.block _ (lt_of_block hB1)).trans hB1;have hltE:w2.heap.size<(w2.alloc (.cells #[I J c0,I J m0,Z ps[2]] 66)).heap.size:=lt_of_block hBE
    clear x0 x1 x2;go_wp2_with fail;generalize w2.alloc (.cells #[I J c0,I J m0,Z ps[2]] 66)=wE at *;refine (HOp.out _).mono ?_;rintro e wZ ⟨rfl,hwZ⟩;subst hwZ;have HYes:Hid (∀ W:World,Below wZ.heap.size wZ W→ie=true→(W.cell? ⟨w2.heap.size,0,O⟩=some (I J c0)∧W.cell? ⟨w2.heap.size,1,O⟩=some (I J m0)∧W.cell? ⟨w2.heap.size,2,O⟩=some (Z ps[2]))∧(W.cell? ⟨w.heap.size,0,O⟩=some (I J 0)∧W.cell? ⟨w.heap.size,1,O⟩=some (I J 0)∧W.cell? ⟨w.heap.size,2,O⟩=some (Z ⟨#[]⟩))∧(∀ j,W.frozen? ⟨w.heap.size,j,O⟩=false)∧Hid (Below w.heap.size w (iQ W w.heap.size (I J c0) (I J m0) (Z ps[2]))∧(loadVar 66 ⟨w.heap.size,0,O⟩).run Tryz.prog (iQ W w.heap.size (I J c0) (I J m0) (Z ps[2]))=.ok (oK c0 m0 ps[2]) (iQ W w.heap.size (I J c0) (I J m0) (Z ps[2]))∧ev=(c0,m0,ps[2])∧ie=true)):=fun W q r=>by
     have k1:=(q.block _ hltE).trans hBE;have k2:=(q.block _ (lt_of_block hBr)).trans hBr;refine⟨⟨by simp[World.cell?,k1],by simp[World.cell?,k1],by simp[World.cell?,k1]⟩,⟨by simp[World.cell?,k2],by simp[World.cell?,k2],by simp[World.cell?,k2]⟩,fun j=>by simp[World.frozen?,k2],nS (hb0E.trans (q.mono hb0E.size)) (Nat.le_refl _),xW _ _ _ _ _ _ _ (qm k2),?_,r⟩
     rw[HV.out r,HNv0.out (by trivial),HNv1.out (by trivial)]
    have HZf:Hid (∀ W:World,Below wZ.heap.size wZ W→ie=false→(W.cell? ⟨w.heap.size,0,O⟩=some (I J 0)∧W.cell? ⟨w.heap.size,1,O⟩=some (I J 0)∧W.cell? ⟨w.heap.size,2,O⟩=some (Z ⟨#[]⟩))∧(∀ j,W.frozen? ⟨w.heap.size,j,O⟩=false)∧Hid (Below w.heap.size w (iQ W w.heap.size (I J 0) (I J 0) (Z ⟨#[]⟩))∧(loadVar 66 ⟨w.heap.size,0,O⟩).run Tryz.prog (iQ W w.heap.size (I J 0) (I J 0) (Z ⟨#[]⟩))=.ok (oK 0 0 ⟨#[]⟩) (iQ W w.heap.size (I J 0) (I J 0) (Z ⟨#[]⟩))∧ev=(0,0,⟨#[]⟩)∧ie=false)):=fun W q r=>by
     have k2:=(q.block _ (lt_of_block hBr)).trans hBr;obtain⟨g1,g2,g3⟩:=HEnd.out W _ _ _ (hb0E.trans (q.mono hb0E.size)) k2 r
     exact⟨⟨by simp[World.cell?,k2],by simp[World.cell?,k2],by simp[World.cell?,k2]⟩,fun j=>by simp[World.frozen?,k2],g1,g2,g3,r⟩
    have ce:wZ.cell? ⟨w2.heap.size,0,O⟩=some (I J c0)∧wZ.cell? ⟨w2.heap.size,1,O⟩=some (I J m0)∧wZ.cell? ⟨w2.heap.size,2,O⟩=some (Z ps[2]):=by
     have k1:wZ.heap[w2.heap.size]? = _:=hBE
     exact⟨by simp[World.cell?,k1],by simp[World.cell?,k1],by simp[World.cell?,k1]⟩
    obtain⟨ce0,ce1,ce2⟩:=ce
    generalize dh ps[2].data.toList=io at *;cases io
    ·generalize (nk ps[2]&&aQ (ps[2].extract 1 ps[2].size).data.toList n)=gg at *;go_wp2_with fail;refine (HNg.out c0 m0 _).mono ?_;rintro e w4 ⟨v4,rfl,hn4,hb4,a4,l4,c4,rfl,hz4⟩;cases gg
     ·have hie:ie=false:=by rw[HI.out];rfl
      have hv:=hn4.2 rfl;simp only[Value.slice.injEq] at hv;obtain⟨rfl,rfl,rfl⟩:=hv
      obtain⟨⟨y0,y1,y2⟩,f0,HG⟩:=HZf.out w4 hb4 hie
      clear ce0 ce1 ce2 hie hn4 hz4;go_wp2_with fail;exact bodyPost_ret (dB rfl _ _ _ rfl HG.out.2.1) rfl ⟨by rw[HG.out.2.2.1,HG.out.2.2.2];rfl,HG.out.1⟩
     ·have hie:ie=true:=by rw[HI.out];rfl
      cases a4 with
      | none =>
       obtain⟨rfl,rfl⟩:=hz4 rfl
       exact absurd (hn4.1 rfl) (by decide)
      | some a4 =>
       obtain⟨⟨u0,u1,u2⟩,⟨y0,y1,y2⟩,f0,HG⟩:=HYes.out w4 hb4 hie
       clear ce0 ce1 ce2 hie hn4 hz4;go_wp2_with fail;exact bodyPost_ret (dB rfl _ _ _ rfl HG.out.2.1) rfl ⟨by rw[HG.out.2.2.1,HG.out.2.2.2];rfl,HG.out.1⟩
    ·have hie:ie=true:=by rw[HI.out];rfl
     obtain⟨⟨u0,u1,u2⟩,⟨y0,y1,y2⟩,f0,HG⟩:=HYes.out wZ (Below.refl _ _) hie
     clear hie;go_wp2_with fail;exact bodyPost_ret (dB rfl _ _ _ rfl HG.out.2.1) rfl ⟨by rw[HG.out.2.2.1,HG.out.2.2.2];rfl,HG.out.1⟩
 ·have hie:ie=false:=by rw[HE.out];exact Fz h3
  have p3:((ps.length:Int) != 3)=true:=by rw[bne_iff_ne];omega
  obtain⟨g1,g2,g3⟩:=HEnd.out _ _ _ _ hb01 hB1 hie
  have HG:Hid (_∧_∧_∧_):=⟨g1,g2,g3,hie⟩
  clear g1 g2 g3 hie;go_wp2_with fail;exact bodyPost_ret (dB rfl _ _ _ rfl HG.out.2.1) rfl ⟨by rw[HG.out.2.2.1,HG.out.2.2.2];rfl,HG.out.1⟩
variable {X:List Nat}
theorem gM {w w':World} {base:Nat} {e:TypeId} {size:Nat} {v:Value} {n:Nat} {xs:List Value} {S:List Nat} (h:w.ownsRow base e size v n xs) (k:Kp S w w') (hS:∀ x∈S,x<base):w'.ownsRow base e size v n xs:=by
 refine⟨h.1,?_⟩
 rcases h.2 with h2|⟨g,cap,cur,e,q1,q2,q3⟩
 ·exact .inl h2
 ·exact .inr ⟨g,cap,cur,e,q1,(k.block g (lt_of_block q2) (fun hc=>by have:=hS g hc;omega)).trans q2,q3⟩
structure aI (w:World) (br:Nat) (vw:Value) (ws:List ByteArray) (nx:Nat) (n:Int) (wr:Bool):Prop where
 block:w.heap[br]? = some (.cells #[vw,I J nx,I J n,.bool wr] 91 (0,0))
 words:Strs w vw ws
 fr:Fr [br] vw
 le:nx≤ws.length
theorem aI.below {w w':World} {br:Nat} {vw:Value} {ws:List ByteArray} {nx:Nat} {n:Int} {wr:Bool} (h:aI w br vw ws nx n wr) (hb:Below w.heap.size w w'):aI w' br vw ws nx n wr :=
 ⟨(hb.block br (lt_of_block h.block)).trans h.block,h.words.below hb,h.fr,h.le⟩
theorem aI.at {w:World} {br:Nat} {vw:Value} {ws:List ByteArray} {nx:Nat} {n:Int} {wr:Bool} (h:aI w br vw ws nx n wr) (j:Nat) (hj:j<4):w.cell? ⟨br,j,O⟩=some ((#[vw,I J nx,I J n,.bool wr]:Array Value)[j]'hj):=by
 simp only[World.cell?,h.block];simp
theorem aI.free {w:World} {br:Nat} {vw:Value} {ws:List ByteArray} {nx:Nat} {n:Int} {wr:Bool} (h:aI w br vw ws nx n wr) (j:Nat):w.frozen? ⟨br,j,O⟩=false:=by
 simp[World.frozen?,h.block]
theorem aI.p8 {w:World} {br:Nat} {vw:Value} {ws:List ByteArray} {nx:Nat} {n:Int} {wr:Bool} (h:aI w br vw ws nx n wr) (x:Bool):aI (w.setCell ⟨br,3,O⟩ (.bool x)) br vw ws nx n x :=
 ⟨by have:=heap_setCell_same w br 3 _ _ (.bool x) h.block;simpa using this,h.words.kp ((Kp.refl [br] w).set br 3 _ (.inl (by simp))) h.fr,h.fr,h.le⟩
theorem aI.Fb {w:World} {br:Nat} {vw:Value} {ws:List ByteArray} {nx:Nat} {n:Int} {wr:Bool} (h:aI w br vw ws nx n wr) (x:Nat) (hx:x≤ws.length):aI (w.setCell ⟨br,1,O⟩ (I J x)) br vw ws x n wr :=
 ⟨by have:=heap_setCell_same w br 1 _ _ (I J (x:Int)) h.block;simpa using this,h.words.kp ((Kp.refl [br] w).set br 1 _ (.inl (by simp))) h.fr,h.fr,hx⟩
def nxt (ws:List ByteArray) (nx:Nat):Nat:=if nx<ws.length then nx+1 else nx
def wrd (ws:List ByteArray) (nx:Nat):ByteArray:=ws.getD nx ⟨#[]⟩
def aJ (w w':World) (br:Nat) (vw:Value) (ws:List ByteArray) (nx:Nat) (n:Int) (wr:Bool):Prop:=aI w' br vw ws nx n wr∧Kp [br] w w'
theorem aJ.below {w w1 w2:World} {br:Nat} {vw:Value} {ws:List ByteArray} {nx:Nat} {n:Int} {wr:Bool} (h:aJ w w1 br vw ws nx n wr) (hb:Below w1.heap.size w1 w2):aJ w w2 br vw ws nx n wr:=⟨h.1.below hb,h.2.aF hb⟩
theorem aJ.wrong {w w1:World} {br:Nat} {vw:Value} {ws:List ByteArray} {nx:Nat} {n:Int} {wr:Bool} (h:aJ w w1 br vw ws nx n wr) (x:Bool):aJ w (w1.setCell ⟨br,3,O⟩ (.bool x)) br vw ws nx n x:=⟨h.1.p8 x,h.2.set br 3 _ (.inl (by simp))⟩
theorem jW (br:Nat) (vw:Value) (ws:List ByteArray) (nx:Nat) (n:Int) (wr:Bool) (w:World) (h:aI w br vw ws nx n wr) (hl:ws.length≤100000) :
  Calls Tryz.prog 70 #[Zp (some ⟨br,0,O⟩)] w fun e w'=>e=Zr (Z (wrd ws nx))∧aJ w w' br vw ws (nxt ws nx) n (wr||!decide (nx<ws.length)):=by
 obtain⟨a,cap,rfl,_,_⟩:=h.words.shape
 have c0:=h.at 0 (by omega)
 have c1:=h.at 1 (by omega)
 have c3:=h.at 3 (by omega)
 simp at c0 c1 c3;have f1:=h.free 1;have f3:=h.free 3;have hle:=h.le;by_cases hlt:nx<ws.length
 ·have HN:Hid (nxt ws nx=nx+1):=by unfold Hid nxt;rw[if_pos hlt]
  have HW:Hid (wrd ws nx=ws[nx]):=by unfold Hid wrd;simp[List.getD,hlt]
  have HR:Hid ((wr||!decide (nx<ws.length))=wr):=by unfold Hid;simp[hlt]
  have hlt':¬(ws.length:Int)≤(nx:Int):=by omega
  obtain⟨b,o,rfl,hbb,x⟩:=h.words.get nx hlt
  have j1:(0:Int)≤(nx:Int):=by omega
  have j2:(nx:Int)<(ws.length:Int):=by omega
  go_enter Tryz.func70,Tryz.ntmps70;go_wp2_with fail;go_quiet (fail);go_wp2_with fail;go_quiet (fail);go_wp2_with fail;go_ret;refine⟨je HW.out.symm,?_⟩
  rw[HN.out,HR.out];exact⟨aI.Fb (h.below (below_drewN (Below.refl _ _) _)) (nx+1) (by omega),(Kp.of_below (below_drewN (Below.refl _ _) _)).set br 1 _ (.inl (by simp))⟩
 ·have HN:Hid (nxt ws nx=nx):=by unfold Hid nxt;rw[if_neg hlt]
  have HW:Hid (wrd ws nx=⟨#[]⟩):=by unfold Hid wrd;rw[List.getD,List.getElem?_eq_none (by omega)];rfl
  have HR:Hid ((wr||!decide (nx<ws.length))=true):=by unfold Hid;simp[hlt]
  have hlt':(ws.length:Int)≤(nx:Int):=by omega
  go_enter Tryz.func70,Tryz.ntmps70;go_wp2_with fail;go_quiet (fail);go_wp2_with fail;go_ret;refine⟨je HW.out.symm,?_⟩
  rw[HN.out,HR.out];exact⟨aI.p8 (h.below (below_drewN (Below.refl _ _) _)) true,(Kp.of_below (below_drewN (Below.refl _ _) _)).set br 3 _ (.inl (by simp))⟩
theorem jB {ws:List ByteArray} {nx M:Nat} (h:∀ x∈ws,x.size≤M):(wrd ws nx).size≤M:=by
 unfold wrd;by_cases hk:nx<ws.length
 ·have e:ws.getD nx ⟨#[]⟩=ws[nx]:=by simp[List.getD,hk]
  rw[e];exact h _ (List.getElem_mem _)
 ·have e:ws.getD nx ⟨#[]⟩=⟨#[]⟩:=by rw[List.getD,List.getElem?_eq_none (by omega)];rfl
  rw[e];exact Nat.zero_le _
theorem wh {ws:List ByteArray} {nx:Nat} (h:¬nx<ws.length):wrd ws nx=⟨#[]⟩:=by
 unfold wrd;rw[List.getD,List.getElem?_eq_none (by omega)];rfl
theorem lZ {ws:List ByteArray} {nx:Nat} {wr:Bool} {f:ByteArray→Bool} (hf:f ⟨#[]⟩=false):((wr||!decide (nx<ws.length))||!f (wrd ws nx))=(wr||!f (wrd ws nx)):=by
 by_cases h:nx<ws.length
 ·simp[h]
 ·rw[wh h,hf];simp
section
variable (br:Nat) (vw:Value) (ws:List ByteArray) (nx:Nat) (n:Int) (wr:Bool) (w:World) (h:aI w br vw ws nx n wr) (hl:ws.length≤100000) (hz:∀ x∈ws,x.size≤1000)
theorem bU (br:Nat) (vw:Value) (ws:List ByteArray) (nx:Nat) (n:Int) (wr:Bool) (w:World) (h:aI w br vw ws nx n wr) (hl:ws.length≤100000) (hz:∀ x∈ws,x.size≤1000) (a b:Int) (ha:0≤a) (hb:b≤999) :
  Calls Tryz.prog 114 #[Zp (some ⟨br,0,O⟩),I J a,I J b] w fun e w'=>e=Zr (I J (aC (wrd ws nx) a b))∧aJ w w' br vw ws (nxt ws nx) n (wr||!aj (wrd ws nx).data.toList a b):=by
 have hzw:=jB (nx:=nx) hz;have HO:Hid (((wr||!decide (nx<ws.length))||!aj (wrd ws nx).data.toList a b)=(wr||!aj (wrd ws nx).data.toList a b)):=lZ (f:=fun x=>aj x.data.toList a b) (uJ rfl ha)
 have HNu:Hid (∀ w,Calls Tryz.prog 150 #[Z (wrd ws nx),I J a,I J b] w fun e w'=>e=Zr (.tuple #[I J (aC (wrd ws nx) a b),.bool (aj (wrd ws nx).data.toList a b)])∧w'=w):=fun w=>nN _ _ _ w (by unfold maxLen;omega) ha hb
 have HWd:Hid (Calls Tryz.prog 70 #[Zp (some ⟨br,0,O⟩)] w fun e w'=>e=Zr (Z (wrd ws nx))∧aJ w w' br vw ws (nxt ws nx) n (wr||!decide (nx<ws.length))):=jW br vw ws nx n wr w h hl
 rw[← HO.out];clear HO;generalize (wr||!decide (nx<ws.length))=w0 at *
 generalize aC (wrd ws nx) a b=v at *;generalize aj (wrd ws nx).data.toList a b=ok at *;go_enter Tryz.func114,Tryz.ntmps114;go_wp2_with fail;refine HWd.out.mono ?_;rintro e w1 ⟨rfl,hP⟩;go_wp2_with fail;refine (HNu.out _).mono ?_;rintro e w2 ⟨rfl,hw2⟩;subst hw2;have c3:=hP.1.at 3 (by omega)
 have f3:=hP.1.free 3;simp at c3;cases ok
 ·go_wp2_with fail;go_ret;exact⟨rfl,by simpa using hP.wrong true⟩
 ·go_wp2_with fail;go_ret;exact⟨rfl,by simpa using hP⟩
theorem zn (br:Nat) (vw:Value) (ws:List ByteArray) (nx:Nat) (n:Int) (wr:Bool) (w:World) (h:aI w br vw ws nx n wr) (hl:ws.length≤100000) (hz:∀ x∈ws,x.size≤1000) :
  Calls Tryz.prog 115 #[Zp (some ⟨br,0,O⟩)] w fun e w'=>e=Zr (Z (if dh (wrd ws nx).data.toList then wrd ws nx else ⟨#[]⟩))∧aJ w w' br vw ws (nxt ws nx) n (wr||!dh (wrd ws nx).data.toList):=by
 have hzw:=jB (nx:=nx) hz;have HO:Hid (((wr||!decide (nx<ws.length))||!dh (wrd ws nx).data.toList)=(wr||!dh (wrd ws nx).data.toList)):=lZ (f:=fun x=>dh x.data.toList) rfl
 have HNu:Hid (∀ w,Calls Tryz.prog 151 #[Z (wrd ws nx)] w fun e w'=>e=Zr (.bool (dh (wrd ws nx).data.toList))∧w'=w):=fun w=>oD _ w (by unfold maxLen;omega)
 have HFr:Hid (∀ w,Calls Tryz.prog 152 #[Z (wrd ws nx)] w fun e w'=>e=Zr (Z (wrd ws nx))∧Below w.heap.size w w'):=fun w=>zX _ w
 have HWd:Hid (Calls Tryz.prog 70 #[Zp (some ⟨br,0,O⟩)] w fun e w'=>e=Zr (Z (wrd ws nx))∧aJ w w' br vw ws (nxt ws nx) n (wr||!decide (nx<ws.length))):=jW br vw ws nx n wr w h hl
 rw[← HO.out];clear HO;generalize (wr||!decide (nx<ws.length))=w0 at *
 generalize dh (wrd ws nx).data.toList=ok at *;go_enter Tryz.func115,Tryz.ntmps115;go_wp2_with fail;refine HWd.out.mono ?_;rintro e w1 ⟨rfl,hP⟩;go_wp2_with fail;refine (HNu.out _).mono ?_;rintro e w2 ⟨rfl,hw2⟩;subst hw2;have c3:=hP.1.at 3 (by omega)
 have f3:=hP.1.free 3;simp at c3;cases ok
 ·go_wp2_with fail;go_ret;exact⟨rfl,by simpa using hP.wrong true⟩
 ·go_wp2_with fail;refine (HFr.out _).mono ?_;rintro e w3 ⟨rfl,hb3⟩;go_wp2_with fail;go_ret;exact⟨rfl,by simpa using hP.below hb3⟩
theorem GI (br:Nat) (vw:Value) (ws:List ByteArray) (nx:Nat) (n:Int) (wr:Bool) (w:World) (h:aI w br vw ws nx n wr) (hl:ws.length≤100000) (hz:∀ x∈ws,x.size≤1000) :
  Calls Tryz.prog 155 #[Zp (some ⟨br,0,O⟩)] w fun e w'=>∃ v,e=Zr v∧w'.ownsRow w.heap.size 3 1 v (bY (wrd ws nx) n).length ((bY (wrd ws nx) n).map (Value.int .i64))∧aJ w w' br vw ws (nxt ws nx) n (wr||!aQ (wrd ws nx).data.toList n):=by
 have hzw:=jB (nx:=nx) hz;have HO:Hid (((wr||!decide (nx<ws.length))||!aQ (wrd ws nx).data.toList n)=(wr||!aQ (wrd ws nx).data.toList n)):=lZ (f:=fun x=>aQ x.data.toList n) rfl
 have HGr:Hid (∀ w,Calls Tryz.prog 16 #[Z (wrd ws nx),I J n] w fun e w'=>∃ v,e=Zr v∧w'.ownsRow w.heap.size 3 1 v (bY (wrd ws nx) n).length ((bY (wrd ws nx) n).map (Value.int .i64))∧(v=Y O 0 0↔aQ (wrd ws nx).data.toList n=false)∧Below w.heap.size w w'):=fun w=>qh _ n w (by unfold maxLen;omega)
 have HWd:Hid (Calls Tryz.prog 70 #[Zp (some ⟨br,0,O⟩)] w fun e w'=>e=Zr (Z (wrd ws nx))∧aJ w w' br vw ws (nxt ws nx) n (wr||!decide (nx<ws.length))):=jW br vw ws nx n wr w h hl
 have hlb:=lt_of_block h.block;rw[← HO.out];clear HO;generalize (wr||!decide (nx<ws.length))=w0 at *
 generalize aQ (wrd ws nx).data.toList n=ok at *;generalize bY (wrd ws nx) n=gr at *;have hnl:=fun w a n c=>Lib.run_eql_slice_nil (P:=Tryz.prog) w 44 3 a n c 0 0 Tryz.underlying44
 go_enter Tryz.func155,Tryz.ntmps155;go_wp2_with fail;refine HWd.out.mono ?_;rintro e w1 ⟨rfl,hP⟩;have c2:=hP.1.at 2 (by omega)
 simp at c2;go_wp2_with fail;refine (HGr.out _).mono ?_;rintro e w2 ⟨v2,rfl,ho2,hn2,hb2⟩;have hP2:=hP.below hb2;have c3:=hP2.1.at 3 (by omega)
 have f3:=hP2.1.free 3;simp at c3;have ho2':w2.ownsRow w.heap.size 3 1 v2 gr.length (gr.map (Value.int .i64)):=by
  refine⟨ho2.1,?_⟩
  rcases ho2.2 with q|⟨g,cap,cur,e,q1,q2,q3⟩
  ·exact .inl q
  ·exact .inr ⟨g,cap,cur,e,Nat.le_trans hP.2.size q1,q2,q3⟩
 cases ok
 ·obtain rfl:=hn2.2 rfl;go_wp2_with fail;go_ret;exact⟨_,rfl,gM ho2' ((Kp.refl [br] w2).set br 3 _ (.inl (by simp))) (fun x hx=>by simp at hx;subst hx;exact hlb),by simpa using hP2.wrong true⟩
 ·rcases ho2.2 with ⟨hv,_⟩|⟨g,cap,cur,hv,_⟩
  ·exact absurd (hn2.1 hv) (by decide)
  ·subst hv;go_wp2_with fail;go_ret;exact⟨_,rfl,ho2',by simpa using hP2⟩
end
theorem inDec (b:UInt8):inB b.toNat DEC.data.toList=ig b.toNat:=by
 rw[Bool.eq_iff_iff];unfold inB ig;simp[DEC];omega
theorem aZ {fn:Func} {t:Tmp} {T:TypeId} (h:fn.results=#[.cell t T]) (tmps:Array Value) (P:Program) (w:World) {p:Addr} {v:Value} (hp:tmps.getD t undef=Zp (some p)) (hl:(loadVar T p).run P w=.ok v w) :
  (results fn tmps).run P w=.ok v w:=by
 have hp':tmps[t]?.getD undef=Zp (some p):=by simpa using hp
 simp only[results,h];simp[hp',hl,asAddr]
theorem dO {w:World} {base base':Nat} {e:TypeId} {size:Nat} {v:Value} {n:Nat} {xs:List Value} (h:w.ownsRow base e size v n xs) (hb:base'≤base):w.ownsRow base' e size v n xs:=by
 refine⟨h.1,?_⟩
 rcases h.2 with q|⟨g,cap,cur,e,q1,q2,q3⟩
 ·exact .inl q
 ·exact .inr ⟨g,cap,cur,e,Nat.le_trans hb q1,q2,q3⟩
def qZ (s:ByteArray):ByteArray:=if fF s.data.toList=true then s else ⟨#[]⟩
section
variable (br:Nat) (vw:Value) (ws:List ByteArray) (nx:Nat) (n:Int) (wr:Bool) (w:World) (h:aI w br vw ws nx n wr) (hl:ws.length≤100000) (hz:∀ x∈ws,x.size≤1000)
theorem Er (br:Nat) (vw:Value) (ws:List ByteArray) (nx:Nat) (n:Int) (wr:Bool) (w:World) (h:aI w br vw ws nx n wr) (hl:ws.length≤100000) (hz:∀ x∈ws,x.size≤1000) :
  Calls Tryz.prog 116 #[Zp (some ⟨br,0,O⟩)] w fun e w'=>e=Zr (Z (qZ (wrd ws nx)))∧aJ w w' br vw ws (nxt ws nx) n (wr||!fF (wrd ws nx).data.toList):=by
 have hzw:=jB (nx:=nx) hz;have HO:Hid (((wr||!decide (nx<ws.length))||!fF (wrd ws nx).data.toList)=(wr||!fF (wrd ws nx).data.toList)):=lZ (f:=fun x=>fF x.data.toList) rfl
 have HWd:Hid (Calls Tryz.prog 70 #[Zp (some ⟨br,0,O⟩)] w fun e w'=>e=Zr (Z (wrd ws nx))∧aJ w w' br vw ws (nxt ws nx) n (wr||!decide (nx<ws.length))):=jW br vw ws nx n wr w h hl
 rw[← HO.out];clear HO;generalize (wr||!decide (nx<ws.length))=w0 at *
 generalize wrd ws nx=s at *;generalize nxt ws nx=nx' at *;have hls:=l6 s;have HD:Hid (fF s.data.toList=(s.data.toList.all (fun b=>ig b.toNat)&&(decide (1≤s.size)&&decide (s.size≤8)))):=by
  unfold Hid fF;rw[l6];congr 2;funext b;exact inDec b
 have HR0:Hid (fF s.data.toList=false→qZ s=⟨#[]⟩):=fun q=>by unfold qZ;rw[q];rfl
 have HR1:Hid (fF s.data.toList=true→qZ s=s):=fun q=>by unfold qZ;rw[q];rfl
 generalize qZ s=dr at *;generalize fF s.data.toList=ok at *;go_enter Tryz.func116,Tryz.ntmps116;go_wp2_with fail;refine HWd.out.mono ?_;rintro e w1 ⟨rfl,hP⟩;have c3:=hP.1.at 3 (by omega)
 have f3:=hP.1.free 3;simp at c3;clear hls;by_cases h1:s.size<1
 ·have HZ:Hid (ok=false):=by unfold Hid;rw[HD.out];simp;omega
  have h1':(s.size:Int)<1:=by omega
  go_wp2_with fail;go_ret;exact⟨je (by rw[HR0.out HZ.out]),by rw[HZ.out];simpa using hP.wrong true⟩
 by_cases h8:8<s.size
 ·have HZ:Hid (ok=false):=by unfold Hid;rw[HD.out];simp;omega
  have h8':(8:Int)<(s.size:Int):=by omega
  go_wp2_with fail;go_ret;exact⟨je (by rw[HR0.out HZ.out]),by rw[HZ.out];simpa using hP.wrong true⟩
 have HD2:Hid (ok=s.data.toList.all (fun b=>ig b.toNat)):=by unfold Hid;rw[HD.out,decide_eq_true (by omega:1≤s.size),decide_eq_true (by omega:s.size≤8)];simp
 go_upto_if 14 with fail
 go_cut [] from 5 (fun wr=>wr=w1)
 case first =>
  go_wp2_with fail;go_meet
  case rel=>rfl
 case rest =>
  subst hcut;go_wp2_with fail;go_loop [4] (fun i=>∃ k:Nat,k≤s.size∧i=I J k∧(s.data.toList.take k).all (fun b=>ig b.toNat)=true) (fun i=>s.size-(intOf i).toNat)
  case atStart=>exact⟨0,Nat.zero_le _,rfl,by simp⟩
  case round =>
   obtain⟨k,hk,rfl,h0⟩:=hrel
   have H0:Hid ((s.data.toList.take k).all (fun b=>ig b.toNat)=true):=h0
   clear h0;by_cases hlt:k<s.size
   ·have HDi:Hid (∀ w,Calls Tryz.prog 38 #[I .u8 (s[k].toNat:Int)] w fun e w'=>e=Zr (.bool (ig (s[k].toNat:Int)))∧w'=w):=fun w=>mD _ w
    have HT:Hid ((s.data.toList.take (k+1)).all (fun b=>ig b.toNat)=((s.data.toList.take k).all (fun b=>ig b.toNat)&&ig (s[k].toNat:Int))):=by
     unfold Hid;rw[uH s k hlt,List.all_append];simp
    have HF:Hid (ig (s[k].toNat:Int)=false→ok=false):=fun q=>by
     rw[HD2.out,List.all_eq_false];exact⟨s[k],List.getElem_mem (l:=s.data.toList) (by simpa using hlt),by simpa using q⟩
    generalize ig (s[k].toNat:Int)=dk at *;go_wp2_with fail;refine (HDi.out _).mono ?_;rintro e w2 ⟨rfl,hw2⟩;subst hw2;cases dk
    ·have HZ:Hid (ok=false):=HF.out (by trivial)
     go_wp2_with fail;go_ret;exact⟨je (by rw[HR0.out HZ.out]),by rw[HZ.out];simpa using hP.wrong true⟩
    ·go_wp2_with fail;go_round
     case rel=>exact⟨k+1,by omega,by go_num,by rw[HT.out,H0.out];rfl⟩
     case measure=>simp[intOf];omega
   ·obtain rfl:k=s.size:=by omega
    have HZ:Hid (ok=true):=by unfold Hid;rw[HD2.out];have:=H0.out;rwa [List.take_of_length_le (by rw[l6];exact Nat.le_refl _)] at this
    go_wp2_with fail;go_ret;exact⟨je (by rw[HR1.out HZ.out]),by rw[HZ.out];simpa using hP⟩
def eG (s:ByteArray) (n:Int):List Int:=if aK s n=true then dN s else []
theorem qw (br:Nat) (vw:Value) (ws:List ByteArray) (nx:Nat) (n:Int) (wr:Bool) (w:World) (h:aI w br vw ws nx n wr) (hl:ws.length≤100000) (hz:∀ x∈ws,x.size≤1000) (n3:3≤n) (n7:n≤7) :
    Calls Tryz.prog 117 #[Zp (some ⟨br,0,O⟩)] w fun e w'=>∃ v,e=Zr v∧w'.ownsRow w.heap.size 3 1 v (eG (wrd ws nx) n).length ((eG (wrd ws nx) n).map (Value.int .i64))∧aJ w w' br vw ws (nxt ws nx) n (wr||!aK (wrd ws nx) n):=by
  obtain⟨i0,hi,hz0,hz1,hz2⟩:=info_parts Tryz.infoInt
  have hzw:=jB (nx:=nx) hz
  have hlb:=lt_of_block h.block
  have HO:Hid (((wr||!decide (nx<ws.length))||!aK (wrd ws nx) n)=(wr||!aK (wrd ws nx) n)):=lZ (f:=fun x=>aK x n) (by
    have e:bX (⟨#[]⟩:ByteArray) 46=[⟨#[]⟩]:=rfl
    unfold aK;rw[e];simp;omega)
  have HWd:Hid (Calls Tryz.prog 70 #[Zp (some ⟨br,0,O⟩)] w fun e w'=>e=Zr (Z (wrd ws nx))∧aJ w w' br vw ws (nxt ws nx) n (wr||!decide (nx<ws.length))):=jW br vw ws nx n wr w h hl
  rw[← HO.out]
  clear HO
  generalize (wr||!decide (nx<ws.length))=w0 at *
  generalize wrd ws nx=s at *
  generalize nxt ws nx=nx' at *
  have HSp : Hid (∀ w, Calls Tryz.prog 40 #[Z s, I .u8 46] w fun e w' => ∃ v, e = Zr v ∧ w'.ownsRow w.heap.size 9 1 v (bX s 46).length ((bX s 46).map Value.string) ∧ Below w.heap.size w w') := fun w => qj s 46 w (by omega)
  have hps:=kN s 46
  have hpl:=BQ s 46
  have HI:Hid (aK s n=((bX s 46).all (fun p=>aj p.data.toList 0 999)&&((bX s 46).length:Int)==n)):=rfl
  have HR0 : Hid (aK s n = false → eG s n = []) := fun q => by unfold eG; rw [q]; rfl
  have HR1 : Hid (aK s n = true → eG s n = (bX s 46).map (fun p => aH p.data.toList)) := fun q => by unfold eG; rw [q]; rfl
  generalize bX s 46=ps at *
  generalize eG s n=lr at *
  generalize aK s n=ok at *
  go_enter Tryz.func117,Tryz.ntmps117
  go_wp2_with fail
  refine HWd.out.mono ?_
  rintro e w1 ⟨rfl,hP⟩
  go_wp2_with fail
  refine (HSp.out _).mono ?_
  rintro e w2 ⟨v2,rfl,hown2,hb2⟩
  have hP2:=hP.below hb2
  have hst:=Strs.bK hown2
  obtain⟨a2,cap2,rfl,_,_⟩:=hst.shape
  have c2 := hP2.1.at 2 (by omega)
  have c3 := hP2.1.at 3 (by omega)
  have f3:=hP2.1.free 3
  simp at c2 c3
  have hsz1:w.heap.size≤w2.heap.size:=hP2.2.size
  clear hown2
  have bne:((ps.length:Int) != n) = !((ps.length:Int)==n):=rfl
  cases hq:((ps.length:Int)==n)
  · have HZ : Hid (ok = false) := by unfold Hid; rw [HI.out, hq]; simp
    rw[hq] at bne
    have p3:((ps.length:Int) != n)=true:=bne
    go_wp2_with fail
    go_ret
    exact ⟨_, rfl, by rw [HR0.out HZ.out]; exact World.ownsRow_nil _ _ _ _, by rw [HZ.out]; simpa using hP2.wrong true⟩
  rw[hq] at bne
  have p3:((ps.length:Int) != n)=false:=bne
  have HQ:Hid (((ps.length:Int)==n)=true):=hq
  have hpl7 : ps.length ≤ 7 := by have : (ps.length : Int) = n := by simpa using hq
                                  omega
  clear bne hq
  go_upto_if 19 with fail
  go_cut [] from 9 (fun wr=>wr=w2)
  case first =>
    go_wp2_with fail
    go_meet
    case rel=>rfl
  case rest =>
    subst hcut
    clear p3
    go_wp2_with fail
    go_loopw [5,6] (fun v i wr=>∃ k:Nat,k≤ps.length∧i=I J k∧wr.ownsRow wc.heap.size 3 1 v (((ps.take k).map (fun p=>aH p.data.toList)).map (Value.int .i64)).length (((ps.take k).map (fun p=>aH p.data.toList)).map (Value.int .i64))∧(ps.take k).all (fun p=>aj p.data.toList 0 999)=true∧Below wc.heap.size wc wr) (fun _ i _=>ps.length-(intOf i).toNat)
    case atStart => exact ⟨0, Nat.zero_le _, rfl, World.ownsRow_nil _ _ _ _, by simp, Below.refl _ _⟩
    case round =>
      obtain⟨k,hk,rfl,hown,hall,hb⟩:=hrel
      have HAl:Hid ((ps.take k).all (fun p=>aj p.data.toList 0 999)=true):=hall
      clear hall
      have hP3:=hP2.below hb
      by_cases hlt:k<ps.length
      · have hstr:=hst.below hb
        obtain⟨bp,op,rfl,_,yk⟩:=hstr.get k hlt
        have zk:=hps ps[k] (List.getElem_mem _)
        have HNk : Hid (∀ w, Calls Tryz.prog 150 #[Z ps[k], I J 0, I J 999] w fun e w' => e = Zr (.tuple #[I J (aC ps[k] 0 999), .bool (aj ps[k].data.toList 0 999)]) ∧ w' = w) := fun w => nN _ _ _ w (by unfold maxLen; omega) (by omega) (by omega)
        have HNv : Hid (aj ps[k].data.toList 0 999 = true → aC ps[k] 0 999 = aH ps[k].data.toList) := fun q => by unfold aC; rw [q]; rfl
        have HTk:Hid ((ps.take (k+1)).map (fun p=>aH p.data.toList)=(ps.take k).map (fun p=>aH p.data.toList)++[aH ps[k].data.toList]):=qP hlt
        have HAk:Hid ((ps.take (k+1)).all (fun p=>aj p.data.toList 0 999)=((ps.take k).all (fun p=>aj p.data.toList 0 999)&&aj ps[k].data.toList 0 999)):=by
          unfold Hid;rw[List.take_succ_eq_append_getElem hlt,List.all_append];simp
        have HF:Hid (aj ps[k].data.toList 0 999=false→ok=false):=fun q=>by
          have : ps.all (fun p => aj p.data.toList 0 999) = false := List.all_eq_false.2 ⟨ps[k], List.getElem_mem _, by simpa using q⟩
          rw[HI.out,this];rfl
        have hml : ((ps.take k).map (fun p => aH p.data.toList)).length ≤ 10 := by simp; omega
        generalize (ps.take k).map (fun p=>aH p.data.toList)=lk at *
        have j1 : (0 : Int) ≤ (k : Int) := by omega
        have j2 : (k : Int) < (ps.length : Int) := by omega
        have c3' := hP3.1.at 3 (by omega)
        have f3':=hP3.1.free 3
        simp at c3'
        generalize aj ps[k].data.toList 0 999=wk at *
        generalize aC ps[k] 0 999=xk at *
        go_wp2_with fail
        refine (HNk.out _).mono ?_
        rintro e w4 ⟨rfl,hw4⟩
        subst hw4
        cases wk
        · have HZ : Hid (ok = false) := HF.out (by trivial)
          go_wp2_with fail
          go_ret
          exact ⟨_, rfl, by rw [HR0.out HZ.out]; exact World.ownsRow_nil _ _ _ _, by rw [HZ.out]; simpa using hP3.wrong true⟩
        · have hx := HNv.out (by trivial)
          have HX:Hid (xk=aH ps[k].data.toList):=hx
          clear hx
          go_wp2_with (at_builtin; refine app1 rfl _ _ 44 rfl wc.heap.size 3 i0 (I J 0) 1 8 Tryz.underlying44 hi hz0 hz1 hz2 rfl (by decide) w4 _ _ _ (by rfl) hown 1 [I J xk] (by rfl) rfl ?c2 (by simp; omega) (by decide) hb.size ?_)
          case c2=>intro u hu;simp at hu;subst hu;rfl
          intro v5 w5 hown5 hg5 hb5 hn5
          go_wp2_with fail
          go_roundw
          case rel => exact ⟨k + 1, by omega, by go_num, by rw [HTk.out, ← HX.out]; simpa using hown5, by rw [HAk.out, HAl.out]; rfl, hb.trans hb5⟩
          case measure=>simp[intOf];omega
      · obtain rfl : k = ps.length := by omega
        have HZ : Hid (ok = true) := by unfold Hid; rw [HI.out, HQ.out]; have := HAl.out; rw [List.take_length] at this; rw [this]; rfl
        rw[List.take_length] at hown
        go_wp2_with fail
        go_ret
        exact ⟨_, rfl, by rw [HR1.out HZ.out]; exact dO (by simpa using hown) hsz1, by rw [HZ.out]; simpa using hP3⟩
end
variable {X:List Nat}
def iK (M:Nd) (ls:List Int) (k:Nat):Nd :=
 if (((k:Int) != M.id)&&decide (M.lives.getD k 0<ls.getD k 0))=true then { M with lives:=M.lives.set k (ls.getD k 0),acks:=M.acks.set k 0 } else M
variable {X:List Nat}
theorem BN {P:Program} {ops:Array Oper} {rest:List Oper} {o:Oper} {a:Act} {Q:Exit→Act→World→Prop} (hgd:o.guard=O) (s x:Operand) (t:TypeId)
  (ho:o.op=.call { callee:=.builtin .append,args:=#[s,x],argTypes:=#[t,t] })
  (base:Nat) (e:TypeId) (i:TypeInfo) (z:Value) (size bytes:Nat) (ht:P.underlying t=some (.slice e)) (hi:P.info? e=some i) (hz:i.zero=some z)
  (hsize:i.size=size) (hby:i.bytes=bytes) (hzs:z.cells.size=size) (hsz:0<size)
  (w:World) (g:Nat) (hg:w.heap.size=g) (v:Value) (n:Nat) (xs:List Value) (hs:a.eval s=v) (hown:w.ownsRow base e size v n xs)
  (c:Nat) (news:List Value) (hx:a.eval x=Y (some ⟨g,0,O⟩) 1 c) (hl:news.length=size) (h1:∀ u∈news,u.oneCell'=true)
  (hn:n≤1000000000) (hby2:bytes≤1000) (hbase:base≤w.heap.size)
  (h:∀ v' w',w'.ownsRow base e size v' (n+1) (xs++news)→w.grownBy w' v.ownBlock→Below base w w'→v'≠Y O 0 0→wpList P ops Q rest (a.put o.dst v') w') :
  wpList P ops Q (o :: rest) a (w.alloc (.cells news.toArray e)):=by
 subst hg;exact app1 hgd s x t ho base e i z size bytes ht hi hz hsize hby hzs hsz w v n xs hs hown c news hx hl h1 hn hby2 hbase h
variable {X:List Nat}
def KA:ByteArray:=⟨#[97]⟩
variable {X:List Nat}
def KH:ByteArray:=⟨#[104]⟩
variable {X:List Nat}
def KC:ByteArray:=⟨#[99]⟩
end Go.Proofs.YtajakaadgagejaaGreatDoor
