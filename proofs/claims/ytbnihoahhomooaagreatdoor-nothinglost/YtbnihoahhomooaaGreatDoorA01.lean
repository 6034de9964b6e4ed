import Derived.Test.YtbnihoahhomooaaGreatDoorProg
import Derived.WalkKit
import Derived.WalkSpells
import Derived.WalkLawsBesides
import Derived.Laws.BytesArg
import Derived.Laws.OwnMore
import Derived.Laws.AppendOwnNone
import Derived.Deep.QuietTactic
import Derived.BigQuiet
import Derived.Deep.RegionHeld3
import Derived.Deep.AppendLies
import Derived.Deep.RegionLaw
import Derived.Deep.RegionWith
import Derived.Deep.Cut
import Derived.Laws.IdiomStrings
import Derived.Laws.Rows
set_option maxRecDepth 100000
set_option maxHeartbeats 8000000
set_option linter.all false
namespace Go.Proofs.YtbnihoahhomooaaGreatDoor
open Go.Value renaming int→I,slice→Y,string→Z,pointer→Zp
open Go.Ending renaming returned→Zr
open _root_.ByteArray renaming empty→Ze
open Go.IntKind renaming i64→J
open Option renaming none→O
open Go.RowKit
theorem aU {a b:Bool} (h:a=b):Zr (.bool a)=Zr (.bool b):=by rw[h]
theorem nS {k:IntKind} {a b:Int} (h:a=b):Zr (.int k a)=Zr (.int k b):=by rw[h]
theorem jF {a b:ByteArray} (h:a=b):Zr (Z a)=Zr (Z b):=by rw[h]
theorem rZ (s:ByteArray) (k:Nat) (h:k<s.size):s.data.toList.take (k+1)=s.data.toList.take k++[s[k]]:=by
 rw[List.take_succ_eq_append_getElem (by simpa using h)];rfl
theorem IV (a b:List UInt8):(⟨a.toArray⟩:ByteArray)++⟨b.toArray⟩=⟨(a++b).toArray⟩:=by
 ext1;simp
theorem Kr (n:Int) (w:World):(convert 100 9 (Y (some ⟨w.heap.size,0,O⟩) 1 1)).run Tryz.prog (w.alloc (.cells #[I .u8 n] 5))=.ok (Z ⟨#[UInt8.ofNat n.toNat]⟩) (w.alloc (.cells #[I .u8 n] 5)):=by
 have h:=run_convert_bytes_arg (P:=Tryz.prog) (w.alloc (.cells #[I .u8 n] 5)) 100 5 Tryz.underlying100 Tryz.underlying5 w.heap.size 0 1 1 [n] rfl (fun i hi=>by
  obtain rfl:i=0:=by omega
  simp) 9 Tryz.underlying9
 rw[h];rfl
theorem zw {w w':World} {o:Obj} {row:Option Nat} (h:(w.alloc o).grownBy w' row):w.grownBy w' row :=
 ⟨h.os,h.tape,h.output,by have:=h.size;simp at this;omega,fun k hk hne=>(h.block k (by simp;omega) hne).trans (Below.heap_alloc w o k hk)⟩
theorem app1 {P:Program} {ops:Array Oper} {rest:List Oper} {o:Oper} {a:Act} {Q:Exit→Act→World→Prop} (hgd:o.guard=O) (s x:Operand) (t:TypeId)
  (ho:o.op=.call { callee:=.builtin .append,args:=#[s,x],argTypes:=#[t,t] })
  (base:Nat) (e:TypeId) (i:TypeInfo) (z:Value) (size bytes:Nat) (ht:P.underlying t=some (.slice e)) (hi:P.info? e=some i) (hz:i.zero=some z)
  (hsize:i.size=size) (hby:i.bytes=bytes) (hzs:z.cells.size=size) (hsz:0<size)
  (w:World) (v:Value) (n:Nat) (xs:List Value) (hs:a.eval s=v) (hown:w.ownsRow base e size v n xs)
  (c:Nat) (news:List Value) (hx:a.eval x=Y (some ⟨w.heap.size,0,O⟩) 1 c) (hl:news.length=size) (h1:∀ u∈news,u.oneCell'=true)
  (hn:n≤1000000000) (hby2:bytes≤1000) (hbase:base≤w.heap.size)
  (h:∀ v' w',w'.ownsRow base e size v' (n+1) (xs++news)→w.grownBy w' v.ownBlock→Below base w w'→v'≠Y O 0 0→wpList P ops Q rest (a.put o.dst v') w') :
  wpList P ops Q (o :: rest) a (w.alloc (.cells news.toArray e)):=by
 refine wpList_append_own _ hgd s x t ho base e i z size bytes ht hi hz hsize hby hzs hsz v n xs hs (hown.alloc _) ⟨w.heap.size,0,O⟩ 1 c news hx (by simpa using hl) ?_ h1 (by unfold maxLen;omega) ?_ (by simp;omega) ?_
 ·intro j u hj;have hjl:j<news.length:=(List.getElem?_eq_some_iff.1 hj).1
  have hplain:(⟨w.heap.size,0,O⟩:Addr).add j=⟨w.heap.size,j,O⟩:=by unfold Addr.add;split <;> simp_all
  rw[hplain];simp[hj]
 ·have:(n+1)*bytes≤1000000001*1000:=Nat.mul_le_mul (by omega) hby2
  omega
 ·intro v' w' h2 h3 h4;have g:=zw h3;refine h v' w' h2 g ((Below.refl _ w).grown g hbase ?_) (fun hc=>by rw[h4] at hc;simp at hc)
  intro k hk;exact (hown.lt k hk).1
def inB (c:Int) (l:List UInt8):Bool:=l.any fun b=>(b.toNat:Int)==c
def jo (n:Nat):List UInt8:=if n<10 then [UInt8.ofNat (48+n)] else jo (n / 10)++[UInt8.ofNat (48+n % 10)]
theorem uw {n:Nat} (h:n<10):jo n=[UInt8.ofNat (48+n)]:=by rw[jo,if_pos h]
theorem Ht {n:Nat} (h:¬n<10):jo n=jo (n / 10)++[UInt8.ofNat (48+n % 10)]:=by rw[jo,if_neg h]
theorem Kz (n:Nat):(jo n).length≤n+1:=by
 induction n using Nat.strongRecOn with
 | ind n ih =>
 by_cases h:n<10
 ·rw[uw h];simp
 ·rw[Ht h];have:=ih (n / 10) (by omega);simp;omega
def iT (l:List UInt8):Int:=l.foldl (fun v b=>v*10+((b.toNat:Int)-48)) 0
def gM (b:UInt8):Bool:=decide (48≤(b.toNat:Int))&&decide ((b.toNat:Int)≤57)
def jW (l:List UInt8):Bool:=l.all gM&&!l.isEmpty&&decide (l.length≤3)&&!(l.head?==some 48&&!(l==[48]))
def aF (l:List UInt8):Int:=if jW l then iT l else -1
theorem J6 (l:List UInt8) (b:UInt8):iT (l++[b])=iT l*10+((b.toNat:Int)-48):=by simp[iT]
theorem OQ {s:ByteArray} {k:Nat} (h:k<s.size) (h1:¬(48≤(s[k].toNat:Int)∧(s[k].toNat:Int)≤57)):aF s.data.toList = -1:=by
 unfold aF;rw[if_neg];intro hc;simp only[jW,Bool.and_eq_true,List.all_eq_true] at hc;have:=hc.1.1.1 s[k] (by rw[show s[k]=s.data.toList[k]'(by simpa using h) from rfl];exact List.getElem_mem _)
 simp[gM] at this;omega
theorem nC (s:ByteArray):s.data.toList.length=s.size:=by simp
theorem nilS {s:ByteArray} (h:s.size=0):s.data.toList=[]:=List.eq_nil_of_length_eq_zero (by rw[nC,h])
theorem JC {s:ByteArray} (h:¬s.size=0):s.data.toList.isEmpty=false:=by
 have:=nC s
 cases hl:s.data.toList with
 | nil=>rw[hl] at this;exact absurd this.symm h
 | cons=>rfl
theorem Nn {s:ByteArray} (h:s.size=0):aF s.data.toList = -1:=by
 rw[nilS h];rfl
theorem Lp {s:ByteArray} (hp:0<s.size) (hz:((s[0].toNat:Int)==48)=true) (h:(s.toList==[48])=false):aF s.data.toList = -1:=by
 rw[ByteArray.toList_eq] at h;have hh:s.data.toList.head? = some 48:=by
  rw[List.head?_eq_getElem?,List.getElem?_eq_getElem (by simpa using hp)]
  have e:s.data.toList[0]'(by simpa using hp)=s[0]:=rfl
  rw[e];congr 1;apply UInt8.toNat_inj.1;have:=eq_of_beq hz;have e2:(48:UInt8).toNat=48:=rfl;omega
 unfold aF jW;rw[if_neg];rw[hh,h];simp
theorem Ew {s:ByteArray} (hp:0<s.size) (h3:¬3<s.size) (ha:s.data.toList.all gM=true) (h:((s[0].toNat:Int)==48)=false∨(s.toList==[48])=true):jW s.data.toList=true:=by
 unfold jW;rw[ha];have e1:s.data.toList.isEmpty=false:=JC (by omega)
 have e2:decide (s.data.toList.length≤3)=true:=by rw[nC];simp;omega
 rw[e1,e2];rcases h with h|h
 ·have hh:(s.data.toList.head?==some 48)=false:=by
   rw[List.head?_eq_getElem?,List.getElem?_eq_getElem (by simpa using hp)]
   have e:s.data.toList[0]'(by simpa using hp)=s[0]:=rfl
   rw[e];simp;intro hc;rw[hc] at h;simp at h
  rw[hh];rfl
 ·rw[ByteArray.toList_eq] at h;rw[h];simp
theorem Kj {s:ByteArray} {k:Nat} (h:k<s.size) (h0:(s.data.toList.take k).all gM=true) (h1:48≤(s[k].toNat:Int)) (h2:(s[k].toNat:Int)≤57):(s.data.toList.take (k+1)).all gM=true:=by
 rw[rZ s k h];simp only[List.all_append,h0,List.all_cons,List.all_nil,gM];simp;omega
def au (l:List UInt8) (a b:Int):Bool:=decide (a≤aF l)&&decide (aF l≤b)
theorem ext1 (s:ByteArray) (k:Nat) (h:k<s.size):(s.extract k (k+1)).data.toList=[s[k]]:=by
 have e:s.data.toList[k]'(by simpa using h)=s[k]:=rfl
 simp[ByteArray.data_extract,Array.toList_extract,List.extract];rw[List.drop_eq_getElem_cons (by simpa using h)]
 simp[e]
def gAt (l:List UInt8) (n:Int) (i:Nat):Bool:=decide (0≤aF [l.getD i 0])&&decide (aF [l.getD i 0]<n)&&(List.range i).all fun j=>!(l.getD i 0==l.getD j 0)
def gTo (l:List UInt8) (n:Int) (k:Nat):Bool:=(List.range k).all (gAt l n)
def aV (l:List UInt8) (n:Int):Bool:=gTo l n l.length&&(l.length==3||l.length==5)
theorem KR (l:List UInt8) (n:Int) (k:Nat):gTo l n (k+1)=(gTo l n k&&gAt l n k):=by simp[gTo,List.range_succ]
theorem I9 {l:List UInt8} {n:Int} {k:Nat} (hk:k<l.length) (h:gAt l n k=false):aV l n=false:=by
 have:gTo l n l.length=false:=by
  unfold gTo;rw[List.all_eq_false];exact⟨k,by simpa using hk,by simp[h]⟩
 simp[aV,this]
theorem atS {s:ByteArray} {k:Nat} (h:k<s.size):s.data.toList.getD k 0=s[k]:=by
 have e:s.data.toList[k]'(by simpa using h)=s[k]:=rfl
 rw[← e];simp[List.getD,List.getElem?_eq_getElem (show k<s.data.toList.length by simpa using h)]
theorem I7 {s:ByteArray} {n:Int} {k:Nat} (h:k<s.size) (h1:aF [s[k]]<0∨n≤aF [s[k]]):gAt s.data.toList n k=false:=by
 unfold gAt;rw[atS h];rcases h1 with h1|h1
 ·rw[decide_eq_false (by omega)];simp
 ·rw[decide_eq_false (p:=aF [s[k]]<n) (by omega)];simp
theorem I8 {s:ByteArray} {n:Int} {k j:Nat} (h:k<s.size) (hj:j<k) (h1:((s[k].toNat:Int)==(s[j]'(by omega)).toNat)=true):gAt s.data.toList n k=false:=by
 unfold gAt;have h2:s[k]=s[j]'(by omega):=UInt8.toNat_inj.1 (by have:=eq_of_beq h1;omega)
 have:((List.range k).all fun j=>!(s.data.toList.getD k 0==s.data.toList.getD j 0))=false:=by
  rw[List.all_eq_false];exact⟨j,by simpa using hj,by rw[atS h,atS (show j<s.size by omega),h2];simp⟩
 rw[this];simp
theorem Tryz.infoStr:(Tryz.prog.info? 9).map (fun i=>(i.zero,i.size,i.bytes))=some (some (Z Ze),1,16):=by kernel_rfl
def gq (s:ByteArray) (c:Int):Nat→List ByteArray×Nat
 | 0=>([],0)
 | k+1=>if h:k<s.size then (if ((s[k].toNat:Int)==c)=true then ((gq s c k).1++[s.extract (gq s c k).2 k],k+1) else gq s c k) else gq s c k
def bP (s:ByteArray) (c:Int):List ByteArray:=(gq s c s.size).1++[s.extract (gq s c s.size).2 s.size]
theorem BD {s:ByteArray} {c:Int} {k:Nat} (h:k<s.size) (h1:((s[k].toNat:Int)==c)=true):gq s c (k+1)=((gq s c k).1++[s.extract (gq s c k).2 k],k+1):=by
 rw[gq,dif_pos h,if_pos h1]
theorem DW {s:ByteArray} {c:Int} {k:Nat} (h:k<s.size) (h1:((s[k].toNat:Int)==c)=false):gq s c (k+1)=gq s c k:=by
 rw[gq,dif_pos h,if_neg (by simp[h1])]
theorem uh (s:ByteArray) (c:Int) (k:Nat):(gq s c k).2≤k∧(gq s c k).1.length≤k:=by
 induction k with
 | zero=>simp[gq]
 | succ k ih=>unfold gq;split <;> (try split) <;> (try simp) <;> omega
def Rd (w:World) (size:Nat) (v:Value) (n:Nat) (xs:List Value):Prop :=
 xs.length=n*size∧((v=Y O 0 0∧n=0)∨∃ b off cap,v=Y (some ⟨b,off,O⟩) n cap∧n≤cap∧cap≤maxLen∧b<w.heap.size∧∀ j u,xs[j]? = some u→w.cell? ⟨b,off+j,O⟩=some u)
theorem Rd.form {w:World} {size:Nat} {v:Value} {n:Nat} {xs:List Value} (h:Rd w size v n xs) :
  ∃ a cap,v=Y a n cap∧n≤cap∧cap≤maxLen∧(0<n→∃ b off,a=some ⟨b,off,O⟩∧b<w.heap.size∧∀ j u,xs[j]? = some u→w.cell? ⟨b,off+j,O⟩=some u):=by
 obtain⟨_,h⟩:=h
 rcases h with ⟨rfl,rfl⟩|⟨b,off,cap,rfl,h1,h2,h3,h4⟩
 ·exact⟨O,0,rfl,Nat.le_refl _,by unfold maxLen;omega,fun h=>absurd h (by omega)⟩
 ·exact⟨_,cap,rfl,h1,h2,fun _=>⟨b,off,rfl,h3,h4⟩⟩
theorem Rd.bR {w:World} {base:Nat} {e:TypeId} {size:Nat} {v:Value} {n:Nat} {xs:List Value} (h:w.ownsRow base e size v n xs):Rd w size v n xs:=by
 refine⟨h.1,?_⟩
 rcases h.2 with h2|⟨g,cap,cur,rfl,hb,hg,hn,hm,hc,ht⟩
 ·exact .inl h2
 ·refine .inr ⟨g,0,cap,rfl,hn,hm,lt_of_block hg,?_⟩;intro j u hj;have:=h.cells rfl j u hj
  have hplain:(⟨g,0,O⟩:Addr).add j=⟨g,0+j,O⟩:=by unfold Addr.add;split <;> simp_all
  rwa [hplain] at this
theorem Rd.keep {w w':World} {size:Nat} {v:Value} {n:Nat} {xs:List Value} (h:Rd w size v n xs) (hs:w.heap.size≤w'.heap.size) (hk:∀ b,v.ownBlock=some b→b<w.heap.size→w'.heap[b]? = w.heap[b]?):Rd w' size v n xs:=by
 refine⟨h.1,?_⟩
 rcases h.2 with h2|⟨b,off,cap,rfl,h1,h2,h3,h4⟩
 ·exact .inl h2
 ·exact .inr ⟨b,off,cap,rfl,h1,h2,by omega,fun j u hj=>(World.cell?_of_block (hk b rfl h3)).trans (h4 j u hj)⟩
theorem Rd.below {w w':World} {size:Nat} {v:Value} {n:Nat} {xs:List Value} (h:Rd w size v n xs) (hb:Below w.heap.size w w'):Rd w' size v n xs :=
 h.keep hb.size fun b _ hb2=>hb.block b hb2
def Strs (w:World) (v:Value) (l:List ByteArray):Prop:=Rd w 1 v l.length (l.map Value.string)
theorem Strs.below {w w':World} {v:Value} {l:List ByteArray} (h:Strs w v l) (hb:Below w.heap.size w w'):Strs w' v l:=Rd.below h hb
def fG (l:List ByteArray) (c:ByteArray):Nat→ByteArray
 | 0=>Ze
 | k+1=>(if 0<k then fG l c k++c else fG l c k)++l.getD k Ze
def qd (l:List ByteArray) (c:ByteArray):ByteArray:=fG l c l.length
theorem Strs.get {w:World} {a:Option Addr} {n cap:Nat} {l:List ByteArray} (h:Strs w (Y a n cap) l) (k:Nat) (hk:k<l.length) :
  ∃ b off,a=some ⟨b,off,O⟩∧b<w.heap.size∧w.cell? ⟨b,off+k,O⟩=some (Z l[k]):=by
 rcases h.2 with ⟨h1,h2⟩|⟨b,off,cap',h1,_,_,hb,hc⟩
 ·omega
 ·simp only[Value.slice.injEq] at h1;obtain⟨rfl,rfl,rfl⟩:=h1
  exact⟨b,off,rfl,hb,hc k _ (by simp[hk])⟩
theorem Strs.shape {w:World} {v:Value} {l:List ByteArray} (h:Strs w v l):∃ a cap,v=Y a l.length cap∧l.length≤cap∧cap≤9223372036854775807:=by
 obtain⟨a,cap,rfl,hn,hm,_⟩:=h.form
 exact⟨a,cap,rfl,hn,by unfold maxLen at hm;omega⟩
theorem Strs.bR {w:World} {base:Nat} {e:TypeId} {v:Value} {l:List ByteArray} (h:w.ownsRow base e 1 v l.length (l.map Value.string)):Strs w v l:=Rd.bR h
def opB (e:ByteArray):ByteArray:=(bP e 46).getD 2 Ze
def isR (e:ByteArray):Bool:=(opB e).data.toList.head?==some 114
def O9 (l:List ByteArray):Nat:=(l.filter isR).length
def OD (o:ByteArray):Prop:=2≤o.size∧(o.data.toList.getD 0 0≠114→o.data.toList.getD 0 0≠103→o.data.toList.getD 0 0≠112→o.data.toList.getD 0 0≠100→o.size=4)
def Cw (e:ByteArray):Prop:=e.size≤100000000∧2<(bP e 46).length∧OD (opB e)
def b0 (o:ByteArray):Int:=(o.data.toList.getD 0 0).toNat
def b1 (o:ByteArray):Int:=(o.data.toList.getD 1 0).toNat
def DI (log:List ByteArray) (key:Int):Nat→ByteArray
 | 0=>⟨#[]⟩
 | n+1 =>
  let o:=opB (log.getD n Ze)
  if b1 o != key||b0 o==114||b0 o==103 then DI log key n
  else if b0 o==112 then o.extract 2 o.size
  else if b0 o==100 then ⟨#[]⟩
  else if (DI log key n).toList==(o.extract 2 3).toList then o.extract 3 o.size else DI log key n
theorem Od {o:ByteArray} (h:0<o.size):b0 o=(o[0].toNat:Int):=by unfold b0;rw[atS h]
theorem Oe {o:ByteArray} (h:1<o.size):b1 o=(o[1].toNat:Int):=by unfold b1;rw[atS h]
variable {X:List Nat}
structure J9 (l:List ByteArray):Prop where
 len:l.length≤10
 eg:∀ e∈l,Cw e
 es:∀ e∈l,e.size≤400
 er:∀ e∈l,isR e=true→(opB e).size≤6
def LET:ByteArray:=⟨#[97,98,99,100,101,102,103,104,105,106,107,108,109,110,111,112,113,114,115,116,117,118,119,120,121,122]⟩
def LETD:ByteArray:=⟨#[97,98,99,100,101,102,103,104,105,106,107,108,109,110,111,112,113,114,115,116,117,118,119,120,121,122,48,49,50,51,52,53,54,55,56,57]⟩
def DEC:ByteArray:=⟨#[48,49,50,51,52,53,54,55,56,57]⟩
def isLet (b:UInt8):Bool:=inB b.toNat LET.data.toList
def isVal (b:UInt8):Bool:=inB b.toNat LETD.data.toList
def fQ (b:UInt8):Nat:=if b=103 then 2 else if b=100 then 2 else if b=112 then 3 else if b=99 then 4 else 0
def opTo (l:List UInt8) (i:Nat):Bool:=isLet (l.getD 1 0)&&((l.take i).drop 2).all isVal
def dU (l:List UInt8):Bool:=decide (2≤l.length)&&!(fQ (l.getD 0 0)==0)&&(opTo l l.length&&l.length==fQ (l.getD 0 0))
theorem hd1 (s:ByteArray) (h:0<s.size) (x:UInt8):((s.extract 0 1).toList==[x])=(s[0]==x):=by
 rw[ByteArray.toList_eq,ext1 s 0 h];simp
theorem FP {s:ByteArray} (h:s.size<2):dU s.data.toList=false:=by
 unfold dU;rw[nC,decide_eq_false (by omega)];rfl
theorem Fz (s:ByteArray) (c:Int) (k:Nat):∀ p∈(gq s c k).1,p.size≤s.size:=by
 induction k with
 | zero=>simp[gq]
 | succ k ih =>
  unfold gq;split
  ·split
   ·intro p hp;rcases List.mem_append.1 hp with hp|hp
    ·exact ih p hp
    ·simp at hp;subst hp;simp;omega
   ·exact ih
  ·exact ih
theorem lW (s:ByteArray) (c:Int):∀ p∈bP s c,p.size≤s.size:=by
 intro p hp;rcases List.mem_append.1 hp with hp|hp
 ·exact Fz s c _ p hp
 ·simp at hp;subst hp;simp
theorem DV (s:ByteArray) (c:Int):(bP s c).length≤s.size+1:=by
 unfold bP;have:=uh s c s.size;simp;omega
theorem drop1 (s:ByteArray):(s.extract 1 s.size).data.toList=s.data.toList.drop 1:=by
 simp[ByteArray.data_extract,Array.toList_extract,List.extract];rw[List.take_of_length_le (by simp)]
def jH (l:List UInt8) (n:Int):Bool:=if l.head? = some 114 then aV (l.drop 1) n else dU l
def ze (ps:List ByteArray) (n:Int):Bool :=
 match ps with
 | [p0,p1,p2]=>au p0.data.toList 1 9&&au p1.data.toList 1 999&&jH p2.data.toList n
 | _=>false
def dR (s:ByteArray) (n:Int):Bool:=ze (bP s 46) n
theorem IZ {ps:List ByteArray} {n:Int} (h:¬ps.length=3):ze ps n=false:=by
 unfold ze;split
 ·simp at h
 ·rfl
theorem KV {s:ByteArray} (h:0<s.size):s.data.toList.head? = some s[0]:=by
 rw[List.head?_eq_getElem?,List.getElem?_eq_getElem (by simpa using h)];rfl
theorem Oc {s:ByteArray} {n:Int} (h:0<s.size) (h1:((s[0].toNat:Int)==114)=true):jH s.data.toList n=aV (s.extract 1 s.size).data.toList n:=by
 unfold jH;rw[KV h,drop1,if_pos]
 congr 1;apply UInt8.toNat_inj.1;have:=eq_of_beq h1;have e2:(114:UInt8).toNat=114:=rfl;omega
theorem ask_o {s:ByteArray} {n:Int} (h:0<s.size) (h1:((s[0].toNat:Int)==114)=false):jH s.data.toList n=dU s.data.toList:=by
 unfold jH;rw[KV h,if_neg];intro hc;rw[Option.some.injEq] at hc;rw[hc] at h1;simp at h1
def lq (s:ByteArray):List ByteArray:=if s.toList==[45] then [] else bP s 47
def dS (s:ByteArray) (n:Int):Bool:=if s.toList==[45] then true else (bP s 47).all (fun p=>dR p n)&&decide ((bP s 47).length≤10)
def cu (s:ByteArray) (n:Int):Bool:=(bP s 46).all (fun p=>au p.data.toList 0 999)&&((bP s 46).length:Int)==n
def bytes (l:List UInt8):ByteArray:=⟨l.toArray⟩
def bG (s:ByteArray):ByteArray :=
 if s.toList==[113] then ⟨#[99,110,111]⟩ else if s.toList==[109] then ⟨#[99,110,118,119]⟩ else if s.toList==[112] then ⟨#[102,108,101,118,120,112,121]⟩
 else if s.toList==[107] then ⟨#[102,108,101,118,121]⟩ else if s.toList==[99] then ⟨#[102,108,101,118,121]⟩
 else if s.toList==[104] then ⟨#[102,108,101,118]⟩ else if s.toList==[103] then ⟨#[102,108,101,118]⟩ else if s.toList==[114] then ⟨#[102,108,101,118]⟩ else if s.toList==[116] then ⟨#[102,108,101,118]⟩
 else if s.toList==[118] then ⟨#[102,108,101,118,118,121,76]⟩ else if s.toList==[115] then ⟨#[102,108,101,118,103,104,121,76]⟩ else if s.toList==[97] then ⟨#[102,108,101,118,105,103,104,121,76]⟩
 else ⟨#[]⟩
def iX (l:List UInt8):Bool:=l.all (fun b=>inB b.toNat DEC.data.toList)&&(decide (1≤l.length)&&decide (l.length≤8))
def lJ (s:ByteArray) (c n:Int) (ahead:ByteArray):Bool :=
 if c=99 then au s.data.toList 1 9 else if c=110∨c=105 then au s.data.toList 1 999 else if c=111 then dU s.data.toList
 else if c=119 then iX s.data.toList else if c=102 then au s.data.toList 0 (n-1) else if c=108 then cu s n
 else if c=101∨c=121 then au s.data.toList 0 10 else if c=118 then au s.data.toList 0 999 else if c=120 then au s.data.toList 1 10
 else if c=112 then dR s n else if c=103 then aV s.data.toList n else if c=104 then aV s.data.toList n||s.toList==[45]
 else dS s n&&decide (aF ahead.data.toList≤(lq s).length)
section
variable (s:ByteArray) (n:Int) (ahead:ByteArray) (w:World) (hs:s.size≤100000000)
end
def BJ (ws:List ByteArray) (f:ByteArray) (n:Int) (k:Nat):Bool:=(List.range k).all fun j=>lJ (ws.getD (j+1) Ze) (f.data.toList.getD j 0).toNat n (ws.getD j Ze)
def aZ (s:ByteArray) (n:Int):List ByteArray :=
 if 400<s.size then [] else
 let ws:=bP s 32
 let f:=bG (ws.getD 0 Ze)
 if f.size=0 then [] else if ws.length≠f.size+1 then [] else if BJ ws f n f.size then ws else []
theorem fC {x:Int} (h1 : -9223372036854775808≤x) (h2:x≤9223372036854775807):IntKind.i64.wrap x=x:=by
 rw[IntKind.wrap_i64];omega
theorem jc {B:Nat} {w w':World} (h:Below B w.drew w'):Below B w w':=(Below.refl _ w).drew.trans h
theorem bU {w w':World} {base:Nat} {e:TypeId} {size:Nat} {v:Value} {n:Nat} {xs:List Value} (h:w.ownsRow base e size v n xs) (hb:Below w.heap.size w w'):w'.ownsRow base e size v n xs :=
 h.kept (row:=O) ⟨hb.os,hb.tape,hb.output,hb.size,fun k hk _=>hb.block k hk⟩ (by cases hv:v.ownBlock <;> simp)
theorem jq {l:List UInt8} {n:Int} (h:aV l n=true):l.length=3∨l.length=5:=by
 unfold aV at h;simp at h;exact h.2
theorem tF {e:ByteArray} {n:Int} (h:dR e n=true) (hs:e.size≤400):Cw e∧(isR e=true→(opB e).size≤6):=by
 unfold dR ze at h
 split at h
 ·rename_i p0 p1 p2 hc;have ho:opB e=p2:=by unfold opB;rw[hc];rfl
  simp only[Bool.and_eq_true] at h;have h3:=h.2;have hl:p2.size=p2.data.toList.length:=by simp
  unfold jH at h3;refine⟨⟨by omega,by rw[hc];simp,?_⟩,?_⟩
  ·rw[ho]
   split at h3
   ·rename_i hh;have:=jq h3
    rw[List.length_drop] at this;refine⟨by omega,fun h1=>?_⟩
    exfalso;apply h1
    rw[List.head?_eq_getElem?] at hh;rw[List.getD,hh];rfl
   ·unfold dU at h3;simp only[Bool.and_eq_true,decide_eq_true_eq,Bool.not_eq_true',beq_eq_false_iff_ne,beq_iff_eq] at h3;refine⟨by omega,fun h1 h2 h4 h5=>?_⟩
    have hw:=h3.1.2;have hq:=h3.2.2;unfold fQ at hw hq;rw[if_neg h2,if_neg h5,if_neg h4] at hw hq
    split at hw
    ·rename_i h6;rw[if_pos h6] at hq;omega
    ·simp at hw
  ·intro hr;rw[ho];unfold isR at hr;rw[ho] at hr;have hh:p2.data.toList.head? = some 114:=by simpa using hr
   rw[if_pos hh] at h3;have:=jq h3
   rw[List.length_drop] at this;omega
 ·simp at h
theorem vS {s:ByteArray} {n:Int} (h:dS s n=true) (hs:s.size≤400):J9 (lq s):=by
 unfold dS at h;unfold lq
 split at h
 ·rename_i hd;rw[if_pos hd];exact⟨Nat.zero_le _,by simp,by simp,by simp⟩
 ·rename_i hd;rw[if_neg hd];simp only[Bool.and_eq_true,decide_eq_true_eq,List.all_eq_true] at h;have hz:∀ e∈bP s 47,e.size≤400:=fun e he=>Nat.le_trans (lW s 47 e he) hs
  exact⟨h.2,fun e he=>(tF (h.1 e he) (hz e he)).1,hz,fun e he=>(tF (h.1 e he) (hz e he)).2⟩
theorem dL {l:List UInt8} {a b:Int} (h:au l a b=true):a≤aF l∧aF l≤b:=by
 unfold au at h;simpa using h
theorem sj {s:ByteArray} {n:Int} (h:aZ s n≠[]):s.size≤400∧aZ s n=bP s 32∧0<(bG ((bP s 32).getD 0 Ze)).size∧(bP s 32).length=(bG ((bP s 32).getD 0 Ze)).size+1 ∧
  ∀ k,k<(bG ((bP s 32).getD 0 Ze)).size→lJ ((bP s 32).getD (k+1) Ze) ((bG ((bP s 32).getD 0 Ze)).data.toList.getD k 0).toNat n ((bP s 32).getD k Ze)=true:=by
 unfold aZ at h ⊢
 split at h
 ·exact absurd rfl h
 ·rename_i h4;rw[if_neg h4];dsimp only at h ⊢
  split at h
  ·exact absurd rfl h
  ·rename_i h5;rw[if_neg h5]
   split at h
   ·exact absurd rfl h
   ·rename_i h6;rw[if_neg h6]
    split at h
    ·rename_i h7;rw[if_pos h7];refine⟨by omega,rfl,by omega,by simpa using h6,fun k hk=>?_⟩
     unfold BJ at h7;rw[List.all_eq_true] at h7;exact h7 k (by simpa using hk)
    ·exact absurd rfl h
structure Sd where
 w:List ByteArray
 kind:ByteArray
 frm:Int
 lives:List Int
 epoch:Int
 view:Int
 commit:Int
 log:List ByteArray
structure Nd where
 id:Int
 n:Int
 lives:List Int
 status:Int
 epoch:Int
 view:Int
 normal:Int
 group:ByteArray
 old:ByteArray
 log:List ByteArray
 commit:Int
 acks:List Int
 aI:List Sd
 answers:List Sd
 begun:ByteArray
def Ints (w:World) (v:Value) (l:List Int):Prop:=Rd w 1 v l.length (l.map (Value.int .i64))
theorem Ints.below {w w':World} {v:Value} {l:List Int} (h:Ints w v l) (hb:Below w.heap.size w w'):Ints w' v l:=Rd.below h hb
theorem Ints.get {w:World} {a:Option Addr} {n cap:Nat} {l:List Int} (h:Ints w (Y a n cap) l) (k:Nat) (hk:k<l.length) :
  ∃ b off,a=some ⟨b,off,O⟩∧b<w.heap.size∧w.cell? ⟨b,off+k,O⟩=some (I J l[k]):=by
 rcases h.2 with ⟨h1,h2⟩|⟨b,off,cap',h1,_,_,hb,hc⟩
 ·omega
 ·simp only[Value.slice.injEq] at h1;obtain⟨rfl,rfl,rfl⟩:=h1
  exact⟨b,off,rfl,hb,hc k _ (by simp[hk])⟩
theorem Ints.shape {w:World} {v:Value} {l:List Int} (h:Ints w v l):∃ a cap,v=Y a l.length cap∧l.length≤cap∧cap≤9223372036854775807:=by
 obtain⟨a,cap,rfl,hn,hm,_⟩:=h.form
 exact⟨a,cap,rfl,hn,by unfold maxLen at hm;omega⟩
def dg (x:Int):ByteArray:=⟨(jo x.toNat).toArray⟩
theorem nH (l:List ByteArray) (c:ByteArray) (M:Nat) (h:∀ t∈l,t.size≤M) (k:Nat):(fG l c k).size≤k*(M+c.size):=by
 induction k with
 | zero=>simp[fG]
 | succ k ih =>
  have hg:(l.getD k Ze).size≤M:=by
   by_cases hk:k<l.length
   ·have e:l.getD k Ze=l[k]:=by simp[List.getD,hk]
    rw[e];exact h _ (List.getElem_mem _)
   ·have e:l.getD k Ze=Ze:=by rw[List.getD,List.getElem?_eq_none (by omega)];rfl
    rw[e];exact Nat.zero_le _
  have e2:(k+1)*(M+c.size)=k*(M+c.size)+(M+c.size):=by rw[Nat.add_mul,Nat.one_mul]
  unfold fG
  split <;> simp only[ByteArray.size_append] <;> omega
def SP:ByteArray:=⟨#[32]⟩
def DOT:ByteArray:=⟨#[46]⟩
def SLASH:ByteArray:=⟨#[47]⟩
def gQ (l:List Int):ByteArray:=qd (l.map dg) DOT
def Oq (N:Nd) (kind:ByteArray):ByteArray:=kind++SP++dg N.id++SP++gQ N.lives++SP++dg N.epoch++SP++dg N.view
theorem sN {α β:Type} {l:List α} {f:α→β} {k:Nat} (h:k<l.length):(l.take (k+1)).map f=(l.take k).map f++[f l[k]]:=by
 rw[List.take_succ_eq_append_getElem h,List.map_append];rfl
def vE (c:UInt8) (a:List (List UInt8)×List UInt8) (x:UInt8):List (List UInt8)×List UInt8:=if (x==c)=true then (a.1++[a.2],[]) else (a.1,a.2++[x])
def jm (c:UInt8) (a:List (List UInt8)×List UInt8) (l:List UInt8):List (List UInt8)×List UInt8:=l.foldl (vE c) a
def spl (c:UInt8) (l:List UInt8):List (List UInt8):=(jm c ([],[]) l).1++[(jm c ([],[]) l).2]
theorem DC {c:UInt8} {l:List UInt8} (h:c∉l):∀ (ps:List (List UInt8)) (cur:List UInt8),jm c (ps,cur) l=(ps,cur++l):=by
 induction l with
 | nil=>intro ps cur;simp[jm]
 | cons x l ih =>
  intro ps cur;have hx:(x==c)=false:=by rw[beq_eq_false_iff_ne];intro hc;apply h;simp[hc]
  have:=ih (fun hc=>h (by simp[hc])) ps (cur++[x])
  unfold jm at this ⊢;rw[List.foldl_cons];have e:vE c (ps,cur) x=(ps,cur++[x]):=by unfold vE;rw[hx];rfl
  rw[e,this];simp
theorem Md (c:UInt8) (l:List UInt8):∀ (ps:List (List UInt8)) (cur:List UInt8),jm c (ps,cur) l=(ps++(jm c ([],cur) l).1,(jm c ([],cur) l).2):=by
 induction l with
 | nil=>intro ps cur;simp[jm]
 | cons x l ih =>
  intro ps cur;unfold jm at ih ⊢;rw[List.foldl_cons,List.foldl_cons];cases hx:(x==c)
  ·have e:∀ qs,vE c (qs,cur) x=(qs,cur++[x]):=fun qs=>by unfold vE;rw[hx];rfl
   rw[e,e,ih]
  ·have e:∀ qs,vE c (qs,cur) x=(qs++[cur],[]):=fun qs=>by unfold vE;rw[hx];rfl
   rw[e,e,ih,ih ([]++[cur])];simp
theorem Me {c:UInt8} {a b:List UInt8} (h:c∉a):spl c (a++c :: b)=a :: spl c b:=by
 have e:jm c ([],[]) (a++c :: b)=([a]++(jm c ([],[]) b).1,(jm c ([],[]) b).2):=by
  have h1:jm c ([],[]) (a++c :: b)=jm c (jm c ([],[]) a) (c :: b):=by unfold jm;rw[List.foldl_append]
  rw[h1,DC h];have h2:jm c ([],[]++a) (c :: b)=jm c ([a],[]) b:=by
   unfold jm;rw[List.foldl_cons];congr 1;unfold vE;simp
  rw[h2,Md]
 unfold spl;rw[e];simp
theorem NK {c:UInt8} {a:List UInt8} (h:c∉a):spl c a=[a]:=by
 unfold spl;rw[DC h];simp
theorem IY (s:ByteArray) (c:UInt8) (k:Nat) (hk:k≤s.size) :
  jm c ([],[]) (s.data.toList.take k)=((gq s c.toNat k).1.map (fun p=>p.data.toList),(s.data.toList.take k).drop (gq s c.toNat k).2):=by
 induction k with
 | zero=>simp[jm,gq]
 | succ k ih =>
  have hk':k<s.size:=by omega
  have ihk:=ih (by omega)
  rw[rZ s k hk'];have h1:jm c ([],[]) (s.data.toList.take k++[s[k]])=vE c (jm c ([],[]) (s.data.toList.take k)) s[k]:=by unfold jm;rw[List.foldl_append];rfl
  rw[h1,ihk];have hle:=(uh s c.toNat k).1;cases hx:(s[k]==c)
  ·have hx2:((s[k].toNat:Int)==(c.toNat:Int))=false:=by
    rw[beq_eq_false_iff_ne] at hx ⊢;intro hc;apply hx;apply UInt8.toNat_inj.1;omega
   rw[DW hk' hx2];unfold vE;rw[hx];simp only[Bool.false_eq_true,if_false]
   congr 1
   rw[List.drop_append_of_le_length (by simp;omega)]
  ·have hx2:((s[k].toNat:Int)==(c.toNat:Int))=true:=by
    rw[beq_iff_eq] at hx ⊢;rw[hx]
   rw[BD hk' hx2];unfold vE;rw[hx];simp only[if_true];have hl:(s.data.toList.take k++[s[k]]).length=k+1:=by simp;omega
   refine Prod.ext ?_ ?_
   ·simp only[List.map_append,List.map_cons,List.map_nil]
    congr 2
    simp[ByteArray.data_extract,Array.toList_extract,List.extract];rw[List.take_drop]
    congr 1
    congr 1
    omega
   ·show []=_
    rw[List.drop_eq_nil_of_le (by rw[hl];exact Nat.le_refl _)]
theorem qB (s:ByteArray) (c:UInt8):(bP s c.toNat).map (fun p=>p.data.toList)=spl c s.data.toList:=by
 have h:=IY s c s.size (Nat.le_refl _);rw[List.take_of_length_le (by simp)] at h
 unfold bP spl;rw[h,List.map_append]
 congr 1
 simp[ByteArray.data_extract,Array.toList_extract,List.extract];have hz:s.data.toList.length=s.size:=by simp
 exact List.take_of_length_le (by rw[List.length_drop];omega)
theorem bytes_inj {a b:ByteArray} (h:a.data.toList=b.data.toList):a=b:=by
 obtain⟨⟨a⟩⟩:=a
 obtain⟨⟨b⟩⟩:=b
 have h2:a=b:=h
 rw[h2]
theorem vX {l:List ByteArray} {m:List ByteArray} (h:l.map (fun p=>p.data.toList)=m.map (fun p=>p.data.toList)):l=m:=by
 induction l generalizing m with
 | nil=>cases m with
  | nil=>rfl
  | cons b m=>simp at h
 | cons a l ih=>cases m with
  | nil=>simp at h
  | cons b m=>rw[List.map_cons,List.map_cons,List.cons.injEq] at h;rw[bytes_inj h.1,ih h.2]
theorem BA {a b:ByteArray} {c:UInt8} (h:c∉a.data.toList):bP (a++⟨#[c]⟩++b) c.toNat=a :: bP b c.toNat:=by
 apply vX
 rw[qB,List.map_cons,qB,← Me h]
 congr 1
 simp[ByteArray.data_append]
theorem ug {a:ByteArray} {c:UInt8} (h:c∉a.data.toList):bP a c.toNat=[a]:=by
 apply vX
 rw[qB,NK h];rfl
theorem yZ (n:Nat):∀ b∈jo n,48≤b.toNat∧b.toNat≤57:=by
 induction n using Nat.strongRecOn with
 | _ n ih =>
  intro b hb;unfold jo at hb
  split at hb
  ·rw[List.mem_singleton] at hb;subst hb;rename_i h;rw[UInt8.toNat_ofNat'];omega
  ·rename_i h;rcases List.mem_append.1 hb with hb|hb
   ·exact ih (n / 10) (by omega) b hb
   ·rw[List.mem_singleton] at hb;subst hb;rw[UInt8.toNat_ofNat'];omega
theorem BG (x:Int) {c:UInt8} (hc:c.toNat<48∨57<c.toNat):c∉(dg x).data.toList:=by
 intro h;have:=yZ x.toNat c (by simpa [dg] using h)
 omega
theorem BM {l:List ByteArray} {d:ByteArray} {c:UInt8} (hl:∀ t∈l,c∉t.data.toList) (hd:c∉d.data.toList) (k:Nat):c∉(fG l d k).data.toList:=by
 induction k with
 | zero=>simp[fG]
 | succ k ih =>
  have hg:c∉(l.getD k Ze).data.toList:=by
   by_cases hk:k<l.length
   ·have e:l.getD k Ze=l[k]:=by simp[List.getD,hk]
    rw[e];exact hl _ (List.getElem_mem _)
   ·have e:l.getD k Ze=Ze:=by rw[List.getD,List.getElem?_eq_none (by omega)];rfl
    rw[e];simp
  unfold fG
  split
  ·simp only[ByteArray.data_append,Array.toList_append,List.mem_append,not_or];exact⟨⟨ih,hd⟩,hg⟩
  ·simp only[ByteArray.data_append,Array.toList_append,List.mem_append,not_or];exact⟨ih,hg⟩
theorem Ep (l:List Int):(32:UInt8)∉(gQ l).data.toList:=by
 unfold gQ qd;refine BM (fun t ht=>?_) (by decide) _
 obtain⟨x,_,rfl⟩:=List.mem_map.1 ht
 exact BG x (.inl (by decide))
theorem Cr {a:UInt8} {n:Nat} (h:a.toNat=n):UInt8.ofNat n=a:=by
 apply UInt8.toNat_inj.1;rw[UInt8.toNat_ofNat'];have:=a.toNat_lt;omega
theorem uq {n:Nat} (h:n<10):jo n=[UInt8.ofNat (48+n)]:=by unfold jo;rw[if_pos h]
theorem yY {n:Nat} (h:¬n<10):jo n=jo (n / 10)++[UInt8.ofNat (48+n % 10)]:=by rw[jo];rw[if_neg h]
theorem yX {l:List UInt8} (h:0≤aF l):jo (aF l).toNat=l:=by
 unfold aF at h ⊢
 split at h
 ·rename_i hk;rw[if_pos hk];unfold jW at hk;simp only[Bool.and_eq_true,Bool.not_eq_true',decide_eq_true_eq,List.all_eq_true] at hk;obtain⟨⟨⟨h2,h3⟩,h4⟩,h5⟩:=hk
  match l,h2,h3,h4,h5 with
  | [],_,h3,_,_=>simp at h3
  | [a],h2,_,_,_ =>
   have ha:=h2 a (by simp)
   simp[gM] at ha;have e:(iT [a]).toNat=a.toNat-48:=by simp[iT];omega
   rw[e,uq (by omega),Cr (a:=a) (by omega)]
  | [a,b],h2,_,_,h5 =>
   have ha:=h2 a (by simp)
   have hb:=h2 b (by simp)
   simp[gM] at ha hb;have hz:a.toNat≠48:=by
    intro hc;have:a=48:=by apply UInt8.toNat_inj.1;rw[hc];rfl
    subst this;simp at h5
   have e:(iT [a,b]).toNat=(a.toNat-48)*10+(b.toNat-48):=by simp[iT];omega
   rw[e,yY (by omega),uq (by omega),Cr (a:=a) (by omega),Cr (a:=b) (by omega)];rfl
  | [a,b,c],h2,_,_,h5 =>
   have ha:=h2 a (by simp)
   have hb:=h2 b (by simp)
   have hc:=h2 c (by simp)
   simp[gM] at ha hb hc;have hz:a.toNat≠48:=by
    intro hc;have:a=48:=by apply UInt8.toNat_inj.1;rw[hc];rfl
    subst this;simp at h5
   have e:(iT [a,b,c]).toNat=(a.toNat-48)*100+(b.toNat-48)*10+(c.toNat-48):=by simp[iT];omega
   rw[e,yY (by omega),yY (by omega),uq (by omega),Cr (a:=a) (by omega),Cr (a:=b) (by omega),Cr (a:=c) (by omega)];rfl
  | _ :: _ :: _ :: _ :: _,_,_,h4,_=>simp at h4
 ·omega
theorem u8n (n:Nat) (h:n≤9):(UInt8.ofNat (48+n)).toNat=48+n:=by rw[UInt8.toNat_ofNat'];omega
theorem oH (n:Nat) (h:n≤9):gM (UInt8.ofNat (48+n))=true:=by
 unfold gM;rw[u8n n h];simp;omega
theorem Ll (n:Nat) (h:n≤999):aF (jo n)=n:=by
 have nz:∀ k,1≤k→k≤9→UInt8.ofNat (48+k)≠48:=fun k h1 h2 hc=>by
  have:=congrArg UInt8.toNat hc
  rw[u8n k h2] at this;have e:(48:UInt8).toNat=48:=rfl
  omega
 by_cases h1:n<10
 ·rw[uq h1];have hk:jW [UInt8.ofNat (48+n)]=true:=by
   unfold jW;simp only[List.all_cons,List.all_nil,oH n (by omega)]
   by_cases hz:n=0
   ·subst hz;rfl
   ·have:=nz n (by omega) (by omega)
    simp
  unfold aF;rw[if_pos hk];unfold iT;simp only[List.foldl_cons,List.foldl_nil,u8n n (by omega)]
  omega
 ·by_cases h2:n<100
  ·rw[yY h1,uq (by omega)]
   have hk:jW ([UInt8.ofNat (48+n / 10)]++[UInt8.ofNat (48+n % 10)])=true:=by
    unfold jW;have:=nz (n / 10) (by omega) (by omega)
    simp only[List.cons_append,List.nil_append,List.all_cons,List.all_nil,oH (n / 10) (by omega),oH (n % 10) (by omega),List.head?_cons]
    have e:(some (UInt8.ofNat (48+n / 10))==some (48:UInt8))=false:=by rw[beq_eq_false_iff_ne];intro hc;exact this (Option.some.inj hc)
    rw[e];rfl
   unfold aF;rw[if_pos hk];unfold iT;simp only[List.cons_append,List.nil_append,List.foldl_cons,List.foldl_nil,u8n (n / 10) (by omega),u8n (n % 10) (by omega)]
   omega
  ·rw[yY h1,yY (by omega),uq (by omega)]
   have hk:jW ([UInt8.ofNat (48+n / 10 / 10)]++[UInt8.ofNat (48+n / 10 % 10)]++[UInt8.ofNat (48+n % 10)])=true:=by
    unfold jW;have:=nz (n / 10 / 10) (by omega) (by omega)
    simp only[List.cons_append,List.nil_append,List.all_cons,List.all_nil,oH (n / 10 / 10) (by omega),oH (n / 10 % 10) (by omega),oH (n % 10) (by omega),List.head?_cons]
    have e:(some (UInt8.ofNat (48+n / 10 / 10))==some (48:UInt8))=false:=by rw[beq_eq_false_iff_ne];intro hc;exact this (Option.some.inj hc)
    rw[e];rfl
   unfold aF;rw[if_pos hk];unfold iT;simp only[List.cons_append,List.nil_append,List.foldl_cons,List.foldl_nil,u8n (n / 10 / 10) (by omega),u8n (n / 10 % 10) (by omega),u8n (n % 10) (by omega)]
   omega
theorem iD {x:Int} (h0:0≤x) (h1:x≤999):aF (dg x).data.toList=x:=by
 have:=Ll x.toNat (by omega)
 have e:(dg x).data.toList=jo x.toNat:=by simp[dg]
 rw[e,this];omega
theorem Df {l:List UInt8} (h:0≤aF l) {c:UInt8} (hc:c.toNat<48∨57<c.toNat):c∉l:=by
 intro hm;rw[← yX h] at hm;have:=yZ _ c hm
 omega
theorem nJ {l:List UInt8} {n:Int} (h:aV l n=true) (k:Nat) (hk:k<l.length):0≤aF [l.getD k 0]∧aF [l.getD k 0]<n:=by
 unfold aV gTo at h;simp only[Bool.and_eq_true,List.all_eq_true] at h;have:=h.1 k (by simpa using hk)
 unfold gAt at this;simp only[Bool.and_eq_true,decide_eq_true_eq] at this;exact this.1
theorem Eb {l:List UInt8} {n:Int} (h:aV l n=true) {c:UInt8} (hc:c.toNat<48∨57<c.toNat):c∉l:=by
 intro hm;obtain⟨k,hk,rfl⟩:=List.mem_iff_getElem.1 hm
 have:=nJ h k hk
 have e:l.getD k 0=l[k]:=by simp[List.getD,hk]
 rw[e] at this;exact absurd (List.mem_singleton.2 rfl) (Df this.1 hc)
theorem OY {b:UInt8} (h:isLet b=true):97≤b.toNat∧b.toNat≤122:=by
 unfold isLet inB at h;simp[LET] at h;omega
theorem OZ {b:UInt8} (h:isVal b=true):97≤b.toNat∧b.toNat≤122∨48≤b.toNat∧b.toNat≤57:=by
 unfold isVal inB at h;simp[LETD] at h;omega
theorem FN {l:List UInt8} (h:dU l=true):∀ c∈l,97≤c.toNat∧c.toNat≤122∨48≤c.toNat∧c.toNat≤57:=by
 unfold dU opTo at h;simp only[Bool.and_eq_true,decide_eq_true_eq,Bool.not_eq_true',beq_eq_false_iff_ne,List.all_eq_true] at h;obtain⟨⟨h2,h0⟩,⟨h1,hv⟩,_⟩:=h
 match l,h2,h0,h1,hv with
 | [],h2,_,_,_=>simp at h2
 | [_],h2,_,_,_=>simp at h2
 | a :: b :: r,_,h0,h1,hv =>
  intro c hc;rw[List.take_of_length_le (Nat.le_refl _)] at hv;rcases List.mem_cons.1 hc with rfl|hc
  ·have h0':fQ c≠0:=by simpa using h0
   unfold fQ at h0'
   left
   repeat' split at h0'
   all_goals first|(rename_i q;subst q;decide)|simp at h0'
  ·rcases List.mem_cons.1 hc with rfl|hc
   ·left;exact OY (by simpa using h1)
   ·exact OZ (hv c (by simpa using hc))
def OKb:ByteArray:=⟨#[111,107]⟩
def NOb:ByteArray:=⟨#[110,111]⟩
def ql:ByteArray:=⟨#[45]⟩
def NG (log:List ByteArray) (k:Nat):ByteArray :=
 let o:=opB (log.getD k Ze)
 let v:=DI log (b1 o) k
 if b0 o==114 then OKb else if b0 o==103 then (if v.toList.isEmpty then ql else v) else if b0 o==100 then (if v.toList.isEmpty then ql else OKb)
 else if b0 o==99 then (if v.toList==(o.extract 2 3).toList then OKb else NOb) else OKb
def La (l:List ByteArray):ByteArray:=if l.length=0 then ql else qd l SLASH
def Pw (N:Nd):ByteArray:=SP++dg N.commit++SP++La N.log
def oldB (o:ByteArray):ByteArray:=if o.toList.isEmpty then ql else o
def M9 (N:Nd):ByteArray:=SP++N.group++SP++oldB N.old
def KS:ByteArray:=⟨#[115]⟩
def Mt (N:Nd):ByteArray:=Oq N KS++M9 N++Pw N
def ofB (g:ByteArray) (q:Int):Bool:=inB (48+q) g.data.toList
theorem dg1 (q:Int) (h0:0≤q) (h1:q<10):∃ h:0<(dg q).size,((dg q)[0].toNat:Int)=48+q:=by
 have e:dg q=⟨#[UInt8.ofNat (48+q.toNat)]⟩:=by unfold dg;rw[uw (by omega)]
 rw[e];refine⟨by show 0<1;omega,?_⟩
 show ((UInt8.ofNat (48+q.toNat)).toNat:Int)=48+q
 rw[UInt8.toNat_ofNat_of_lt' (by show 48+q.toNat<256;omega)];omega
def EF (g:ByteArray) (v:Nat):Int:=aF [g.data.toList.getD (v % g.size) 0]
def O1 (N:Nd):Bool:=EF N.group N.view.toNat==N.id
theorem Kl {P:Program} {ops:Array Oper} {rest:List Oper} {o:Oper} {a:Act} {Q:Exit→Act→World→Prop} (hgd:o.guard=O) (s x:Operand) (t:TypeId)
  (ho:o.op=.call { callee:=.builtin .append,args:=#[s,x],argTypes:=#[t,t] })
  (base:Nat) (e:TypeId) (i:TypeInfo) (z:Value) (size bytes:Nat) (ht:P.underlying t=some (.slice e)) (hi:P.info? e=some i) (hz:i.zero=some z)
  (hsize:i.size=size) (hby:i.bytes=bytes) (hzs:z.cells.size=size) (hsz:0<size)
  (w:World) (v:Value) (n:Nat) (xs:List Value) (hs:a.eval s=v) (hown:w.ownsRow base e size v n xs)
  (vx:Value) (m:Nat) (news:List Value) (hx:a.eval x=vx) (hrd:Rd w size vx m news) (h1:∀ u∈news,u.oneCell'=true)
  (hn:n≤1000000000) (hm:m≤1000000000) (hby2:bytes≤1000) (hbase:base≤w.heap.size)
  (h:∀ v' w',w'.ownsRow base e size v' (n+m) (xs++news)→w.grownBy w' v.ownBlock→Below base w w'→wpList P ops Q rest (a.put o.dst v') w') :
  wpList P ops Q (o :: rest) a w:=by
 rcases hrd.2 with ⟨rfl,rfl⟩|⟨b,off,cap,rfl,h2,h3,h4,h5⟩
 ·have hnil:news=[]:=List.eq_nil_of_length_eq_zero (by have:=hrd.1;omega)
  subst hnil;refine wpList_append_own_none hgd s x t ho base e i size ht hi v n xs hs hown hx ?_;exact h v w (by simpa using hown) ⟨rfl,rfl,rfl,Nat.le_refl _,fun _ _ _=>rfl⟩ (Below.refl _ _)
 ·refine wpList_append_own _ hgd s x t ho base e i z size bytes ht hi hz hsize hby hzs hsz v n xs hs hown ⟨b,off,O⟩ m cap news hx hrd.1 ?_ h1 (by unfold maxLen;omega) ?_ hbase ?_
  ·intro j u hj;have hplain:(⟨b,off,O⟩:Addr).add j=⟨b,off+j,O⟩:=by unfold Addr.add;split <;> simp_all
   rw[hplain];exact h5 j u hj
  ·have:(n+m)*bytes≤2000000000*1000:=Nat.mul_le_mul (by omega) hby2
   omega
  ·intro v' w' k2 k3 _;exact h v' w' k2 k3 ((Below.refl _ w).grown k3 hbase (fun k hk=>(hown.lt k hk).1))
theorem Tryz.infoOut:(Tryz.prog.info? 36).map (fun i=>(i.zero,i.size,i.bytes))=some (some (.agg #[I J 0,Z Ze]),2,24):=by kernel_rfl
def gZ (l:List (Int×ByteArray)):List Value:=l.flatMap fun o=>[I J o.1,Z o.2]
def l9 (w:World) (base:Nat) (v:Value) (l:List (Int×ByteArray)):Prop:=w.ownsRow base 36 2 v l.length (gZ l)
theorem l9.below {w w':World} {base:Nat} {v:Value} {l:List (Int×ByteArray)} (h:l9 w base v l) (hb:Below w.heap.size w w'):l9 w' base v l:=bU h hb
theorem l9.nil (w:World) (base:Nat):l9 w base (Y O 0 0) []:=World.ownsRow_nil _ _ _ _
def zZ (id:Int) (g t:ByteArray):Nat→List (Int×ByteArray)
 | 0=>[]
 | k+1=>if (EF g k==id)=true then zZ id g t k else zZ id g t k++[(EF g k,t)]
def Dl (id:Int) (g t:ByteArray):List (Int×ByteArray):=zZ id g t g.size
def KG:ByteArray:=⟨#[103]⟩
variable {X:List Nat}
structure Kp (S:List Nat) (w w':World):Prop where
 os:w'.os=w.os
 tape:w'.tape=w.tape
 output:w'.output=w.output
 size:w.heap.size≤w'.heap.size
 block:∀ k,k<w.heap.size→k∉S→w'.heap[k]? = w.heap[k]?
theorem sub3 {b bl ba:Nat} {X:List Nat}:∀ x∈[b,bl,ba],x∈b :: bl :: ba :: X:=by
 intro x hx;simp at hx;rcases hx with h|h|h <;> simp[h]
theorem Kp.refl (S:List Nat) (w:World):Kp S w w:=⟨rfl,rfl,rfl,Nat.le_refl _,fun _ _ _=>rfl⟩
theorem Kp.of_below {S:List Nat} {w w':World} (h:Below w.heap.size w w'):Kp S w w':=⟨h.os,h.tape,h.output,h.size,fun k hk _=>h.block k hk⟩
theorem Kp.trans {S S':List Nat} {a b c:World} (h:Kp S a b) (k:Kp S' b c) (hs:∀ x∈S',x<a.heap.size→x∈S):Kp S a c :=
 ⟨k.os.trans h.os,k.tape.trans h.tape,k.output.trans h.output,Nat.le_trans h.size k.size,fun x hx hn =>
  (k.block x (Nat.lt_of_lt_of_le hx h.size) (fun hc=>hn (hs x hc hx))).trans (h.block x hx hn)⟩
theorem Kp.trans' {S:List Nat} {a b c:World} (h:Kp S a b) (k:Kp S b c):Kp S a c:=h.trans k (fun _ hx _=>hx)
theorem Kp.aS {S:List Nat} {a b c:World} (h:Kp S a b) (k:Below b.heap.size b c):Kp S a c:=h.trans' (Kp.of_below k)
theorem Kp.set {S:List Nat} {a w:World} (h:Kp S a w) (g j:Nat) (v:Value) (hg:g∈S∨a.heap.size≤g):Kp S a (w.setCell ⟨g,j,O⟩ v):=by
 refine⟨h.os,h.tape,h.output,by have:=h.size;simp[World.setCell];exact this,fun k hk hn=>?_⟩
 have hne:k≠g:=by
  rcases hg with hg|hg
  ·intro hc;exact hn (hc▸hg)
  ·omega
 rw[Below.heap_setCell w ⟨g,j,O⟩ v k hne];exact h.block k hk hn
theorem Kp.alloc {S:List Nat} {a w:World} (h:Kp S a w) (o:Obj):Kp S a (w.alloc o) :=
 h.aS ((Below.refl _ w).alloc (Nat.le_refl _) o)
def Fr (S:List Nat) (v:Value):Prop:=∀ k,v.ownBlock=some k→k∉S
theorem Fr.nil (S:List Nat) (n c:Nat):Fr S (Y O n c):=by intro k hk;simp[Value.ownBlock] at hk
theorem Rd.lt {w:World} {size:Nat} {v:Value} {n:Nat} {xs:List Value} (h:Rd w size v n xs):∀ k,v.ownBlock=some k→k<w.heap.size:=by
 intro k hk;rcases h.2 with ⟨rfl,_⟩|⟨b,off,cap,rfl,_,_,hb,_⟩
 ·simp[Value.ownBlock] at hk
 ·simp[Value.ownBlock] at hk;subst hk;exact hb
theorem Rd.kp {w w':World} {size:Nat} {v:Value} {n:Nat} {xs:List Value} {S S':List Nat} (h:Rd w size v n xs) (k:Kp S w w') (hf:Fr S' v) (hsub:∀ x∈S,x∈S':=by first|exact fun _ h=>h|exact sub3|(intro x hx;simp at hx;simp[hx])):Rd w' size v n xs :=
 h.keep k.size fun b hb hlt=>k.block b hlt (fun hc=>hf b hb (hsub b hc))
theorem Strs.kp {w w':World} {v:Value} {l:List ByteArray} {S S':List Nat} (h:Strs w v l) (k:Kp S w w') (hf:Fr S' v) (hsub:∀ x∈S,x∈S':=by first|exact fun _ h=>h|exact sub3|(intro x hx;simp at hx;simp[hx])):Strs w' v l:=Rd.kp h k hf hsub
theorem Ints.kp {w w':World} {v:Value} {l:List Int} {S S':List Nat} (h:Ints w v l) (k:Kp S w w') (hf:Fr S' v) (hsub:∀ x∈S,x∈S':=by first|exact fun _ h=>h|exact sub3|(intro x hx;simp at hx;simp[hx])):Ints w' v l:=Rd.kp h k hf hsub
theorem Fr.swap {w:World} {size:Nat} {v:Value} {n:Nat} {xs:List Value} {S S':List Nat} (h:Rd w size v n xs) (hf:Fr S v) (hs:∀ x∈S',x∈S∨w.heap.size≤x):Fr S' v:=by
 intro k hk hc;rcases hs k hc with hx|hx
 ·exact hf k hk hx
 ·have:=h.lt k hk;omega
def oh (w:World) (v:Value) (g:Nat) (l:List Int):Prop:=w.ownsRow 0 3 1 v l.length (l.map (Value.int .i64))∧∃ cap,v=Y (some ⟨g,0,Option.none⟩) l.length cap
theorem oh.kp {w w':World} {v:Value} {g:Nat} {l:List Int} {S:List Nat} (h:oh w v g l) (k:Kp S w w') (hg:g∉S):oh w' v g l:=by
 obtain⟨h1,cap,rfl⟩:=h
 refine⟨⟨h1.1,?_⟩,cap,rfl⟩
 rcases h1.2 with ⟨h2,_⟩|⟨g',cap',cur,e,q1,q2,q3⟩
 ·simp at h2
 ·simp at e;obtain⟨rfl,rfl⟩:=e
  exact .inr ⟨g,cap,cur,rfl,q1,(k.block g (lt_of_block q2) hg).trans q2,q3⟩
theorem oh.lt {w:World} {v:Value} {g:Nat} {l:List Int} (h:oh w v g l):g<w.heap.size:=by
 obtain⟨h1,cap,rfl⟩:=h;exact (h1.lt g rfl).2
theorem oh.rd {w:World} {v:Value} {g:Nat} {l:List Int} (h:oh w v g l):Ints w v l:=Rd.bR h.1
theorem oh.put {w:World} {v:Value} {g:Nat} {l:List Int} (h:oh w v g l) (j:Nat) (x:Int):oh (w.setCell ⟨g,j,Option.none⟩ (I J x)) v g (l.set j x):=by
 obtain⟨h1,cap,rfl⟩:=h
 refine⟨?_,cap,by simp⟩
 have:=h1.stored j (I J x)
 rw[List.length_set,List.map_set];exact this.1
theorem oh.frozen {w:World} {v:Value} {g:Nat} {l:List Int} (h:oh w v g l) (j:Nat):w.frozen? ⟨g,j,Option.none⟩=false:=by
 obtain⟨h1,cap,rfl⟩:=h;exact h1.frozenAt j
variable {X:List Nat}
theorem Tryz.infoInt:(Tryz.prog.info? 3).map (fun i=>(i.zero,i.size,i.bytes))=some (some (I J 0),1,8):=by kernel_rfl
def dB (n:Nat):List Int:=List.replicate n 0
def iM (n:Nat):Array Value:=((dB n).map (Value.int .i64)).toArray
theorem Gw (n:Nat):madeCells (I J 0).cells (n*1)=iM n:=by
 apply Array.ext
 ·simp[size_madeCells,iM,dB]
 ·intro i h1 h2;have e:(I J 0).cells=#[I J 0]:=rfl
  simp[madeCells,iM,dB,e,Nat.mod_one]
theorem BX (n:Int) (h0:0≤n) (h1:n≤1000000) (W:World) :
  (Instr.makeSlice 44 (I J n) (I J n)).run Tryz.prog W=.ok (Y (some ⟨W.heap.size,0,O⟩) n.toNat n.toNat) (W.alloc (.cells (iM n.toNat) 3)):=by
 obtain⟨i0,hi,hz0,hz1,hz2⟩:=info_parts Tryz.infoInt
 rw[run_make W 44 3 i0 (I J 0) Tryz.underlying44 hi hz0 .i64 .i64 n n h0 (Int.le_refl _) (by rw[hz2];omega) (by omega),hz1]
 rw[Gw]
theorem Ce (w:World) (n:Nat) (hn:n≤1000000):oh (w.alloc (.cells (iM n) 3)) (Y (some ⟨w.heap.size,0,O⟩) n n) w.heap.size (dB n):=by
 have hl:(dB n).length=n:=by simp[dB]
 refine⟨⟨by simp,.inr ⟨w.heap.size,n,iM n,by rw[hl],Nat.zero_le _,heap_alloc_new _ _,by rw[hl];exact Nat.le_refl _,by unfold maxLen;omega,by simp[iM,hl],?_⟩⟩,n,by rw[hl]⟩
 simp[iM,hl];exact List.take_of_length_le (by simp[hl])
def MW (N:Nd):Nd:={ N with acks:=dB N.n.toNat,aI:=[] }
variable {X:List Nat}
def YS:ByteArray:=⟨#[121,32]⟩
def Pg (log:List ByteArray) (k:Nat):Int×ByteArray :=
 let p:=bP (log.getD k Ze) 46
 (-(aF (p.getD 0 Ze).data.toList),YS++p.getD 0 Ze++SP++p.getD 1 Ze++SP++NG log k)
def KT:ByteArray:=⟨#[116]⟩
def turnA (N:Nd) (g:ByteArray):Nd:={ N with old:=N.group,group:=g,epoch:=N.epoch+1,view:=0,normal:=0,begun:=⟨#[]⟩ }
def Fa (N:Nd) (g:ByteArray):Nd:=MW (turnA N g)
def NV (N:Nd) (g:ByteArray):Nd:=if ofB g N.id then Fa N g else { Fa N g with status:=5 }
def NW (N:Nd) (g:ByteArray):List (Int×ByteArray) :=
 if ofB g N.id then Dl N.id g (Mt (Fa N g))++Dl N.id N.group (Oq (Fa N g) KT) else Dl N.id g (Mt (Fa N g))
variable {X:List Nat}
def yS (w:World) (b j:Nat):Int:=match w.cell? ⟨b,j,O⟩ with
 | some (.int _ n)=>n
 | _=>0
def wc (N:Nd) (c:Int):Nd:={ N with commit:=c }
def replN (N:Nd) (k:Nat):List (Int×ByteArray):=if O1 N&&N.status==1 then [Pg N.log k] else []
def NY (N:Nd) (k:Nat):Bool:=isR (N.log.getD k Ze)&&decide (N.epoch<(O9 (N.log.take (k+1)):Int))
def Oo (N:Nd) (k:Nat):ByteArray:=(opB (N.log.getD k Ze)).extract 1 (opB (N.log.getD k Ze)).size
def CK (N:Nd):Nat→List (Int×ByteArray)
 | 0=>[]
 | i+1=>CK N i++replN N (N.commit.toNat+i)
def Oi (N:Nd):Nat→Nat→Nd×List (Int×ByteArray)
 | 0,i=>(wc N (N.commit+i),CK N i)
 | f+1,i=>if NY N (N.commit.toNat+i) then (NV (wc N (N.commit+i+1)) (Oo N (N.commit.toNat+i)),CK N (i+1)++NW (wc N (N.commit+i+1)) (Oo N (N.commit.toNat+i))) else Oi N f (i+1)
def Ku (N:Nd) (c:Int):Nd×List (Int×ByteArray):=Oi N (c-N.commit).toNat 0
theorem Fe (l:List UInt8) (h:l.all gM=true):0≤iT l:=by
 unfold iT
 suffices ∀ (l:List UInt8) (x:Int),l.all gM=true→0≤x→x≤l.foldl (fun v b=>v*10+((b.toNat:Int)-48)) x by
  exact this l 0 h (Int.le_refl _)
 intro l
 induction l with
 | nil=>intro x _ _;exact Int.le_refl _
 | cons a l ih =>
  intro x hl hx;simp only[List.all_cons,Bool.and_eq_true] at hl;have ha:=hl.1;unfold gM at ha;simp only[Bool.and_eq_true,decide_eq_true_eq] at ha;rw[List.foldl_cons];have:=ih (x*10+((a.toNat:Int)-48)) hl.2 (by omega)
  omega
theorem J5 (l:List UInt8) (h:l.all gM=true) (x:Int) (hx:0≤x):x≤l.foldl (fun v b=>v*10+((b.toNat:Int)-48)) x:=by
 induction l generalizing x with
 | nil=>exact Int.le_refl _
 | cons a l ih =>
  simp only[List.all_cons,Bool.and_eq_true] at h;have ha:=h.1;unfold gM at ha;simp only[Bool.and_eq_true,decide_eq_true_eq] at ha;rw[List.foldl_cons];have:=ih h.2 (x*10+((a.toNat:Int)-48)) (by omega)
  omega
theorem Fg (l r:List UInt8) (hl:l.all gM=true) (hr:r.all gM=true):iT l≤iT (l++r):=by
 have h0:=Fe l hl;unfold iT at h0 ⊢;rw[List.foldl_append];exact J5 r hr _ h0
theorem xB {l:List UInt8} {a b:Int} (h:aF l = -1) (ha:0≤a):au l a b=false:=by
 unfold au;rw[h];simp;omega
theorem Lm {s:ByteArray} {k:Nat} {a b:Int} (h0:(s.data.toList.take k).all gM=true) (hv:b<iT (s.data.toList.take k)) (ha:0≤a):au s.data.toList a b=false:=by
 by_cases ho:jW s.data.toList=true
 ·have hall:s.data.toList.all gM=true:=by
   unfold jW at ho;simp only[Bool.and_eq_true] at ho;exact ho.1.1.1
  have e:aF s.data.toList=iT s.data.toList:=by unfold aF;rw[if_pos ho]
  have hd:(s.data.toList.drop k).all gM=true:=by
   rw[List.all_eq_true] at hall ⊢;exact fun x hx=>hall x (List.mem_of_mem_drop hx)
  have:=Fg _ _ h0 hd
  rw[List.take_append_drop] at this;unfold au;rw[e];simp;omega
 ·refine xB ?_ ha;unfold aF;rw[if_neg ho]
theorem four {l:List UInt8} (h:3<l.length):∃ a b c d r,l=a :: b :: c :: d :: r:=by
 match l,h with
 | a :: b :: c :: d :: r,_=>exact⟨a,b,c,d,r,rfl⟩
 | [],h=>simp at h
 | [_],h=>simp at h
 | [_,_],h=>simp at h
 | [_,_,_],h=>simp at h
theorem Nl {s:ByteArray} (hp:0<s.size) (hz:s.size≤1∨((s[0].toNat:Int)==48)=false) (ha:s.data.toList.all gM=true) (hv:iT s.data.toList≤999):jW s.data.toList=true:=by
 have hl:=nC s;have h3:¬3<s.size:=by
  intro h4;rcases hz with hz|hz
  ·omega
  ·obtain⟨a,b,c,d,r,hL⟩:=four (l:=s.data.toList) (by omega)
   have e0:s.data.toList[0]? = some s[0]:=List.getElem?_eq_getElem (by omega)
   rw[hL] at e0 ha hv;simp only[List.getElem?_cons_zero,Option.some.injEq] at e0;rw[← e0] at hz;simp only[List.all_cons,Bool.and_eq_true] at ha;obtain⟨h1,h2,h3,h5,h6⟩:=ha
   have k1:=h1;have k2:=h2;have k3:=h3;have k5:=h5;unfold gM at h1 h2 h3 h5;simp only[Bool.and_eq_true,decide_eq_true_eq] at h1 h2 h3 h5;have hz':(a.toNat:Int)≠48:=by simpa using hz
   have:=Fg [a,b,c,d] r (by simp[k1,k2,k3,k5]) h6
   have e:iT [a,b,c,d]=((((a.toNat:Int)-48)*10+((b.toNat:Int)-48))*10+((c.toNat:Int)-48))*10+((d.toNat:Int)-48):=by simp[iT]
   simp only[List.cons_append,List.nil_append] at this;omega
 cases h48:(s.toList==[48])
 ·refine Ew hp h3 ha (.inl ?_);rcases hz with hz|hz
  ·have hs1:s.size=1:=by omega
   by_cases hq:((s[0].toNat:Int)==48)=true
   ·exfalso
    have:s.toList=[48]:=by
     rw[ByteArray.toList_eq];have e0:s.data.toList=[s[0]]:=by
      have e2:s.data.toList[0]? = some s[0]:=List.getElem?_eq_getElem (by omega)
      have e3:s.data.toList.length=1:=by omega
      obtain⟨x,hx⟩:=List.length_eq_one_iff.1 e3
      rw[hx] at e2 ⊢;simp at e2;rw[e2]
     have:s[0]=48:=by
      have hq2:(s[0].toNat:Int)=48:=by simpa using hq
      apply UInt8.toNat_inj.1;show s[0].toNat=48;omega
     rw[e0,this]
    rw[this] at h48;exact absurd h48 (by decide)
   ·simpa using hq
  ·exact hz
 ·exact Ew hp h3 ha (.inr h48)
theorem rM (s:ByteArray) (c:Int) (w:World) (hs:s.size≤1000000000) :
  Calls Tryz.prog 40 #[Z s,I .u8 c] w fun e w'=>∃ v,e=Zr v∧w'.ownsRow w.heap.size 9 1 v (bP s c).length ((bP s c).map Value.string)∧Below w.heap.size w w':=by
 obtain⟨i0,hi,hz0,hz1,hz2⟩:=info_parts Tryz.infoStr
 unfold bP;go_enter Tryz.func40,Tryz.ntmps40;go_wp2_with fail;go_loopw [5,6,7] (fun v f i wr=>∃ k:Nat,k≤s.size∧i=I J k∧f=I J (gq s c k).2∧wr.ownsRow w.heap.size 9 1 v (gq s c k).1.length ((gq s c k).1.map Value.string)∧Below w.heap.size w wr)
  (fun _ _ i _=>s.size-(intOf i).toNat)
 case atStart=>exact⟨0,Nat.zero_le _,rfl,rfl,World.ownsRow_nil _ _ _ _,Below.refl _ _⟩
 case round =>
  obtain⟨k,hk,rfl,rfl,hown,hb⟩:=hrel
  have hle:=uh s c k;by_cases hlt:k<s.size
  ·cases h1:((s[k].toNat:Int)==c)
   ·have HH:Hid (gq s c (k+1)=gq s c k):=DW hlt h1
    go_wp2;go_roundw
    case rel=>exact⟨k+1,by omega,by go_num,by rw[HH.out],by rw[HH.out];exact hown,hb⟩
    case measure=>simp[intOf];omega
   ·have HH:Hid (gq s c (k+1)=((gq s c k).1++[s.extract (gq s c k).2 k],k+1)):=BD hlt h1
    generalize gq s c k=st at *;go_wp2_with (at_builtin;go_loud (refine app1 rfl _ _ 48 rfl w.heap.size 9 i0 (Z Ze) 1 16 Tryz.underlying48 hi hz0 hz1 hz2 rfl (by decide) wr _ _ _ (by rfl) hown 1 [Z (s.extract st.2 k)] (by rfl) rfl ?c2 (by omega) (by decide) hb.size ?_))
    case c2=>intro u hu;simp at hu;subst hu;rfl
    intro v' w1 hown' hg hb1 hnil;go_wp2;go_roundw
    case rel=>exact⟨k+1,by omega,by go_num,by rw[HH.out];go_num,by rw[HH.out];simpa using hown',hb.trans hb1⟩
    case measure=>simp[intOf];omega
  ·have hke:k=s.size:=by omega
   subst hke;generalize hst:gq s c s.size=st at *;have Hst:Hid (gq s c s.size=st):=hst
   clear hst;go_wp2_with (at_builtin;refine app1 rfl _ _ 48 rfl w.heap.size 9 i0 (Z Ze) 1 16 Tryz.underlying48 hi hz0 hz1 hz2 rfl (by decide) wr _ _ _ (by rfl) hown 1 [Z (s.extract st.2 s.size)] (by rfl) rfl ?c3 (by omega) (by decide) hb.size ?_)
   case c3=>intro u hu;simp at hu;subst hu;rfl
   intro v' w1 hown' hg hb1 hnil;go_wp2;go_ret;exact⟨v',rfl,by rw[Hst.out];simpa using hown',hb.trans hb1⟩
def iF (c:Int):Bool:=decide (48≤c)&&decide (c≤57)
def nD (c:Int):Bool:=decide (97≤c)&&decide (c≤122)
theorem nN (c:Int) (w:World):Calls Tryz.prog 38 #[I .u8 c] w fun e w'=>e=Zr (.bool (iF c))∧w'=w:=by
 have HD:Hid (iF c=(decide (48≤c)&&decide (c≤57))):=rfl
 by_cases h1:48≤c
 ·by_cases h2:c≤57
  ·go_enter Tryz.func38,Tryz.ntmps38;go_wp2;go_ret;exact⟨aU (by rw[HD.out,decide_eq_true h1,decide_eq_true h2];rfl),rfl⟩
  ·go_enter Tryz.func38,Tryz.ntmps38;go_wp2;go_ret;exact⟨aU (by rw[HD.out,decide_eq_true h1,decide_eq_false (by omega)];rfl),rfl⟩
 ·go_enter Tryz.func38,Tryz.ntmps38;go_wp2;go_ret;exact⟨aU (by rw[HD.out,decide_eq_false (by omega)];rfl),rfl⟩
theorem uM (c:Int) (w:World):Calls Tryz.prog 166 #[I .u8 c] w fun e w'=>e=Zr (.bool (nD c))∧w'=w:=by
 have HD:Hid (nD c=(decide (97≤c)&&decide (c≤122))):=rfl
 by_cases h1:97≤c
 ·by_cases h2:c≤122
  ·go_enter Tryz.func166,Tryz.ntmps166;go_wp2;go_ret;exact⟨aU (by rw[HD.out,decide_eq_true h1,decide_eq_true h2];rfl),rfl⟩
  ·go_enter Tryz.func166,Tryz.ntmps166;go_wp2;go_ret;exact⟨aU (by rw[HD.out,decide_eq_true h1,decide_eq_false (by omega)];rfl),rfl⟩
 ·go_enter Tryz.func166,Tryz.ntmps166;go_wp2;go_ret;exact⟨aU (by rw[HD.out,decide_eq_false (by omega)];rfl),rfl⟩
theorem qK (c:Int) (w:World):Calls Tryz.prog 167 #[I .u8 c] w fun e w'=>e=Zr (.bool (nD c||iF c))∧w'=w:=by
 go_enter Tryz.func167,Tryz.ntmps167;go_wp2_with fail;refine (uM c _).mono ?_;rintro e w1 ⟨rfl,hw1⟩;subst hw1;cases h1:nD c
 ·go_wp2_with fail;refine (nN c _).mono ?_;rintro e w2 ⟨rfl,hw2⟩;subst hw2;go_wp2;go_ret;exact⟨aU (by rw[h1];rfl),rfl⟩
 ·go_wp2;go_ret;exact⟨aU (by rw[h1];rfl),rfl⟩
def aC (s:ByteArray) (a b:Int):Int:=if au s.data.toList a b then aF s.data.toList else 0
theorem pz (s:ByteArray) (a b:Int) (w:World) (hs:s.size≤maxLen) (ha:0≤a) (hb:b≤999) :
    Calls Tryz.prog 150 #[Z s,I J a,I J b] w fun e w'=>e=Zr (.tuple #[I J (aC s a b),.bool (au s.data.toList a b)])∧w'=w:=by
  unfold maxLen at hs
  have HV0 : Hid (au s.data.toList a b = false → aC s a b = 0) := fun q => by unfold aC; rw [q]; rfl
  have HV1 : Hid (au s.data.toList a b = true → aC s a b = aF s.data.toList) := fun q => by unfold aC; rw [q]; rfl
  have HW:Hid (au s.data.toList a b=(decide (a≤aF s.data.toList)&&decide (aF s.data.toList≤b))):=rfl
  have HNo:Hid (aF s.data.toList = -1→au s.data.toList a b=false):=fun q=>xB q ha
  have HOv:Hid (∀ k,(s.data.toList.take k).all gM=true→b<iT (s.data.toList.take k)→au s.data.toList a b=false):=fun k q r=>Lm q r ha
  generalize aC s a b=nv at *
  by_cases h0:s.size=0
  · have q:=HNo.out (Nn h0)
    have HZ:Hid (au s.data.toList a b=false):=q
    have HZ1:Hid (nv=0):=HV0.out q
    clear q
    generalize au s.data.toList a b=wb at *
    go_enter Tryz.func150,Tryz.ntmps150
    go_wp2
    go_ret2
    exact ⟨by rw [HZ.out, HZ1.out]; rfl, rfl⟩
  have hp : 0 < s.size := by omega
  by_cases hz:1<s.size∧((s[0].toNat:Int)==48)=true
  · obtain⟨hz1,hz2⟩:=hz
    have h48:(s.toList==[48])=false:=by
      rw[beq_eq_false_iff_ne];intro hc
      have:=congrArg List.length hc
      rw[ByteArray.toList_eq,nC] at this
      simp at this;omega
    have q:=HNo.out (Lp hp hz2 h48)
    have HZ:Hid (au s.data.toList a b=false):=q
    have HZ1:Hid (nv=0):=HV0.out q
    clear q h48
    generalize au s.data.toList a b=wb at *
    go_enter Tryz.func150,Tryz.ntmps150
    go_wp2
    go_ret2
    exact ⟨by rw [HZ.out, HZ1.out]; rfl, rfl⟩
  have hz':s.size≤1∨((s[0].toNat:Int)==48)=false:=by
    by_cases h1:1<s.size
    · right
      cases hq:((s[0].toNat:Int)==48)
      · rfl
      · exact absurd ⟨h1,hq⟩ hz
    · left;omega
  have HZ':Hid (s.size≤1∨((s[0].toNat:Int)==48)=false):=hz'
  clear hz
  by_cases h1:s.size≤1
  case' pos => have h1' : (s.size : Int) ≤ 1 := by omega
  case' neg =>
    have h1' : (1 : Int) < (s.size : Int) := by omega
    have hz0 : ((s[0].toNat : Int) == 48) = false := by rcases hz' with q | q; exact absurd q h1; exact q
  all_goals
    clear hz'
    go_enter Tryz.func150,Tryz.ntmps150
    go_upto_if 22 with fail
    go_cut [] from 10 (fun wr=>wr=w)
    case first =>
      go_wp2_with fail
      go_meet
      case rel=>rfl
    case rest =>
     subst hcut
     go_wp2_with fail
     go_loop [8,9] (fun v i=>∃ k:Nat,k≤s.size∧i=I J k∧v=I J (iT (s.data.toList.take k))∧(s.data.toList.take k).all gM=true∧0≤iT (s.data.toList.take k)∧(iT (s.data.toList.take k)≤b∨k=0)) (fun _ i=>s.size-(intOf i).toNat)
     case atStart => exact ⟨0, Nat.zero_le _, rfl, rfl, by simp, Int.le_refl _, .inr rfl⟩
     case round =>
       obtain⟨k,hk,rfl,rfl,hd,hv0,hvb⟩:=hrel
       have HD:Hid ((s.data.toList.take k).all gM=true):=hd
       have hv9 : iT (s.data.toList.take k) ≤ 999 := by rcases hvb with q | q; omega; (subst q; simp [iT])
       have HVb:Hid (iT (s.data.toList.take k)≤b∨k=0):=hvb
       clear hd hvb
       by_cases hlt:k<s.size
       · have hb5 : (s[k].toNat : Int) ≤ 255 := by have := s[k].toNat_lt; omega
         have HV : Hid (iT (s.data.toList.take (k + 1)) = iT (s.data.toList.take k) * 10 + ((s[k].toNat : Int) - 48)) := by rw [rZ s k hlt]; exact J6 _ _
         have HA:Hid (48≤(s[k].toNat:Int)→(s[k].toNat:Int)≤57→(s.data.toList.take (k+1)).all gM=true):=fun q r=>Kj hlt HD.out q r
         have HDi:Hid (∀ w,Calls Tryz.prog 38 #[I .u8 (s[k].toNat:Int)] w fun e w'=>e=Zr (.bool (iF (s[k].toNat:Int)))∧w'=w):=fun w=>nN _ w
         have HDd:Hid (iF (s[k].toNat:Int)=(decide (48≤(s[k].toNat:Int))&&decide ((s[k].toNat:Int)≤57))):=rfl
         have HBad:Hid (¬(48≤(s[k].toNat:Int)∧(s[k].toNat:Int)≤57)→au s.data.toList a b=false):=fun q=>HNo.out (OQ hlt q)
         generalize hvk:iT (s.data.toList.take k)=vk at *
         clear hvk
         go_wp2_with fail
         refine (HDi.out _).mono ?_
         rintro e w1 ⟨rfl,hw1⟩
         subst hw1
         by_cases hdg:48≤(s[k].toNat:Int)∧(s[k].toNat:Int)≤57
         · obtain⟨g1,g2⟩:=hdg
           have hdt : iF (s[k].toNat : Int) = true := by rw [HDd.out, decide_eq_true g1, decide_eq_true g2]; rfl
           have HA1:=HA.out g1 g2
           have HA2:Hid ((s.data.toList.take (k+1)).all gM=true):=HA1
           clear HA1 HA
           generalize iF (s[k].toNat:Int)=dgk at *
           subst hdt
           by_cases hov:b<vk*10+((s[k].toNat:Int)-48)
           · have q := HOv.out (k + 1) HA2.out (by rw [HV.out]; exact hov)
             have HZ:Hid (au s.data.toList a b=false):=q
             have HZ1:Hid (nv=0):=HV0.out q
             clear q
             go_wp2
             go_ret2
             exact ⟨by rw [HZ.out, HZ1.out]; rfl, rfl⟩
           · go_wp2_with fail
             go_round
             case rel => exact ⟨k + 1, by omega, by go_num, by rw [HV.out], HA2.out, by rw [HV.out]; omega, .inl (by rw [HV.out]; omega)⟩
             case measure=>simp[intOf];omega
         · have hdf:iF (s[k].toNat:Int)=false:=by
             rw[HDd.out];simp;omega
           have q:=HBad.out hdg
           have HZ:Hid (au s.data.toList a b=false):=q
           have HZ1:Hid (nv=0):=HV0.out q
           clear q hdg
           generalize iF (s[k].toNat:Int)=dgk at *
           subst hdf
           go_wp2
           go_ret2
           exact ⟨by rw [HZ.out, HZ1.out]; rfl, rfl⟩
       · obtain rfl : k = s.size := by omega
         have ht : s.data.toList.take s.size = s.data.toList := List.take_of_length_le (by rw [nC]; exact Nat.le_refl _)
         rw[ht] at HD HVb hv0 hv9 ⊢
         have hok:=Nl hp HZ'.out HD.out hv9
         have hnb : aF s.data.toList = iT s.data.toList := by unfold aF; rw [if_pos hok]
         have hle : iT s.data.toList ≤ b := by rcases HVb.out with q | q; exact q; omega
         rw[hnb] at HV1 HW
         clear hok hnb ht HNo HOv HD HVb
         generalize iT s.data.toList=vl at *
         by_cases hlo:vl<a
         · have q : au s.data.toList a b = false := by rw [HW.out]; simp; omega
           have HZ:Hid (au s.data.toList a b=false):=q
           have HZ1:Hid (nv=0):=HV0.out q
           clear q
           go_wp2
           go_ret2
           exact ⟨by rw [HZ.out, HZ1.out]; rfl, rfl⟩
         · have q : au s.data.toList a b = true := by rw [HW.out]; simp; omega
           have HZ:Hid (au s.data.toList a b=true):=q
           have HZ1:Hid (nv=vl):=HV1.out q
           clear q
           go_wp2
           go_ret2
           exact ⟨by rw [HZ.out, HZ1.out]; rfl, rfl⟩
theorem zS (b:UInt8):aF [b]=if iF b.toNat=true then (b.toNat:Int)-48 else -1:=by
 unfold aF;have hk:jW [b]=iF b.toNat:=by
  unfold jW;have e:gM b=iF b.toNat:=rfl
  by_cases h48:b=48
  ·subst h48;rfl
  ·simp[e]
 rw[hk]
 split
 ·simp[iT]
 ·rfl
theorem Lj {a b:UInt8} (h:aF [a]=aF [b]) (h0:0≤aF [a]):a=b:=by
 have h1:=yX h0;have h2:=yX (l:=[b]) (by omega)
 rw[h] at h1;rw[h1] at h2
 simpa using h2
def dA (s:ByteArray):List Int:=s.data.toList.map (fun b=>aF [b])
theorem jA (s:ByteArray):(dA s).length=s.size:=by unfold dA;rw[List.length_map,nC]
theorem CX (s:ByteArray) (k:Nat) (h:k<s.size):(dA s)[k]'(by rw[jA];exact h)=aF [s[k]]:=by
 simp only[dA,List.getElem_map];rfl
theorem Jf (s:ByteArray) (k:Nat) (h:k<s.size):(dA s).take (k+1)=(dA s).take k++[aF [s[k]]]:=by
 rw[List.take_succ_eq_append_getElem (by rw[jA];exact h),CX s k h]
def dz (s:ByteArray) (n:Int):List Int:=if aV s.data.toList n=true then dA s else []
theorem lT (v:Value) (l:List Int) (r:Int) (w:World) (hv:Ints w v l) (_hl:l.length≤1000000) :
  Calls Tryz.prog 39 #[v,I J r] w fun e w'=>e=Zr (.bool (l.any (fun x=>x==r)))∧w'=w:=by
 obtain⟨a,cap,rfl,_,_⟩:=hv.shape
 have HT:Hid (∀ k (hk:k<l.length),(l.take (k+1)).any (fun x=>x==r)=((l.take k).any (fun x=>x==r)||(l[k]==r))):=fun k hk=>by
  rw[List.take_succ_eq_append_getElem hk,List.any_append];simp
 have HF:Hid (l.any (fun x=>x==r)=(l.take l.length).any (fun x=>x==r)):=by unfold Hid;rw[List.take_length]
 have HY:Hid (∀ k (hk:k<l.length),(l[k]==r)=true→l.any (fun x=>x==r)=true):=fun k hk q=>List.any_eq_true.2 ⟨l[k],List.getElem_mem _,q⟩
 go_enter Tryz.func39,Tryz.ntmps39;go_wp2_with fail;go_loop [5] (fun i=>∃ k:Nat,k≤l.length∧i=I J k∧(l.take k).any (fun x=>x==r)=false) (fun i=>l.length-(intOf i).toNat)
 case atStart=>exact⟨0,Nat.zero_le _,rfl,by simp⟩
 case round =>
  obtain⟨k,hk,rfl,h0⟩:=hrel
  have H0:Hid ((l.take k).any (fun x=>x==r)=false):=h0
  clear h0;by_cases hlt:k<l.length
  ·obtain⟨b,o,rfl,_,c⟩:=hv.get k hlt
   have j1:(0:Int)≤(k:Int):=by omega
   have j2:(k:Int)<(l.length:Int):=by omega
   cases hq:(l[k]==r)
   ·go_wp2_with fail;go_round
    case rel=>exact⟨k+1,by omega,by go_num,by rw[HT.out k hlt,H0.out,hq];rfl⟩
    case measure=>simp[intOf];omega
   ·go_wp2;go_ret;exact⟨aU (HY.out k hlt hq).symm,rfl⟩
  ·obtain rfl:k=l.length:=by omega
   go_wp2;go_ret;exact⟨aU (by rw[HF.out,H0.out]),rfl⟩
theorem rJ (s:ByteArray) (n:Int) (w:World) (hs:s.size≤maxLen) :
  Calls Tryz.prog 16 #[Z s,I J n] w fun e w'=>∃ v,e=Zr v∧w'.ownsRow w.heap.size 3 1 v (dz s n).length ((dz s n).map (Value.int .i64))∧(v=Y O 0 0↔aV s.data.toList n=false)∧Below w.heap.size w w':=by
 obtain⟨i0,hi,hz0,hz1,hz2⟩:=info_parts Tryz.infoInt
 have HR0:Hid (aV s.data.toList n=false→dz s n=[]):=fun q=>by unfold dz;rw[q];rfl
 have HR1:Hid (aV s.data.toList n=true→dz s n=dA s):=fun q=>by unfold dz;rw[q];rfl
 have HNo:Hid (∀ W:World,aV s.data.toList n=false→∃ v,Zr (Y O 0 0)=Zr v∧W.ownsRow w.heap.size 3 1 v (dz s n).length ((dz s n).map (Value.int .i64))∧(v=Y O 0 0↔aV s.data.toList n=false)):=fun W q=>⟨_,rfl,by rw[HR0.out q];exact World.ownsRow_nil _ _ _ _,by rw[q];simp⟩
 have hls:=nC s;by_cases h3:s.size=3∨s.size=5
 ·have HG:Hid (gTo s.data.toList n s.size=true→aV s.data.toList n=true):=fun q=>by
   unfold aV;rw[nC,q];rcases h3 with h|h <;> rw[h] <;> rfl
  have HBad:Hid (∀ k,k<s.size→gAt s.data.toList n k=false→aV s.data.toList n=false):=fun k hk q=>I9 (by rw[nC];exact hk) q
  have hz5:s.size≤5:=by omega
  have hz0':0<s.size:=by omega
  rcases h3 with h3|h3
  case' inl =>
   have p3:((s.size:Int) != 3)=false:=by rw[h3];rfl
  case' inr =>
   have p3:((s.size:Int) != 3)=true:=by rw[h3];rfl
   have p5:((s.size:Int) != 5)=false:=by rw[h3];rfl
  all_goals
   clear h3 hls;go_enter Tryz.func16,Tryz.ntmps16;go_upto_if 15 with fail
   go_cut [] from 8 (fun wr=>wr=w)
   case first =>
    go_wp2_with fail;go_meet
    case rel=>rfl
   case rest =>
    subst hcut;clear p3;go_wp2_with fail;go_loopw [5,6] (fun v i wr=>∃ k:Nat,k≤s.size∧i=I J k∧wr.ownsRow wc.heap.size 3 1 v ((dA s).take k).length (((dA s).take k).map (Value.int .i64))∧gTo s.data.toList n k=true∧(v=Y O 0 0→k=0)∧Below wc.heap.size wc wr) (fun _ i _=>s.size-(intOf i).toNat)
    case atStart=>exact⟨0,Nat.zero_le _,rfl,World.ownsRow_nil _ _ _ _,rfl,fun _=>rfl,Below.refl _ _⟩
    case round =>
     obtain⟨k,hk,rfl,hown,hgt,hnl,hb⟩:=hrel
     have HGt:Hid (gTo s.data.toList n k=true):=hgt
     have HNl:Hid (u5=Y O 0 0→k=0):=hnl
     clear hgt hnl;by_cases hlt:k<s.size
     ·have hb5:(s[k].toNat:Int)≤255:=by have:=s[k].toNat_lt;omega
      have HDi:Hid (∀ w,Calls Tryz.prog 38 #[I .u8 (s[k].toNat:Int)] w fun e w'=>e=Zr (.bool (iF (s[k].toNat:Int)))∧w'=w):=fun w=>nN _ w
      have HDd:Hid (iF (s[k].toNat:Int)=(decide (48≤(s[k].toNat:Int))&&decide ((s[k].toNat:Int)≤57))):=rfl
      have HN1:Hid (aF [s[k]]=if iF (s[k].toNat:Int)=true then (s[k].toNat:Int)-48 else -1):=zS s[k]
      have HTk:Hid ((dA s).take (k+1)=(dA s).take k++[aF [s[k]]]):=Jf s k hlt
      have HRg:Hid (aF [s[k]]<0∨n≤aF [s[k]]→aV s.data.toList n=false):=fun q=>HBad.out k hlt (I7 hlt q)
      have HTw:Hid (0≤aF [s[k]]→((dA s).take k).any (fun x=>x==aF [s[k]])=true→aV s.data.toList n=false):=fun q r=>by
       rw[List.any_eq_true] at r;obtain⟨x,hx,hxe⟩:=r
       obtain⟨j,hj,rfl⟩:=List.mem_iff_getElem.1 hx
       rw[List.length_take,jA] at hj;have hjs:j<s.size:=by omega
       rw[List.getElem_take,CX s j hjs,beq_iff_eq] at hxe;have:=Lj hxe (by omega)
       refine HBad.out k hlt (I8 hlt (show j<k by omega) ?_)
       rw[this];simp
      have HOk:Hid (0≤aF [s[k]]→aF [s[k]]<n→((dA s).take k).any (fun x=>x==aF [s[k]])=false→gTo s.data.toList n (k+1)=true):=fun q r t=>by
       rw[KR,HGt.out];have:gAt s.data.toList n k=true:=by
        unfold gAt;rw[atS hlt];simp only[Bool.and_eq_true,decide_eq_true_eq,List.all_eq_true,Bool.not_eq_true',beq_eq_false_iff_ne];refine⟨⟨q,r⟩,fun j hj hc=>?_⟩
        have hjk:j<k:=by simpa using hj
        rw[atS (show j<s.size by omega)] at hc
        rw[List.any_eq_false] at t;refine t (aF [s[j]]) ?_ (by rw[beq_iff_eq,hc])
        rw[List.mem_iff_getElem];exact⟨j,by rw[List.length_take,jA];omega,by rw[List.getElem_take,CX s j (by omega)]⟩
       rw[this];rfl
      have hml:((dA s).take k).length≤10:=by rw[List.length_take];omega
      have hin:Ints wr u5 ((dA s).take k):=by unfold Ints;exact Rd.bR (by simpa using hown)
      generalize (dA s).take k=gk at *;go_wp2_with fail;refine (HDi.out _).mono ?_;rintro e w1 ⟨rfl,hw1⟩;subst hw1;cases hdg:iF (s[k].toNat:Int)
      ·have q:=HRg.out (.inl (by rw[HN1.out,hdg];simp))
       have HZ:Hid _:=HNo.out w1 q
       clear q;go_wp2;go_ret;obtain⟨v,z1,z2,z3⟩:=HZ.out
       exact⟨v,z1,z2,z3,hb⟩
      ·have g1:48≤(s[k].toNat:Int)∧(s[k].toNat:Int)≤57:=by have:=HDd.out;rw[hdg] at this;simpa using this.symm
       have HN2:Hid (aF [s[k]]=(s[k].toNat:Int)-48):=by unfold Hid;rw[HN1.out,hdg];rfl
       obtain⟨g1,g2⟩:=g1
       have HCo:Hid (∀ W,Ints W u5 gk→Calls Tryz.prog 39 #[u5,I J ((s[k].toNat:Int)-48)] W fun e w'=>e=Zr (.bool (gk.any (fun x=>x==aF [s[k]])))∧w'=W):=fun W q=>by rw[HN2.out];exact lT u5 gk _ W q (by omega)
       by_cases hge:n≤(s[k].toNat:Int)-48
       ·have q:=HRg.out (.inr (by rw[HN2.out];exact hge))
        have HZ:Hid _:=HNo.out w1 q
        clear q;go_wp2;go_ret;obtain⟨v,z1,z2,z3⟩:=HZ.out
        exact⟨v,z1,z2,z3,hb⟩
       ·generalize hany:gk.any (fun x=>x==aF [s[k]])=an at *
        have HAn:Hid (gk.any (fun x=>x==aF [s[k]])=an):=hany
        clear hany;go_wp2_with fail;refine (HCo.out _ hin).mono ?_;rintro e w2 ⟨rfl,hw2⟩;subst hw2;cases an
        ·have HT1:Hid (gTo s.data.toList n (k+1)=true):=HOk.out (by rw[HN2.out];omega) (by rw[HN2.out];omega) rfl
         go_wp2_with (at_builtin;refine app1 rfl _ _ 44 rfl wc.heap.size 3 i0 (I J 0) 1 8 Tryz.underlying44 hi hz0 hz1 hz2 rfl (by decide) w2 _ _ _ (by rfl) hown 1 [I J ((s[k].toNat:Int)-48)] (by rfl) rfl ?c2 (by omega) (by decide) hb.size ?_)
         case c2=>intro u hu;simp at hu;subst hu;rfl
         intro v3 w3 hown3 hg3 hb3 hn3;go_wp2;go_roundw
         case rel=>exact⟨k+1,by omega,by go_num,by rw[HTk.out,HN2.out];simpa using hown3,HT1.out,fun q=>absurd q hn3,hb.trans hb3⟩
         case measure=>simp[intOf];omega
        ·have q:=HTw.out (by rw[HN2.out];omega) rfl
         have HZ:Hid _:=HNo.out w2 q
         clear q;go_wp2;go_ret;obtain⟨v,z1,z2,z3⟩:=HZ.out
         exact⟨v,z1,z2,z3,hb⟩
     ·obtain rfl:k=s.size:=by omega
      rw[List.take_of_length_le (by rw[jA];exact Nat.le_refl _)] at hown
      have HG2:Hid (aV s.data.toList n=true):=HG.out HGt.out
      go_wp2;go_ret;exact⟨_,rfl,by rw[HR1.out HG2.out];simpa using hown,⟨fun q=>absurd (HNl.out q) (by omega),fun q=>by rw[HG2.out] at q;exact absurd q (by decide)⟩,hb⟩
 ·have q:aV s.data.toList n=false:=by
   cases hq:aV s.data.toList n
   ·rfl
   ·have:=jq hq;rw[nC] at this;exact absurd this h3
  have p3:((s.size:Int) != 3)=true:=by rw[bne_iff_ne];omega
  have p5:((s.size:Int) != 5)=true:=by rw[bne_iff_ne];omega
  have HZ:Hid _:=HNo.out w q
  clear q;go_enter Tryz.func16,Tryz.ntmps16;go_wp2;go_ret;obtain⟨v,z1,z2,z3⟩:=HZ.out
  exact⟨v,z1,z2,z3,Below.refl _ _⟩
theorem Cc (s:ByteArray) (w:World):Calls Tryz.prog 152 #[Z s] w fun e w'=>e=Zr (Z s)∧Below w.heap.size w w':=by
 have h1:=run_bytes_of_string (P:=Tryz.prog) w 9 100 5 s Tryz.underlying9 Tryz.underlying100 Tryz.underlying5;have hb:Below w.heap.size w (w.drew.alloc (.cells (bytesRow s (grownCap w s.size 0 5)) 5 ((bytesRow s (grownCap w s.size 0 5)).size,(bytesRow s (grownCap w s.size 0 5)).size+1))):=(Below.refl _ w).drew.alloc (Nat.le_refl _) _
 have hn:=heap_alloc_new w.drew (.cells (bytesRow s (grownCap w s.size 0 5)) 5 ((bytesRow s (grownCap w s.size 0 5)).size,(bytesRow s (grownCap w s.size 0 5)).size+1));have h2:=run_convert_bytes_back (P:=Tryz.prog) (w.drew.alloc (.cells (bytesRow s (grownCap w s.size 0 5)) 5 ((bytesRow s (grownCap w s.size 0 5)).size,(bytesRow s (grownCap w s.size 0 5)).size+1))) 100 9 5 ⟨w.heap.size,0,O⟩ (grownCap w s.size 0 5) s.data.toList Tryz.underlying100 Tryz.underlying5 Tryz.underlying9 (fun j hj=>by
  have hplain:(⟨w.heap.size,0,O⟩:Addr).add j=⟨w.heap.size,j,O⟩:=by unfold Addr.add;split <;> simp_all
  rw[hplain];have hn':(w.drew.alloc (.cells (bytesRow s (grownCap w s.size 0 5)) 5 ((bytesRow s (grownCap w s.size 0 5)).size,(bytesRow s (grownCap w s.size 0 5)).size+1))).heap[w.heap.size]? = _:=hn
  simp only[World.cell?,hn'];have hjs:j<s.data.size:=by simpa using hj
  unfold bytesRow;rw[if_neg (by simp),Array.getElem?_append_left (by simpa using hjs)]
  simp
  exact⟨_,Array.getElem?_eq_getElem hjs,rfl⟩)
 rw[nC] at h2;have e:(⟨s.data.toList.toArray⟩:ByteArray)=s:=bytes_inj (by simp)
 rw[e] at h2;generalize w.drew.alloc (.cells (bytesRow s (grownCap w s.size 0 5)) 5 ((bytesRow s (grownCap w s.size 0 5)).size,(bytesRow s (grownCap w s.size 0 5)).size+1))=W at *;generalize grownCap w s.size 0 5=C at *;clear hn e;go_enter Tryz.func152,Tryz.ntmps152;go_wp2;go_ret;exact⟨rfl,hb⟩
theorem KW (b:UInt8):isLet b=nD b.toNat:=by
 rw[Bool.eq_iff_iff];unfold isLet inB nD;simp[LET];omega
theorem zB (b:UInt8):isVal b=(nD b.toNat||iF b.toNat):=by
 rw[Bool.eq_iff_iff];unfold isVal inB nD iF;simp[LETD];omega
theorem zA (s:ByteArray) (h2:2≤s.size):dU s.data.toList=(!(fQ s[0]==0)&&(nD s[1].toNat&&((s.data.toList.drop 2).all isVal)&&s.size==fQ s[0])):=by
 have hl:=nC s;unfold dU opTo;rw[hl,atS (show 0<s.size by omega),atS (show 1<s.size by omega),decide_eq_true h2,KW,List.take_of_length_le (by omega)]
 simp[Bool.and_assoc]
theorem ML (s:ByteArray) (h:s.size=3):s.data.toList.drop 2=[s[2]]:=by
 have hl:=nC s;rw[List.drop_eq_getElem_cons (show 2<s.data.toList.length by omega),List.drop_eq_nil_of_le (by omega)];rfl
theorem MN (s:ByteArray) (h:s.size=4):s.data.toList.drop 2=[s[2],s[3]]:=by
 have hl:=nC s;rw[List.drop_eq_getElem_cons (show 2<s.data.toList.length by omega),List.drop_eq_getElem_cons (show 3<s.data.toList.length by omega),List.drop_eq_nil_of_le (by omega)];rfl
theorem Hy (s:ByteArray) (h:s.size=2):s.data.toList.drop 2=[]:=by
 have hl:=nC s;exact List.drop_eq_nil_of_le (by omega)
theorem IQ (b:UInt8):(((b.toNat:Int)==103)=true→fQ b=2)∧(((b.toNat:Int)==100)=true→fQ b=2)∧(((b.toNat:Int)==112)=true→fQ b=3)∧(((b.toNat:Int)==99)=true→fQ b=4) ∧
  (((b.toNat:Int)==103)=false→((b.toNat:Int)==100)=false→((b.toNat:Int)==112)=false→((b.toNat:Int)==99)=false→fQ b=0):=by
 have e:∀ n:Nat,n<256→((b.toNat:Int)==(n:Int))=true→b=UInt8.ofNat n:=fun n hn h=>by
  have h':(b.toNat:Int)=n:=by simpa using h
  apply UInt8.toNat_inj.1;rw[UInt8.toNat_ofNat'];omega
 have ne:∀ c:UInt8,((b.toNat:Int)==(c.toNat:Int))=false→b≠c:=fun c h hc=>by subst hc;simp at h
 refine⟨fun h=>?_,fun h=>?_,fun h=>?_,fun h=>?_,fun h1 h2 h3 h4=>?_⟩
 ·rw[e 103 (by omega) h];rfl
 ·rw[e 100 (by omega) h];rfl
 ·rw[e 112 (by omega) h];rfl
 ·rw[e 99 (by omega) h];rfl
 ·have a1:=ne 103 h1;have a2:=ne 100 h2;have a3:=ne 112 h3;have a4:=ne 99 h4;unfold fQ;rw[if_neg a1,if_neg a2,if_neg a3,if_neg a4]
theorem qg (s:ByteArray) (w:World) (hs:s.size≤maxLen):Calls Tryz.prog 151 #[Z s] w fun e w'=>e=Zr (.bool (dU s.data.toList))∧w'=w:=by
 unfold maxLen at hs;by_cases h2:2≤s.size
 ·have HD:=zA s h2;obtain⟨W1,W2,W3,W4,W5⟩:=IQ s[0]
  have HW1:Hid (((s[0].toNat:Int)==103)=true→fQ s[0]=2):=W1
  have HW2:Hid (((s[0].toNat:Int)==100)=true→fQ s[0]=2):=W2
  have HW3:Hid (((s[0].toNat:Int)==112)=true→fQ s[0]=3):=W3
  have HW4:Hid (((s[0].toNat:Int)==99)=true→fQ s[0]=4):=W4
  have HW5:Hid (((s[0].toNat:Int)==103)=false→((s[0].toNat:Int)==100)=false→((s[0].toNat:Int)==112)=false→((s[0].toNat:Int)==99)=false→fQ s[0]=0):=W5
  clear W1 W2 W3 W4 W5;have HDD:Hid (dU s.data.toList=(!(fQ s[0]==0)&&(nD s[1].toNat&&((s.data.toList.drop 2).all isVal)&&s.size==fQ s[0]))):=HD
  clear HD;generalize hob:dU s.data.toList=ob at *;clear hob;have HL:Hid (∀ w,Calls Tryz.prog 166 #[I .u8 (s[1].toNat:Int)] w fun e w'=>e=Zr (.bool (nD (s[1].toNat:Int)))∧w'=w):=fun w=>uM _ w
  generalize hlt:nD (s[1].toNat:Int)=l1 at *;clear hlt;go_enter Tryz.func151,Tryz.ntmps151;go_wp2_with fail;refine (HL.out _).mono ?_;rintro e w1 ⟨rfl,hw1⟩;subst hw1;cases l1
  ·go_wp2;go_ret;exact⟨aU (by rw[HDD.out];simp),rfl⟩
  cases q1:((s[0].toNat:Int)==103)
  ·cases q2:((s[0].toNat:Int)==100)
   ·cases q3:((s[0].toNat:Int)==112)
    ·cases q4:((s[0].toNat:Int)==99)
     ·have HZ:Hid (ob=false):=by unfold Hid;rw[HDD.out,HW5.out q1 q2 q3 q4];rfl
      go_wp2;go_ret;exact⟨aU HZ.out.symm,rfl⟩
     ·by_cases hz:s.size=4
      ·have HZ:Hid (ob=((nD s[2].toNat||iF s[2].toNat)&&(nD s[3].toNat||iF s[3].toNat))):=by
        have hb:(s.size==4)=true:=by simpa using hz
        unfold Hid;rw[HDD.out,HW4.out q4,MN s hz,hb];simp[zB]
       have hz':((s.size:Int)==4)=true:=by rw[hz];rfl
       have j2:2<s.size:=by omega
       have j3:3<s.size:=by omega
       have HV2:Hid (∀ w,Calls Tryz.prog 167 #[I .u8 (s[2].toNat:Int)] w fun e w'=>e=Zr (.bool (nD (s[2].toNat:Int)||iF (s[2].toNat:Int)))∧w'=w):=fun w=>qK _ w
       have HV3:Hid (∀ w,Calls Tryz.prog 167 #[I .u8 (s[3].toNat:Int)] w fun e w'=>e=Zr (.bool (nD (s[3].toNat:Int)||iF (s[3].toNat:Int)))∧w'=w):=fun w=>qK _ w
       generalize (nD (s[2].toNat:Int)||iF (s[2].toNat:Int))=v2 at *
       generalize (nD (s[3].toNat:Int)||iF (s[3].toNat:Int))=v3 at *
       go_wp2_with fail;refine (HV2.out _).mono ?_;rintro e w2 ⟨rfl,hw2⟩;subst hw2;cases v2
       ·go_wp2;go_ret;exact⟨aU (by rw[HZ.out];rfl),rfl⟩
       ·go_wp2_with fail;refine (HV3.out _).mono ?_;rintro e w3 ⟨rfl,hw3⟩;subst hw3;go_wp2;go_ret;exact⟨aU (by rw[HZ.out];rfl),rfl⟩
      ·have HZ:Hid (ob=false):=by unfold Hid;rw[HDD.out,HW4.out q4];simp[hz]
       have hz':((s.size:Int)==4)=false:=by rw[beq_eq_false_iff_ne];omega
       go_wp2;go_ret;exact⟨aU HZ.out.symm,rfl⟩
    ·by_cases hz:s.size=3
     ·have HZ:Hid (ob=(nD s[2].toNat||iF s[2].toNat)):=by
       have hb:(s.size==3)=true:=by simpa using hz
       unfold Hid;rw[HDD.out,HW3.out q3,ML s hz,hb];simp[zB]
      have hz':((s.size:Int)==3)=true:=by rw[hz];rfl
      have j2:2<s.size:=by omega
      have HV2:Hid (∀ w,Calls Tryz.prog 167 #[I .u8 (s[2].toNat:Int)] w fun e w'=>e=Zr (.bool (nD (s[2].toNat:Int)||iF (s[2].toNat:Int)))∧w'=w):=fun w=>qK _ w
      generalize (nD (s[2].toNat:Int)||iF (s[2].toNat:Int))=v2 at *
      go_wp2_with fail;refine (HV2.out _).mono ?_;rintro e w2 ⟨rfl,hw2⟩;subst hw2;go_wp2;go_ret;exact⟨aU (by rw[HZ.out]),rfl⟩
     ·have HZ:Hid (ob=false):=by unfold Hid;rw[HDD.out,HW3.out q3];simp[hz]
      have hz':((s.size:Int)==3)=false:=by rw[beq_eq_false_iff_ne];omega
      go_wp2;go_ret;exact⟨aU HZ.out.symm,rfl⟩
   ·have HZ:Hid (ob=(s.size==2)):=by
     unfold Hid;rw[HDD.out,HW2.out q2];by_cases hz:s.size=2
     ·have hb:(s.size==2)=true:=by simpa using hz
      rw[Hy s hz,hb];rfl
     ·simp[hz]
    go_wp2;go_ret;exact⟨aU (by rw[HZ.out,Bool.eq_iff_iff];simp;omega),rfl⟩
  ·have HZ:Hid (ob=(s.size==2)):=by
    unfold Hid;rw[HDD.out,HW1.out q1];by_cases hz:s.size=2
    ·have hb:(s.size==2)=true:=by simpa using hz
     rw[Hy s hz,hb];rfl
    ·simp[hz]
   go_wp2;go_ret;exact⟨aU (by rw[HZ.out,Bool.eq_iff_iff];simp;omega),rfl⟩
 ·have HZ:Hid (dU s.data.toList=false):=by
   unfold Hid dU;rw[nC,decide_eq_false h2];rfl
  go_enter Tryz.func151,Tryz.ntmps151;go_wp2;go_ret;exact⟨aU HZ.out.symm,rfl⟩
def qm (c n:Int) (op:ByteArray):Value:=.agg #[I J c,I J n,Z op]
def iU (op:ByteArray):Bool:=op.data.toList.head?==some 114
theorem kG (c n:Int) (op:ByteArray) (w:World) (hs:op.size≤maxLen):Calls Tryz.prog 75 #[qm c n op] w fun e w'=>e=Zr (.bool (iU op))∧Below w.heap.size w w':=by
 unfold maxLen at hs;have hb:∀ o,Below w.heap.size w (w.alloc o):=fun o=>(Below.refl _ w).alloc (Nat.le_refl _) o
 by_cases h0:op.size=0
 ·have HZ:Hid (iU op=false):=by unfold Hid iU;rw[nilS h0];rfl
  unfold qm;go_enter Tryz.func75,Tryz.ntmps75;go_wp2;go_ret;exact⟨aU HZ.out.symm,hb _⟩
 ·have hp:0<op.size:=by omega
  have HZ:Hid (iU op=((op[0].toNat:Int)==114)):=by
   unfold Hid iU;rw[KV hp,Bool.eq_iff_iff];simp
   constructor
   ·intro h;rw[h];rfl
   ·intro h;apply UInt8.toNat_inj.1;show op[0].toNat=114;omega
  unfold qm;go_enter Tryz.func75,Tryz.ntmps75;go_wp2;go_ret;exact⟨aU HZ.out.symm,hb _⟩
theorem nV (c m:Int) (op:ByteArray) (n:Int) (w:World) (hs:op.size≤maxLen) :
  Calls Tryz.prog 45 #[qm c m op,I J n] w fun e w'=>∃ v,e=Zr v∧(iU op=true→w'.ownsRow w.heap.size 3 1 v (dz (op.extract 1 op.size) n).length ((dz (op.extract 1 op.size) n).map (Value.int .i64)))∧(v=Y O 0 0↔(iU op&&aV (op.extract 1 op.size).data.toList n)=false)∧Below w.heap.size w w':=by
 have hs':=hs
 unfold maxLen at hs';have HR:Hid (∀ w,Calls Tryz.prog 75 #[.agg #[I J c,I J m,Z op]] w fun e w'=>e=Zr (.bool (iU op))∧Below w.heap.size w w'):=fun w=>kG c m op w hs
 have HP:Hid (iU op=true→1≤op.size):=fun q=>by
  unfold iU at q;by_cases h0:op.size=0
  ·rw[nilS h0] at q;exact absurd q (by decide)
  ·omega
 have HG:Hid (∀ w,Calls Tryz.prog 16 #[Z (op.extract 1 op.size),I J n] w fun e w'=>∃ v,e=Zr v∧w'.ownsRow w.heap.size 3 1 v (dz (op.extract 1 op.size) n).length ((dz (op.extract 1 op.size) n).map (Value.int .i64))∧(v=Y O 0 0↔aV (op.extract 1 op.size).data.toList n=false)∧Below w.heap.size w w'):=fun w=>rJ _ n w (by unfold maxLen;simp;omega)
 have hbA:Below w.heap.size w (w.alloc (.cells #[I J c,I J m,Z op] 66)):=(Below.refl _ w).alloc (Nat.le_refl _) _
 have hBA:=heap_alloc_new w (.cells #[I J c,I J m,Z op] 66);unfold qm;go_enter Tryz.func45,Tryz.ntmps45;go_wp2_with fail;refine (HR.out _).mono ?_;rintro e w1 ⟨rfl,hb1⟩;have hb01:=hbA.trans (hb1.mono hbA.size);have hB1:=(hb1.block _ (by simp)).trans hBA
 have z2:w1.cell? ⟨w.heap.size,2,O⟩=some (Z op):=by simp[World.cell?,hB1]
 cases hr:iU op
 ·go_wp2;go_ret;exact⟨_,rfl,fun q=>by rw[hr] at q;exact absurd q (by decide),by simp[hr],hb01⟩
 ·have h1:=HP.out hr;have h1':(1:Int)≤(op.size:Int):=by omega
  go_wp2_with fail;refine (HG.out _).mono ?_;rintro e w2 ⟨v2,rfl,ho2,hn2,hb2⟩;go_wp2;go_ret;refine⟨v2,rfl,fun _=>?_,by simpa [hr] using hn2,hb01.trans (hb2.mono hb01.size)⟩
  refine⟨ho2.1,?_⟩
  rcases ho2.2 with h|⟨g,cap,cur,e,q1,q2,q3⟩
  ·exact .inl h
  ·exact .inr ⟨g,cap,cur,e,Nat.le_trans hb01.size q1,q2,q3⟩
variable {X:List Nat}
structure OE (m:Sd):Prop where
 len:6<m.w.length
 k1:aF (m.w.getD 5 Ze).data.toList≤10
 eg:Cw (m.w.getD 6 Ze)
 es:(m.w.getD 6 Ze).size≤400
 er:isR (m.w.getD 6 Ze)=true→(opB (m.w.getD 6 Ze)).size≤6
 sz:∀ t∈m.w,t.size≤400
variable {X:List Nat}
structure Kg (m:Sd) (j:Nat):Prop where
 len:j+1<m.w.length
 e0:0≤m.epoch
 e1:m.epoch≤10
 v0:0≤m.view
 v1:m.view≤999
 g0:0<(m.w.getD j Ze).size
 g1:(m.w.getD j Ze).size≤5
 o1:(m.w.getD (j+1) Ze).size≤5
 log:J9 m.log
 c0:0≤m.commit
 c1:m.commit≤m.log.length
variable {X:List Nat}
def nmB (s:Sd):Int:=aF (s.w.getD 5 Ze).data.toList
def ku (k:ByteArray):Bool:=k.toList==[112]||k.toList==[99]||k.toList==[118]||k.toList==[115]||k.toList==[97]
def EZ (ws:List ByteArray) (f:ByteArray):Nat→Int
 | 0=>0
 | k+1=>if (((f.data.toList.getD k 0).toNat:Int)==121)=true then aF (ws.getD (k+1) Ze).data.toList else EZ ws f k
def Oz (ws:List ByteArray) (f:ByteArray):Nat→List ByteArray
 | 0=>[]
 | k+1=>if (((f.data.toList.getD k 0).toNat:Int)==76)=true then lq (ws.getD (k+1) Ze) else Oz ws f k
def eu (s:ByteArray):List Int:=(bP s 46).map fun p=>aF p.data.toList
def fu (ws:List ByteArray):Sd :=
  ⟨ws,ws.getD 0 Ze,aF (ws.getD 1 Ze).data.toList,eu (ws.getD 2 Ze),aF (ws.getD 3 Ze).data.toList,aF (ws.getD 4 Ze).data.toList,
   if ku (ws.getD 0 Ze) then EZ ws (bG (ws.getD 0 Ze)) (bG (ws.getD 0 Ze)).size else 0,
   if ku (ws.getD 0 Ze) then Oz ws (bG (ws.getD 0 Ze)) (bG (ws.getD 0 Ze)).size else []⟩
structure OG (n:Int) (m:Sd):Prop where
 sz:∀ x∈m.w,x.size≤100000000
 f0:0≤m.frm
 f1:m.frm<n
 ll:(m.lives.length:Int)=n
 lv:∀ x∈m.lives,0≤x∧x≤999
 e0:0≤m.epoch
 e1:m.epoch≤10
 v0:0≤m.view
 v1:m.view≤999
 c0:0≤m.commit
 c1:m.commit≤10
 log:J9 m.log
 le:∀ e∈m.log,dR e n=true
structure OH (m:Sd):Prop where
 len:5<m.w.length
 n0:0≤nmB m
 n1:nmB m≤999
 cl:m.commit≤m.log.length
structure OC (n:Int) (m:Sd):Prop where
 len:4<m.w.length
 w1:(m.w.getD 1 Ze).size=1
 p:m.kind.toList=[112]→OE m∧dR (m.w.getD 6 Ze) n=true∧1≤aF (m.w.getD 5 Ze).data.toList
 k:m.kind.toList=[107]→5<m.w.length∧0≤nmB m∧nmB m≤10
 v:m.kind.toList=[118]→OH m
 s:m.kind.toList=[115]→Kg m 5∧aV (m.w.getD 5 Ze).data.toList n=true∧(aV (m.w.getD 6 Ze).data.toList n=true∨(m.w.getD 6 Ze).toList=[45])
 a:m.kind.toList=[97]→Kg m 6∧aV (m.w.getD 6 Ze).data.toList n=true∧(aV (m.w.getD 7 Ze).data.toList n=true∨(m.w.getD 7 Ze).toList=[45])∧1≤nmB m∧nmB m≤999
theorem num1 {l:List UInt8} {n:Int} (h0:0≤aF l) (h1:aF l≤n) (hn:n≤9):l.length=1:=by
 unfold aF at h0 h1
 split at h0
 ·rename_i hk;rw[if_pos hk] at h1;unfold jW at hk;simp only[Bool.and_eq_true,Bool.not_eq_true',decide_eq_true_eq,List.all_eq_true] at hk;obtain⟨⟨⟨h2,h3⟩,h4⟩,h5⟩:=hk
  match l,h2,h3,h4,h5,h1 with
  | [],_,h3,_,_,_=>simp at h3
  | [_],_,_,_,_,_=>rfl
  | [a,b],h2,_,_,h5,h1 =>
   exfalso
   have ha:=h2 a (by simp)
   have hb:=h2 b (by simp)
   simp[gM] at ha hb;have:a.toNat≠48:=by
    intro hc;have:a=48:=by apply UInt8.toNat_inj.1;rw[hc];rfl
    subst this;simp at h5
   simp[iT] at h1;omega
  | [a,b,c],h2,_,_,h5,h1 =>
   exfalso
   have ha:=h2 a (by simp)
   have hb:=h2 b (by simp)
   have hc:=h2 c (by simp)
   simp[gM] at ha hb hc;have:a.toNat≠48:=by
    intro hc;have:a=48:=by apply UInt8.toNat_inj.1;rw[hc];rfl
    subst this;simp at h5
   simp[iT] at h1;omega
  | _ :: _ :: _ :: _ :: _,_,_,h4,_,_=>simp at h4
 ·omega
theorem mE {s:ByteArray} {n:Int} (h:aV s.data.toList n=true):0<s.size∧s.size≤5:=by
 have h1:=jq h;have hl:s.size=s.data.toList.length:=by simp
 omega
variable {X:List Nat}
theorem ig {w w':World} {base:Nat} {e:TypeId} {size:Nat} {v:Value} {n:Nat} {xs:List Value} {S:List Nat} (h:w.ownsRow base e size v n xs) (k:Kp S w w') (hS:∀ x∈S,x<base):w'.ownsRow base e size v n xs:=by
 refine⟨h.1,?_⟩
 rcases h.2 with h2|⟨g,cap,cur,e,q1,q2,q3⟩
 ·exact .inl h2
 ·exact .inr ⟨g,cap,cur,e,q1,(k.block g (lt_of_block q2) (fun hc=>by have:=hS g hc;omega)).trans q2,q3⟩
structure aJ (w:World) (br:Nat) (vw:Value) (ws:List ByteArray) (nx:Nat) (n:Int) (wr:Bool):Prop where
 block:w.heap[br]? = some (.cells #[vw,I J nx,I J n,.bool wr] 91 (0,0))
 words:Strs w vw ws
 fr:Fr [br] vw
 le:nx≤ws.length
theorem aJ.below {w w':World} {br:Nat} {vw:Value} {ws:List ByteArray} {nx:Nat} {n:Int} {wr:Bool} (h:aJ w br vw ws nx n wr) (hb:Below w.heap.size w w'):aJ w' br vw ws nx n wr :=
 ⟨(hb.block br (lt_of_block h.block)).trans h.block,h.words.below hb,h.fr,h.le⟩
theorem aJ.at {w:World} {br:Nat} {vw:Value} {ws:List ByteArray} {nx:Nat} {n:Int} {wr:Bool} (h:aJ w br vw ws nx n wr) (j:Nat) (hj:j<4):w.cell? ⟨br,j,O⟩=some ((#[vw,I J nx,I J n,.bool wr]:Array Value)[j]'hj):=by
 simp only[World.cell?,h.block];simp
theorem aJ.free {w:World} {br:Nat} {vw:Value} {ws:List ByteArray} {nx:Nat} {n:Int} {wr:Bool} (h:aJ w br vw ws nx n wr) (j:Nat):w.frozen? ⟨br,j,O⟩=false:=by
 simp[World.frozen?,h.block]
theorem aJ.qV {w:World} {br:Nat} {vw:Value} {ws:List ByteArray} {nx:Nat} {n:Int} {wr:Bool} (h:aJ w br vw ws nx n wr) (x:Bool):aJ (w.setCell ⟨br,3,O⟩ (.bool x)) br vw ws nx n x :=
 ⟨by have:=heap_setCell_same w br 3 _ _ (.bool x) h.block;simpa using this,h.words.kp ((Kp.refl [br] w).set br 3 _ (.inl (by simp))) h.fr,h.fr,h.le⟩
theorem aJ.IE {w:World} {br:Nat} {vw:Value} {ws:List ByteArray} {nx:Nat} {n:Int} {wr:Bool} (h:aJ w br vw ws nx n wr) (x:Nat) (hx:x≤ws.length):aJ (w.setCell ⟨br,1,O⟩ (I J x)) br vw ws x n wr :=
 ⟨by have:=heap_setCell_same w br 1 _ _ (I J (x:Int)) h.block;simpa using this,h.words.kp ((Kp.refl [br] w).set br 1 _ (.inl (by simp))) h.fr,h.fr,hx⟩
def nxt (ws:List ByteArray) (nx:Nat):Nat:=if nx<ws.length then nx+1 else nx
def wrd (ws:List ByteArray) (nx:Nat):ByteArray:=ws.getD nx ⟨#[]⟩
def aK (w w':World) (br:Nat) (vw:Value) (ws:List ByteArray) (nx:Nat) (n:Int) (wr:Bool):Prop:=aJ w' br vw ws nx n wr∧Kp [br] w w'
theorem aK.below {w w1 w2:World} {br:Nat} {vw:Value} {ws:List ByteArray} {nx:Nat} {n:Int} {wr:Bool} (h:aK w w1 br vw ws nx n wr) (hb:Below w1.heap.size w1 w2):aK w w2 br vw ws nx n wr:=⟨h.1.below hb,h.2.aS hb⟩
theorem aK.wrong {w w1:World} {br:Nat} {vw:Value} {ws:List ByteArray} {nx:Nat} {n:Int} {wr:Bool} (h:aK w w1 br vw ws nx n wr) (x:Bool):aK w (w1.setCell ⟨br,3,O⟩ (.bool x)) br vw ws nx n x:=⟨h.1.qV x,h.2.set br 3 _ (.inl (by simp))⟩
theorem lu (br:Nat) (vw:Value) (ws:List ByteArray) (nx:Nat) (n:Int) (wr:Bool) (w:World) (h:aJ w br vw ws nx n wr) (hl:ws.length≤100000) :
  Calls Tryz.prog 70 #[Zp (some ⟨br,0,O⟩)] w fun e w'=>e=Zr (Z (wrd ws nx))∧aK w w' br vw ws (nxt ws nx) n (wr||!decide (nx<ws.length)):=by
 obtain⟨a,cap,rfl,_,_⟩:=h.words.shape
 have c0:=h.at 0 (by omega)
 have c1:=h.at 1 (by omega)
 have c3:=h.at 3 (by omega)
 simp at c0 c1 c3;have f1:=h.free 1;have f3:=h.free 3;have hle:=h.le;by_cases hlt:nx<ws.length
 ·have HN:Hid (nxt ws nx=nx+1):=by unfold Hid nxt;rw[if_pos hlt]
  have HW:Hid (wrd ws nx=ws[nx]):=by unfold Hid wrd;simp[List.getD,hlt]
  have HR:Hid ((wr||!decide (nx<ws.length))=wr):=by unfold Hid;simp[hlt]
  have hlt':¬(ws.length:Int)≤(nx:Int):=by omega
  obtain⟨b,o,rfl,hbb,x⟩:=h.words.get nx hlt
  have j1:(0:Int)≤(nx:Int):=by omega
  have j2:(nx:Int)<(ws.length:Int):=by omega
  go_enter Tryz.func70,Tryz.ntmps70;go_wp2_with fail;go_quiet (fail);go_wp2_with fail;go_quiet (fail);go_wp2;go_ret;refine⟨jF HW.out.symm,?_⟩
  rw[HN.out,HR.out];exact⟨aJ.IE (h.below (below_drewN (Below.refl _ _) _)) (nx+1) (by omega),(Kp.of_below (below_drewN (Below.refl _ _) _)).set br 1 _ (.inl (by simp))⟩
 ·have HN:Hid (nxt ws nx=nx):=by unfold Hid nxt;rw[if_neg hlt]
  have HW:Hid (wrd ws nx=⟨#[]⟩):=by unfold Hid wrd;rw[List.getD,List.getElem?_eq_none (by omega)];rfl
  have HR:Hid ((wr||!decide (nx<ws.length))=true):=by unfold Hid;simp[hlt]
  have hlt':(ws.length:Int)≤(nx:Int):=by omega
  go_enter Tryz.func70,Tryz.ntmps70;go_wp2_with fail;go_quiet (fail);go_wp2;go_ret;refine⟨jF HW.out.symm,?_⟩
  rw[HN.out,HR.out];exact⟨aJ.qV (h.below (below_drewN (Below.refl _ _) _)) true,(Kp.of_below (below_drewN (Below.refl _ _) _)).set br 3 _ (.inl (by simp))⟩
theorem jR {ws:List ByteArray} {nx M:Nat} (h:∀ x∈ws,x.size≤M):(wrd ws nx).size≤M:=by
 unfold wrd;by_cases hk:nx<ws.length
 ·have e:ws.getD nx ⟨#[]⟩=ws[nx]:=by simp[List.getD,hk]
  rw[e];exact h _ (List.getElem_mem _)
 ·have e:ws.getD nx ⟨#[]⟩=⟨#[]⟩:=by rw[List.getD,List.getElem?_eq_none (by omega)];rfl
  rw[e];exact Nat.zero_le _
theorem yF {ws:List ByteArray} {nx:Nat} (h:¬nx<ws.length):wrd ws nx=⟨#[]⟩:=by
 unfold wrd;rw[List.getD,List.getElem?_eq_none (by omega)];rfl
theorem nA {ws:List ByteArray} {nx:Nat} {wr:Bool} {f:ByteArray→Bool} (hf:f ⟨#[]⟩=false):((wr||!decide (nx<ws.length))||!f (wrd ws nx))=(wr||!f (wrd ws nx)):=by
 by_cases h:nx<ws.length
 ·simp[h]
 ·rw[yF h,hf];simp
section
variable (br:Nat) (vw:Value) (ws:List ByteArray) (nx:Nat) (n:Int) (wr:Bool) (w:World) (h:aJ w br vw ws nx n wr) (hl:ws.length≤100000) (hz:∀ x∈ws,x.size≤1000)
theorem dx (br:Nat) (vw:Value) (ws:List ByteArray) (nx:Nat) (n:Int) (wr:Bool) (w:World) (h:aJ w br vw ws nx n wr) (hl:ws.length≤100000) (hz:∀ x∈ws,x.size≤1000) (a b:Int) (ha:0≤a) (hb:b≤999) :
  Calls Tryz.prog 114 #[Zp (some ⟨br,0,O⟩),I J a,I J b] w fun e w'=>e=Zr (I J (aC (wrd ws nx) a b))∧aK w w' br vw ws (nxt ws nx) n (wr||!au (wrd ws nx).data.toList a b):=by
 have hzw:=jR (nx:=nx) hz;have HO:Hid (((wr||!decide (nx<ws.length))||!au (wrd ws nx).data.toList a b)=(wr||!au (wrd ws nx).data.toList a b)):=nA (f:=fun x=>au x.data.toList a b) (xB rfl ha)
 have HNu:Hid (∀ w,Calls Tryz.prog 150 #[Z (wrd ws nx),I J a,I J b] w fun e w'=>e=Zr (.tuple #[I J (aC (wrd ws nx) a b),.bool (au (wrd ws nx).data.toList a b)])∧w'=w):=fun w=>pz _ _ _ w (by unfold maxLen;omega) ha hb
 have HWd:Hid (Calls Tryz.prog 70 #[Zp (some ⟨br,0,O⟩)] w fun e w'=>e=Zr (Z (wrd ws nx))∧aK w w' br vw ws (nxt ws nx) n (wr||!decide (nx<ws.length))):=lu br vw ws nx n wr w h hl
 rw[← HO.out];clear HO;generalize (wr||!decide (nx<ws.length))=w0 at *
 generalize aC (wrd ws nx) a b=v at *;generalize au (wrd ws nx).data.toList a b=ok at *;go_enter Tryz.func114,Tryz.ntmps114;go_wp2_with fail;refine HWd.out.mono ?_;rintro e w1 ⟨rfl,hP⟩;go_wp2_with fail;refine (HNu.out _).mono ?_;rintro e w2 ⟨rfl,hw2⟩;subst hw2;have c3:=hP.1.at 3 (by omega)
 have f3:=hP.1.free 3;simp at c3;cases ok
 ·go_wp2;go_ret;exact⟨rfl,by simpa using hP.wrong true⟩
 ·go_wp2;go_ret;exact⟨rfl,by simpa using hP⟩
theorem Bf (br:Nat) (vw:Value) (ws:List ByteArray) (nx:Nat) (n:Int) (wr:Bool) (w:World) (h:aJ w br vw ws nx n wr) (hl:ws.length≤100000) (hz:∀ x∈ws,x.size≤1000) :
  Calls Tryz.prog 115 #[Zp (some ⟨br,0,O⟩)] w fun e w'=>e=Zr (Z (if dU (wrd ws nx).data.toList then wrd ws nx else ⟨#[]⟩))∧aK w w' br vw ws (nxt ws nx) n (wr||!dU (wrd ws nx).data.toList):=by
 have hzw:=jR (nx:=nx) hz;have HO:Hid (((wr||!decide (nx<ws.length))||!dU (wrd ws nx).data.toList)=(wr||!dU (wrd ws nx).data.toList)):=nA (f:=fun x=>dU x.data.toList) rfl
 have HNu:Hid (∀ w,Calls Tryz.prog 151 #[Z (wrd ws nx)] w fun e w'=>e=Zr (.bool (dU (wrd ws nx).data.toList))∧w'=w):=fun w=>qg _ w (by unfold maxLen;omega)
 have HFr:Hid (∀ w,Calls Tryz.prog 152 #[Z (wrd ws nx)] w fun e w'=>e=Zr (Z (wrd ws nx))∧Below w.heap.size w w'):=fun w=>Cc _ w
 have HWd:Hid (Calls Tryz.prog 70 #[Zp (some ⟨br,0,O⟩)] w fun e w'=>e=Zr (Z (wrd ws nx))∧aK w w' br vw ws (nxt ws nx) n (wr||!decide (nx<ws.length))):=lu br vw ws nx n wr w h hl
 rw[← HO.out];clear HO;generalize (wr||!decide (nx<ws.length))=w0 at *
 generalize dU (wrd ws nx).data.toList=ok at *;go_enter Tryz.func115,Tryz.ntmps115;go_wp2_with fail;refine HWd.out.mono ?_;rintro e w1 ⟨rfl,hP⟩;go_wp2_with fail;refine (HNu.out _).mono ?_;rintro e w2 ⟨rfl,hw2⟩;subst hw2;have c3:=hP.1.at 3 (by omega)
 have f3:=hP.1.free 3;simp at c3;cases ok
 ·go_wp2;go_ret;exact⟨rfl,by simpa using hP.wrong true⟩
 ·go_wp2_with fail;refine (HFr.out _).mono ?_;rintro e w3 ⟨rfl,hb3⟩;go_wp2;go_ret;exact⟨rfl,by simpa using hP.below hb3⟩
theorem JM (br:Nat) (vw:Value) (ws:List ByteArray) (nx:Nat) (n:Int) (wr:Bool) (w:World) (h:aJ w br vw ws nx n wr) (hl:ws.length≤100000) (hz:∀ x∈ws,x.size≤1000) :
  Calls Tryz.prog 155 #[Zp (some ⟨br,0,O⟩)] w fun e w'=>∃ v,e=Zr v∧w'.ownsRow w.heap.size 3 1 v (dz (wrd ws nx) n).length ((dz (wrd ws nx) n).map (Value.int .i64))∧aK w w' br vw ws (nxt ws nx) n (wr||!aV (wrd ws nx).data.toList n):=by
 have hzw:=jR (nx:=nx) hz;have HO:Hid (((wr||!decide (nx<ws.length))||!aV (wrd ws nx).data.toList n)=(wr||!aV (wrd ws nx).data.toList n)):=nA (f:=fun x=>aV x.data.toList n) rfl
 have HGr:Hid (∀ w,Calls Tryz.prog 16 #[Z (wrd ws nx),I J n] w fun e w'=>∃ v,e=Zr v∧w'.ownsRow w.heap.size 3 1 v (dz (wrd ws nx) n).length ((dz (wrd ws nx) n).map (Value.int .i64))∧(v=Y O 0 0↔aV (wrd ws nx).data.toList n=false)∧Below w.heap.size w w'):=fun w=>rJ _ n w (by unfold maxLen;omega)
 have HWd:Hid (Calls Tryz.prog 70 #[Zp (some ⟨br,0,O⟩)] w fun e w'=>e=Zr (Z (wrd ws nx))∧aK w w' br vw ws (nxt ws nx) n (wr||!decide (nx<ws.length))):=lu br vw ws nx n wr w h hl
 have hlb:=lt_of_block h.block;rw[← HO.out];clear HO;generalize (wr||!decide (nx<ws.length))=w0 at *
 generalize aV (wrd ws nx).data.toList n=ok at *;generalize dz (wrd ws nx) n=gr at *;have hnl:=fun w a n c=>Lib.run_eql_slice_nil (P:=Tryz.prog) w 44 3 a n c 0 0 Tryz.underlying44
 go_enter Tryz.func155,Tryz.ntmps155;go_wp2_with fail;refine HWd.out.mono ?_;rintro e w1 ⟨rfl,hP⟩;have c2:=hP.1.at 2 (by omega)
 simp at c2;go_wp2_with fail;refine (HGr.out _).mono ?_;rintro e w2 ⟨v2,rfl,ho2,hn2,hb2⟩;have hP2:=hP.below hb2;have c3:=hP2.1.at 3 (by omega)
 have f3:=hP2.1.free 3;simp at c3;have ho2':w2.ownsRow w.heap.size 3 1 v2 gr.length (gr.map (Value.int .i64)):=by
  refine⟨ho2.1,?_⟩
  rcases ho2.2 with q|⟨g,cap,cur,e,q1,q2,q3⟩
  ·exact .inl q
  ·exact .inr ⟨g,cap,cur,e,Nat.le_trans hP.2.size q1,q2,q3⟩
 cases ok
 ·obtain rfl:=hn2.2 rfl;go_wp2;go_ret;exact⟨_,rfl,ig ho2' ((Kp.refl [br] w2).set br 3 _ (.inl (by simp))) (fun x hx=>by simp at hx;subst hx;exact hlb),by simpa using hP2.wrong true⟩
 ·rcases ho2.2 with ⟨hv,_⟩|⟨g,cap,cur,hv,_⟩
  ·exact absurd (hn2.1 hv) (by decide)
  ·subst hv;go_wp2;go_ret;exact⟨_,rfl,ho2',by simpa using hP2⟩
end
theorem inDec (b:UInt8):inB b.toNat DEC.data.toList=iF b.toNat:=by
 rw[Bool.eq_iff_iff];unfold inB iF;simp[DEC];omega
theorem bI {fn:Func} {t:Tmp} {T:TypeId} (h:fn.results=#[.cell t T]) (tmps:Array Value) (P:Program) (w:World) {p:Addr} {v:Value} (hp:tmps.getD t undef=Zp (some p)) (hl:(loadVar T p).run P w=.ok v w) :
  (results fn tmps).run P w=.ok v w:=by
 have hp':tmps[t]?.getD undef=Zp (some p):=by simpa using hp
 simp only[results,h];simp[hp',hl,asAddr]
theorem eU {w:World} {base base':Nat} {e:TypeId} {size:Nat} {v:Value} {n:Nat} {xs:List Value} (h:w.ownsRow base e size v n xs) (hb:base'≤base):w.ownsRow base' e size v n xs:=by
 refine⟨h.1,?_⟩
 rcases h.2 with q|⟨g,cap,cur,e,q1,q2,q3⟩
 ·exact .inl q
 ·exact .inr ⟨g,cap,cur,e,Nat.le_trans hb q1,q2,q3⟩
def sZ (s:ByteArray):ByteArray:=if iX s.data.toList=true then s else ⟨#[]⟩
section
variable (br:Nat) (vw:Value) (ws:List ByteArray) (nx:Nat) (n:Int) (wr:Bool) (w:World) (h:aJ w br vw ws nx n wr) (hl:ws.length≤100000) (hz:∀ x∈ws,x.size≤1000)
theorem GL (br:Nat) (vw:Value) (ws:List ByteArray) (nx:Nat) (n:Int) (wr:Bool) (w:World) (h:aJ w br vw ws nx n wr) (hl:ws.length≤100000) (hz:∀ x∈ws,x.size≤1000) :
  Calls Tryz.prog 116 #[Zp (some ⟨br,0,O⟩)] w fun e w'=>e=Zr (Z (sZ (wrd ws nx)))∧aK w w' br vw ws (nxt ws nx) n (wr||!iX (wrd ws nx).data.toList):=by
 have hzw:=jR (nx:=nx) hz;have HO:Hid (((wr||!decide (nx<ws.length))||!iX (wrd ws nx).data.toList)=(wr||!iX (wrd ws nx).data.toList)):=nA (f:=fun x=>iX x.data.toList) rfl
 have HWd:Hid (Calls Tryz.prog 70 #[Zp (some ⟨br,0,O⟩)] w fun e w'=>e=Zr (Z (wrd ws nx))∧aK w w' br vw ws (nxt ws nx) n (wr||!decide (nx<ws.length))):=lu br vw ws nx n wr w h hl
 rw[← HO.out];clear HO;generalize (wr||!decide (nx<ws.length))=w0 at *
 generalize wrd ws nx=s at *;generalize nxt ws nx=nx' at *;have hls:=nC s;have HD:Hid (iX s.data.toList=(s.data.toList.all (fun b=>iF b.toNat)&&(decide (1≤s.size)&&decide (s.size≤8)))):=by
  unfold Hid iX;rw[nC];congr 2;funext b;exact inDec b
 have HR0:Hid (iX s.data.toList=false→sZ s=⟨#[]⟩):=fun q=>by unfold sZ;rw[q];rfl
 have HR1:Hid (iX s.data.toList=true→sZ s=s):=fun q=>by unfold sZ;rw[q];rfl
 generalize sZ s=dr at *;generalize iX s.data.toList=ok at *;go_enter Tryz.func116,Tryz.ntmps116;go_wp2_with fail;refine HWd.out.mono ?_;rintro e w1 ⟨rfl,hP⟩;have c3:=hP.1.at 3 (by omega)
 have f3:=hP.1.free 3;simp at c3;clear hls;by_cases h1:s.size<1
 ·have HZ:Hid (ok=false):=by unfold Hid;rw[HD.out];simp;omega
  have h1':(s.size:Int)<1:=by omega
  go_wp2;go_ret;exact⟨jF (by rw[HR0.out HZ.out]),by rw[HZ.out];simpa using hP.wrong true⟩
 by_cases h8:8<s.size
 ·have HZ:Hid (ok=false):=by unfold Hid;rw[HD.out];simp;omega
  have h8':(8:Int)<(s.size:Int):=by omega
  go_wp2;go_ret;exact⟨jF (by rw[HR0.out HZ.out]),by rw[HZ.out];simpa using hP.wrong true⟩
 have HD2:Hid (ok=s.data.toList.all (fun b=>iF b.toNat)):=by unfold Hid;rw[HD.out,decide_eq_true (by omega:1≤s.size),decide_eq_true (by omega:s.size≤8)];simp
 go_upto_if 14 with fail
 go_cut [] from 5 (fun wr=>wr=w1)
 case first =>
  go_wp2_with fail;go_meet
  case rel=>rfl
 case rest =>
  subst hcut;go_wp2_with fail;go_loop [4] (fun i=>∃ k:Nat,k≤s.size∧i=I J k∧(s.data.toList.take k).all (fun b=>iF b.toNat)=true) (fun i=>s.size-(intOf i).toNat)
  case atStart=>exact⟨0,Nat.zero_le _,rfl,by simp⟩
  case round =>
   obtain⟨k,hk,rfl,h0⟩:=hrel
   have H0:Hid ((s.data.toList.take k).all (fun b=>iF b.toNat)=true):=h0
   clear h0;by_cases hlt:k<s.size
   ·have HDi:Hid (∀ w,Calls Tryz.prog 38 #[I .u8 (s[k].toNat:Int)] w fun e w'=>e=Zr (.bool (iF (s[k].toNat:Int)))∧w'=w):=fun w=>nN _ w
    have HT:Hid ((s.data.toList.take (k+1)).all (fun b=>iF b.toNat)=((s.data.toList.take k).all (fun b=>iF b.toNat)&&iF (s[k].toNat:Int))):=by
     unfold Hid;rw[rZ s k hlt,List.all_append];simp
    have HF:Hid (iF (s[k].toNat:Int)=false→ok=false):=fun q=>by
     rw[HD2.out,List.all_eq_false];exact⟨s[k],List.getElem_mem (l:=s.data.toList) (by simpa using hlt),by simpa using q⟩
    generalize iF (s[k].toNat:Int)=dk at *;go_wp2_with fail;refine (HDi.out _).mono ?_;rintro e w2 ⟨rfl,hw2⟩;subst hw2;cases dk
    ·have HZ:Hid (ok=false):=HF.out (by trivial)
     go_wp2;go_ret;exact⟨jF (by rw[HR0.out HZ.out]),by rw[HZ.out];simpa using hP.wrong true⟩
    ·go_wp2_with fail;go_round
     case rel=>exact⟨k+1,by omega,by go_num,by rw[HT.out,H0.out];rfl⟩
     case measure=>simp[intOf];omega
   ·obtain rfl:k=s.size:=by omega
    have HZ:Hid (ok=true):=by unfold Hid;rw[HD2.out];have:=H0.out;rwa [List.take_of_length_le (by rw[nC];exact Nat.le_refl _)] at this
    go_wp2;go_ret;exact⟨jF (by rw[HR1.out HZ.out]),by rw[HZ.out];simpa using hP⟩
def iY (s:ByteArray) (n:Int):List Int:=if cu s n=true then eu s else []
theorem rU (br:Nat) (vw:Value) (ws:List ByteArray) (nx:Nat) (n:Int) (wr:Bool) (w:World) (h:aJ w br vw ws nx n wr) (hl:ws.length≤100000) (hz:∀ x∈ws,x.size≤1000) (n3:3≤n) (n7:n≤7) :
    Calls Tryz.prog 117 #[Zp (some ⟨br,0,O⟩)] w fun e w'=>∃ v,e=Zr v∧w'.ownsRow w.heap.size 3 1 v (iY (wrd ws nx) n).length ((iY (wrd ws nx) n).map (Value.int .i64))∧aK w w' br vw ws (nxt ws nx) n (wr||!cu (wrd ws nx) n):=by
  obtain⟨i0,hi,hz0,hz1,hz2⟩:=info_parts Tryz.infoInt
  have hzw:=jR (nx:=nx) hz
  have hlb:=lt_of_block h.block
  have HO:Hid (((wr||!decide (nx<ws.length))||!cu (wrd ws nx) n)=(wr||!cu (wrd ws nx) n)):=nA (f:=fun x=>cu x n) (by
    have e:bP (⟨#[]⟩:ByteArray) 46=[⟨#[]⟩]:=rfl
    unfold cu;rw[e];simp;omega)
  have HWd:Hid (Calls Tryz.prog 70 #[Zp (some ⟨br,0,O⟩)] w fun e w'=>e=Zr (Z (wrd ws nx))∧aK w w' br vw ws (nxt ws nx) n (wr||!decide (nx<ws.length))):=lu br vw ws nx n wr w h hl
  rw[← HO.out]
  clear HO
  generalize (wr||!decide (nx<ws.length))=w0 at *
  generalize wrd ws nx=s at *
  generalize nxt ws nx=nx' at *
  have HSp : Hid (∀ w, Calls Tryz.prog 40 #[Z s, I .u8 46] w fun e w' => ∃ v, e = Zr v ∧ w'.ownsRow w.heap.size 9 1 v (bP s 46).length ((bP s 46).map Value.string) ∧ Below w.heap.size w w') := fun w => rM s 46 w (by omega)
  have hps:=lW s 46
  have hpl:=DV s 46
  have HI:Hid (cu s n=((bP s 46).all (fun p=>au p.data.toList 0 999)&&((bP s 46).length:Int)==n)):=rfl
  have HR0 : Hid (cu s n = false → iY s n = []) := fun q => by unfold iY; rw [q]; rfl
  have HR1 : Hid (cu s n = true → iY s n = (bP s 46).map (fun p => aF p.data.toList)) := fun q => by unfold iY; rw [q]; rfl
  generalize bP s 46=ps at *
  generalize iY s n=lr at *
  generalize cu s n=ok at *
  go_enter Tryz.func117,Tryz.ntmps117
  go_wp2_with fail
  refine HWd.out.mono ?_
  rintro e w1 ⟨rfl,hP⟩
  go_wp2_with fail
  refine (HSp.out _).mono ?_
  rintro e w2 ⟨v2,rfl,hown2,hb2⟩
  have hP2:=hP.below hb2
  have hst:=Strs.bR hown2
  obtain⟨a2,cap2,rfl,_,_⟩:=hst.shape
  have c2 := hP2.1.at 2 (by omega)
  have c3 := hP2.1.at 3 (by omega)
  have f3:=hP2.1.free 3
  simp at c2 c3
  have hsz1:w.heap.size≤w2.heap.size:=hP2.2.size
  clear hown2
  have bne:((ps.length:Int) != n) = !((ps.length:Int)==n):=rfl
  cases hq:((ps.length:Int)==n)
  · have HZ : Hid (ok = false) := by unfold Hid; rw [HI.out, hq]; simp
    rw[hq] at bne
    have p3:((ps.length:Int) != n)=true:=bne
    go_wp2
    go_ret
    exact ⟨_, rfl, by rw [HR0.out HZ.out]; exact World.ownsRow_nil _ _ _ _, by rw [HZ.out]; simpa using hP2.wrong true⟩
  rw[hq] at bne
  have p3:((ps.length:Int) != n)=false:=bne
  have HQ:Hid (((ps.length:Int)==n)=true):=hq
  have hpl7 : ps.length ≤ 7 := by have : (ps.length : Int) = n := by simpa using hq
                                  omega
  clear bne hq
  go_upto_if 19 with fail
  go_cut [] from 9 (fun wr=>wr=w2)
  case first =>
    go_wp2_with fail
    go_meet
    case rel=>rfl
  case rest =>
    subst hcut
    clear p3
    go_wp2_with fail
    go_loopw [5,6] (fun v i wr=>∃ k:Nat,k≤ps.length∧i=I J k∧wr.ownsRow wc.heap.size 3 1 v (((ps.take k).map (fun p=>aF p.data.toList)).map (Value.int .i64)).length (((ps.take k).map (fun p=>aF p.data.toList)).map (Value.int .i64))∧(ps.take k).all (fun p=>au p.data.toList 0 999)=true∧Below wc.heap.size wc wr) (fun _ i _=>ps.length-(intOf i).toNat)
    case atStart => exact ⟨0, Nat.zero_le _, rfl, World.ownsRow_nil _ _ _ _, by simp, Below.refl _ _⟩
    case round =>
      obtain⟨k,hk,rfl,hown,hall,hb⟩:=hrel
      have HAl:Hid ((ps.take k).all (fun p=>au p.data.toList 0 999)=true):=hall
      clear hall
      have hP3:=hP2.below hb
      by_cases hlt:k<ps.length
      · have hstr:=hst.below hb
        obtain⟨bp,op,rfl,_,yk⟩:=hstr.get k hlt
        have zk:=hps ps[k] (List.getElem_mem _)
        have HNk : Hid (∀ w, Calls Tryz.prog 150 #[Z ps[k], I J 0, I J 999] w fun e w' => e = Zr (.tuple #[I J (aC ps[k] 0 999), .bool (au ps[k].data.toList 0 999)]) ∧ w' = w) := fun w => pz _ _ _ w (by unfold maxLen; omega) (by omega) (by omega)
        have HNv : Hid (au ps[k].data.toList 0 999 = true → aC ps[k] 0 999 = aF ps[k].data.toList) := fun q => by unfold aC; rw [q]; rfl
        have HTk:Hid ((ps.take (k+1)).map (fun p=>aF p.data.toList)=(ps.take k).map (fun p=>aF p.data.toList)++[aF ps[k].data.toList]):=sN hlt
        have HAk:Hid ((ps.take (k+1)).all (fun p=>au p.data.toList 0 999)=((ps.take k).all (fun p=>au p.data.toList 0 999)&&au ps[k].data.toList 0 999)):=by
          unfold Hid;rw[List.take_succ_eq_append_getElem hlt,List.all_append];simp
        have HF:Hid (au ps[k].data.toList 0 999=false→ok=false):=fun q=>by
          have : ps.all (fun p => au p.data.toList 0 999) = false := List.all_eq_false.2 ⟨ps[k], List.getElem_mem _, by simpa using q⟩
          rw[HI.out,this];rfl
        have hml : ((ps.take k).map (fun p => aF p.data.toList)).length ≤ 10 := by simp; omega
        generalize (ps.take k).map (fun p=>aF p.data.toList)=lk at *
        have j1 : (0 : Int) ≤ (k : Int) := by omega
        have j2 : (k : Int) < (ps.length : Int) := by omega
        have c3' := hP3.1.at 3 (by omega)
        have f3':=hP3.1.free 3
        simp at c3'
        generalize au ps[k].data.toList 0 999=wk at *
        generalize aC ps[k] 0 999=xk at *
        go_wp2_with fail
        refine (HNk.out _).mono ?_
        rintro e w4 ⟨rfl,hw4⟩
        subst hw4
        cases wk
        · have HZ : Hid (ok = false) := HF.out (by trivial)
          go_wp2
          go_ret
          exact ⟨_, rfl, by rw [HR0.out HZ.out]; exact World.ownsRow_nil _ _ _ _, by rw [HZ.out]; simpa using hP3.wrong true⟩
        · have hx := HNv.out (by trivial)
          have HX:Hid (xk=aF ps[k].data.toList):=hx
          clear hx
          go_wp2_with (at_builtin; refine app1 rfl _ _ 44 rfl wc.heap.size 3 i0 (I J 0) 1 8 Tryz.underlying44 hi hz0 hz1 hz2 rfl (by decide) w4 _ _ _ (by rfl) hown 1 [I J xk] (by rfl) rfl ?c2 (by simp; omega) (by decide) hb.size ?_)
          case c2=>intro u hu;simp at hu;subst hu;rfl
          intro v5 w5 hown5 hg5 hb5 hn5
          go_wp2
          go_roundw
          case rel => exact ⟨k + 1, by omega, by go_num, by rw [HTk.out, ← HX.out]; simpa using hown5, by rw [HAk.out, HAl.out]; rfl, hb.trans hb5⟩
          case measure=>simp[intOf];omega
      · obtain rfl : k = ps.length := by omega
        have HZ : Hid (ok = true) := by unfold Hid; rw [HI.out, HQ.out]; have := HAl.out; rw [List.take_length] at this; rw [this]; rfl
        rw[List.take_length] at hown
        go_wp2
        go_ret
        exact ⟨_, rfl, by rw [HR1.out HZ.out]; exact eU (by simpa using hown) hsz1, by rw [HZ.out]; simpa using hP3⟩
end
def Ob (N:Nd) (c:Int):Nat→Nat
 | 0=>0
 | j+1=>Ob N c j+if ((EF N.group j != N.id)&&decide (c≤N.acks.getD (EF N.group j).toNat 0))=true then 1 else 0
def Oa (N:Nd):Nat→Int
 | 0=>N.commit
 | f+1=>if N.group.size≤2*Ob N (N.commit+(f+1:Nat)) N.group.size+1 then N.commit+(f+1:Nat) else Oa N f
def Kh (N:Nd) (q:Nat) (k:Int):Nd:=if N.acks.getD q 0<k then { N with acks:=N.acks.set q k } else N
def mh (N:Nd) (m:Sd):Nd×List (Int×ByteArray) :=
 if (N.log.length:Int)<nmB m then (N,[])
 else Ku (Kh N m.frm.toNat (nmB m)) (Oa (Kh N m.frm.toNat (nmB m)) (N.log.length-N.commit).toNat)
def RB:ByteArray:=⟨#[114]⟩
variable {X:List Nat}
def iJ (M:Nd) (ls:List Int) (k:Nat):Nd :=
 if (((k:Int) != M.id)&&decide (M.lives.getD k 0<ls.getD k 0))=true then { M with lives:=M.lives.set k (ls.getD k 0),acks:=M.acks.set k 0 } else M
theorem ah {p:Prop} (h:p):Hid p:=h
structure Sv where
 vals:List Int
 ses:List (Int×ByteArray)
def yh (l:List (Int×ByteArray)):List Value:=l.flatMap fun p=>[I J p.1,Z p.2]
def svC (S:Sv):List Value:=S.vals.map (Value.int .u8)++yh S.ses
theorem LW (l:List (Int×ByteArray)):(yh l).length=2*l.length:=by
 unfold yh;induction l with
 | nil=>rfl
 | cons a l ih=>simp only[List.flatMap_cons,List.length_append,ih,List.length_cons];simp;omega
theorem Iz:∀ (l:List (Int×ByteArray)) (c:Nat) (h:c<l.length),(yh l)[2*c]? = some (I J l[c].1)∧(yh l)[2*c+1]? = some (Z l[c].2)
 | a :: l,0,_=>⟨rfl,rfl⟩
 | a :: l,c+1,h=>by
  have:=Iz l c (by simpa using h)
  simp only[List.getElem_cons_succ];exact this
theorem E8:∀ (l:List (Int×ByteArray)) (c:Nat) (x:Int) (y:ByteArray),c<l.length→((yh l).set (2*c) (I J x)).set (2*c+1) (Z y)=yh (l.set c (x,y))
 | a :: l,0,x,y,_=>rfl
 | a :: l,c+1,x,y,h=>by
  have:=E8 l c x y (by simpa using h)
  have e:yh (a :: l)=I J a.1 :: Z a.2 :: yh l:=rfl
  have e2:yh ((a :: l).set (c+1) (x,y))=I J a.1 :: Z a.2 :: yh (l.set c (x,y)):=rfl
  rw[e,e2,← this,show 2*(c+1)=2*c+1+1 by omega,show 2*c+1+1+1=(2*c+1)+1+1 by omega]
  simp only[List.set_cons_succ]
structure gX (w:World) (b:Nat) (pre post:List Value) (t:TypeId) (S:Sv):Prop where
 block:w.heap[b]? = some (.cells (pre++(svC S++post)).toArray t (0,0))
 v26:S.vals.length=26
 s9:S.ses.length=9
 small:∀ x∈S.vals,0≤x∧x<128
section
variable {w:World} {b:Nat} {pre post:List Value} {t:TypeId} {S:Sv}
theorem gX.cell (h:gX w b pre post t S) (j:Nat) (v:Value) (hj:(svC S)[j]? = some v):w.cell? ⟨b,pre.length+j,O⟩=some v:=by
 have hl:=(List.getElem?_eq_some_iff.1 hj).1;simp only[World.cell?,h.block];simp only[List.getElem?_toArray];rw[List.getElem?_append_right (by omega),Nat.add_sub_cancel_left,List.getElem?_append_left hl]
 exact hj
theorem gX.val (h:gX w b pre post t S) (j:Nat) (hj:j<26):w.cell? ⟨b,pre.length+j,O⟩=some (I .u8 (S.vals[j]'(by rw[h.v26];exact hj))):=by
 have hv:=h.v26;refine h.cell j _ ?_;unfold svC;rw[List.getElem?_append_left (by simp;omega),List.getElem?_map,List.getElem?_eq_getElem (by omega)]
 rfl
theorem gX.ses (h:gX w b pre post t S) (c:Nat) (hc:c<9):w.cell? ⟨b,pre.length+(26+2*c),O⟩=some (I J (S.ses[c]'(by rw[h.s9];exact hc)).1)∧w.cell? ⟨b,pre.length+(26+2*c+1),O⟩=some (Z (S.ses[c]'(by rw[h.s9];exact hc)).2):=by
 have hv:=h.v26;have hs:=h.s9;have q:=Iz S.ses c (by omega)
 constructor
 ·refine h.cell _ _ ?_;unfold svC;rw[List.getElem?_append_right (by simp;omega),← q.1]
  congr 1;simp;omega
 ·refine h.cell _ _ ?_;unfold svC;rw[List.getElem?_append_right (by simp;omega),← q.2]
  congr 1;simp;omega
theorem gX.free (h:gX w b pre post t S) (j:Nat):w.frozen? ⟨b,j,O⟩=false:=by simp[World.frozen?,h.block]
theorem gX.set (h:gX w b pre post t S) (j:Nat) (v:Value) (hj:j<(svC S).length):(w.setCell ⟨b,pre.length+j,O⟩ v).heap[b]? = some (.cells (pre++((svC S).set j v++post)).toArray t (0,0)):=by
 rw[heap_setCell_same w b _ _ _ v h.block]
 congr 2
 rw[List.setIfInBounds_toArray,List.set_append,if_neg (by omega),Nat.add_sub_cancel_left,List.set_append,if_pos hj]
theorem qc (S:Sv):(svC S).length=S.vals.length+2*S.ses.length:=by unfold svC;rw[List.length_append,List.length_map,LW]
theorem gX.Pq (h:gX w b pre post t S) (j:Nat) (hj:j<26) (x:Int) (hx:0≤x∧x<128):gX (w.setCell ⟨b,pre.length+j,O⟩ (I .u8 x)) b pre post t ⟨S.vals.set j x,S.ses⟩:=by
 have hv:=h.v26;refine⟨?_,by simpa using hv,h.s9,fun y hy=>?_⟩
 ·rw[h.set j _ (by rw[qc];omega)]
  unfold svC;rw[List.set_append,if_pos (by simp;omega),List.map_set]
 ·rcases List.mem_or_eq_of_mem_set hy with hy|rfl
  ·exact h.small y hy
  ·exact hx
end
def mH (c:Int):Bool:=decide (97≤c)&&decide (c≤122)
theorem Co (c:Int) (w:World):Calls Tryz.prog 54 #[I .u8 c] w fun e w'=>e=Zr (.bool (mH c))∧w'=w:=by
 have HD:Hid (mH c=(decide (97≤c)&&decide (c≤122))):=rfl
 by_cases h1:97≤c
 ·by_cases h2:c≤122
  ·go_enter Tryz.func54,Tryz.ntmps54;go_wp2;go_ret;exact⟨aU (by rw[HD.out,decide_eq_true h1,decide_eq_true h2];rfl),rfl⟩
  ·go_enter Tryz.func54,Tryz.ntmps54;go_wp2;go_ret;exact⟨aU (by rw[HD.out,decide_eq_true h1,decide_eq_false (by omega)];rfl),rfl⟩
 ·go_enter Tryz.func54,Tryz.ntmps54;go_wp2;go_ret;exact⟨aU (by rw[HD.out,decide_eq_false (by omega)];rfl),rfl⟩
theorem enc1 {x:Int} (h0:0≤x) (h1:x<128):Utf8.encode x=⟨#[UInt8.ofNat x.toNat]⟩:=by
 have hv:Utf8.valid x=true:=by simp[Utf8.valid];omega
 simp only[Utf8.encode,hv];rw[if_pos (by simp;omega)]
 rfl
def jG (x:Int):ByteArray:=⟨#[UInt8.ofNat x.toNat]⟩
def jL (S:Sv) (c:Int):Int×ByteArray:=if c<1∨9<c then (0,⟨#[]⟩) else S.ses.getD (c-1).toNat (0,⟨#[]⟩)
def bN (op:ByteArray) (k:Nat):Int:=(op.data.toList.getD k 0).toNat
def vI (S:Sv) (k:Int):ByteArray:=if mH k=true then (if (S.vals.getD (k-97).toNat 0==0)=true then ⟨#[]⟩ else jG (S.vals.getD (k-97).toNat 0)) else ⟨#[]⟩
section
variable {w:World} {b:Nat} {pre post:List Value} {t:TypeId} {S:Sv} (h:gX w b pre post t S)
theorem J2 {w:World} {b:Nat} {pre:List Value} {post:List Value} {t:TypeId} {S:Sv} (h:gX w b pre post t S) (k:Int) (hk0:0≤k) (hk1:k≤255):Calls Tryz.prog 25 #[Zp (some ⟨b,pre.length,O⟩),I .u8 k] w fun e w'=>e=Zr (Z (vI S k))∧w'=w:=by
 have HK:Hid (∀ w,Calls Tryz.prog 54 #[I .u8 k] w fun e w'=>e=Zr (.bool (mH k))∧w'=w):=fun w=>Co k w
 cases hk:mH k
 ·have HV:Hid (vI S k=⟨#[]⟩):=by unfold Hid vI;rw[hk];rfl
  rw[hk] at HK;generalize vI S k=r at *;go_enter Tryz.func25,Tryz.ntmps25;go_wp2_with (first|(go_at_call 54;refine (HK.out _).mono ?_;rintro e w' ⟨rfl,rfl⟩)|fail)
  go_ret;exact⟨by rw[HV.out];rfl,rfl⟩
 ·have hk2:=hk;simp[mH] at hk2;have hv:=h.val (k-97).toNat (by omega)
  have hv26:=h.v26;have hsm:=h.small (S.vals[(k-97).toNat]'(by omega)) (List.getElem_mem _)
  have HV:Hid (vI S k=if ((S.vals[(k-97).toNat]'(by omega))==0)=true then ⟨#[]⟩ else jG (S.vals[(k-97).toNat]'(by omega))):=by
   unfold Hid vI;rw[hk];have e:S.vals.getD (k-97).toNat 0=S.vals[(k-97).toNat]'(by omega):=by simp[List.getD,show (k-97).toNat<S.vals.length by omega]
   rw[e];rfl
  generalize S.vals[(k-97).toNat]'(by omega)=x at *
  rw[hk] at HK;generalize vI S k=r at *;cases hx:(x==0)
  ·go_enter Tryz.func25,Tryz.ntmps25;go_wp2_with (first|(go_at_call 54;refine (HK.out _).mono ?_;rintro e w' ⟨rfl,rfl⟩)|fail)
   go_ret;exact⟨by rw[HV.out,hx,enc1 hsm.1 hsm.2];rfl,rfl⟩
  ·go_enter Tryz.func25,Tryz.ntmps25;go_wp2_with (first|(go_at_call 54;refine (HK.out _).mono ?_;rintro e w' ⟨rfl,rfl⟩)|fail)
   go_ret;exact⟨by rw[HV.out,hx];rfl,rfl⟩
theorem xP {w:World} {b:Nat} {pre:List Value} {post:List Value} {t:TypeId} {S:Sv} (h:gX w b pre post t S) (c:Int):Calls Tryz.prog 74 #[Zp (some ⟨b,pre.length,O⟩),I J c] w fun e w'=>e=Zr (.tuple #[I J (jL S c).1,Z (jL S c).2])∧Below w.heap.size w w':=by
 by_cases hc:c<1∨9<c
 ·have HV:Hid (jL S c=(0,⟨#[]⟩)):=by unfold Hid jL;rw[if_pos hc]
  generalize jL S c=r at *;rcases hc with hc|hc
  ·go_enter Tryz.func74,Tryz.ntmps74;go_wp2;go_ret2;exact⟨by rw[HV.out];rfl,Below.refl _ _⟩
  ·have hc1:¬c<1:=by omega
   go_enter Tryz.func74,Tryz.ntmps74;go_wp2;go_ret2;exact⟨by rw[HV.out];rfl,Below.refl _ _⟩
 ·have h9:=h.s9;obtain⟨hv1,hv2⟩:=h.ses (c-1).toNat (by omega)
  have e1:pre.length+(26+2*(c-1).toNat)=pre.length+26+(c.toNat-1)*2:=by omega
  have e2:pre.length+(26+2*(c-1).toNat+1)=pre.length+26+(c.toNat-1)*2+1:=by omega
  rw[e1] at hv1;rw[e2] at hv2;clear e1 e2;have HV:Hid (jL S c=S.ses[(c-1).toNat]'(by omega)):=by
   unfold Hid jL;rw[if_neg hc];rw[List.getD,List.getElem?_eq_getElem (by omega)];rfl
  generalize S.ses[(c-1).toNat]'(by omega)=x at *
  generalize jL S c=r at *;go_enter Tryz.func74,Tryz.ntmps74;go_wp2_with fail;go_quiet (fail);go_wp2;go_ret2;exact⟨by rw[HV.out];rfl,below_drewN ((Below.refl _ w).alloc (Nat.le_refl _) _) _⟩
end
def doS (v:List Int) (op:ByteArray):List Int×ByteArray :=
 if (decide (op.size<2)||!mH (b1 op))=true then (v,OKb)
 else if (b0 op==103)=true then (v,if (v.getD (b1 op-97).toNat 0==0)=true then ql else jG (v.getD (b1 op-97).toNat 0))
 else if (b0 op==100)=true then (if (v.getD (b1 op-97).toNat 0==0)=true then (v,ql) else (v.set (b1 op-97).toNat 0,OKb))
 else if (b0 op==112)=true then (if 2<op.size then (v.set (b1 op-97).toNat (bN op 2),OKb) else (v,OKb))
 else if (b0 op==99)=true then (if (decide (op.size<4)||!(v.getD (b1 op-97).toNat 0==bN op 2))=true then (v,NOb) else (v.set (b1 op-97).toNat (bN op 3),OKb))
 else (v,OKb)
theorem OT (v:List Int) (op:ByteArray):Hid (doS v op =
 if (decide (op.size<2)||!mH (b1 op))=true then (v,OKb)
   else if (b0 op==103)=true then (v,if (v.getD (b1 op-97).toNat 0==0)=true then ql else jG (v.getD (b1 op-97).toNat 0))
   else if (b0 op==100)=true then (if (v.getD (b1 op-97).toNat 0==0)=true then (v,ql) else (v.set (b1 op-97).toNat 0,OKb))
   else if (b0 op==112)=true then (if 2<op.size then (v.set (b1 op-97).toNat (bN op 2),OKb) else (v,OKb))
   else if (b0 op==99)=true then (if (decide (op.size<4)||!(v.getD (b1 op-97).toNat 0==bN op 2))=true then (v,NOb) else (v.set (b1 op-97).toNat (bN op 3),OKb))
   else (v,OKb)):=rfl
theorem srvKp {w w1:World} {b j:Nat} {v:Value} (h:w1=w.setCell ⟨b,j,O⟩ v):Kp [b] w w1:=by subst h;exact (Kp.refl [b] w).set b j v (.inl (by simp))
theorem Mg (w:World) (b j:Nat) (v:Value):Kp [b] w (w.setCell ⟨b,j,O⟩ v).drew:=((Kp.refl [b] w).set b j v (.inl (by simp))).aS (Below.refl _ _).drew
theorem gX.drew {w:World} {b:Nat} {pre post:List Value} {t:TypeId} {S:Sv} (h:gX w b pre post t S):gX w.drew b pre post t S:=⟨h.block,h.v26,h.s9,h.small⟩
section
variable {w:World} {b:Nat} {pre post:List Value} {t:TypeId} {S:Sv} (h:gX w b pre post t S)
theorem Pt {w:World} {b:Nat} {pre:List Value} {post:List Value} {t:TypeId} {S:Sv} (h:gX w b pre post t S) (op:ByteArray) (hs:op.size≤maxLen) (h7:∀ k,2≤k→bN op k<128):Calls Tryz.prog 169 #[Zp (some ⟨b,pre.length,O⟩),Z op] w fun e w'=>e=Zr (Z (doS S.vals op).2)∧gX w' b pre post t ⟨(doS S.vals op).1,S.ses⟩∧Kp [b] w w':=by
 have HK:Hid (∀ k w,Calls Tryz.prog 54 #[I .u8 k] w fun e w'=>e=Zr (.bool (mH k))∧w'=w):=fun k w=>Co k w
 have HD:=OT S.vals op;have H0:Hid (gX w b pre post t ⟨S.vals,S.ses⟩):=h
 by_cases h2:op.size<2
 ·rw[decide_eq_true h2] at HD;simp only[Bool.true_or,if_true] at HD;generalize doS S.vals op=r at *;go_enter Tryz.func169,Tryz.ntmps169;go_wp2;go_ret;exact⟨by rw[HD.out];rfl,by rw[HD.out];exact H0.out,Kp.refl _ _⟩
 ·have g0:=Od (o:=op) (by omega)
  have g1:=Oe (o:=op) (by omega)
  cases hk:mH (b1 op)
  ·have HK1:Hid (∀ w,Calls Tryz.prog 54 #[I .u8 (op[1].toNat:Int)] w fun e w'=>e=Zr (.bool false)∧w'=w):=fun w=>by
    have:=HK.out (b1 op) w;rw[hk,g1] at this;exact this
   rw[hk] at HD;simp only[Bool.not_false,Bool.or_true,if_true] at HD;generalize doS S.vals op=r at *;go_enter Tryz.func169,Tryz.ntmps169;go_wp2_with (first|(go_at_call 54;refine (HK1.out _).mono ?_;rintro e w' ⟨rfl,rfl⟩)|fail)
   go_ret;exact⟨by rw[HD.out];rfl,by rw[HD.out];exact H0.out,Kp.refl _ _⟩
  ·have HK1:Hid (∀ w,Calls Tryz.prog 54 #[I .u8 (op[1].toNat:Int)] w fun e w'=>e=Zr (.bool true)∧w'=w):=fun w=>by
    have:=HK.out (b1 op) w;rw[hk,g1] at this;exact this
   rw[hk,decide_eq_false h2] at HD;simp only[Bool.not_true,Bool.or_false,Bool.false_eq_true,if_false] at HD;have hk2:=hk;simp[mH] at hk2;rw[g1] at hk2;have hb:=op[1].toNat_lt;have hv:=h.val (b1 op-97).toNat (by rw[g1];omega)
   have hsm:=h.small (S.vals[(b1 op-97).toNat]'(by rw[h.v26,g1];omega)) (List.getElem_mem _)
   have hgd:S.vals.getD (b1 op-97).toNat 0=S.vals[(b1 op-97).toNat]'(by rw[h.v26,g1];omega):=by rw[List.getD,List.getElem?_eq_getElem (by rw[h.v26,g1];omega)];rfl
   have hset:=fun x hx=>h.Pq (b1 op-97).toNat (by rw[g1];omega) x hx
   rw[hgd] at HD;generalize S.vals[(b1 op-97).toNat]'(by rw[h.v26,g1];omega)=x at *
   clear hgd;rw[g1] at hv hset HD;rw[g0] at HD;have ep:((op[1].toNat:Int)-97).toNat=op[1].toNat-97:=by omega
   rw[ep] at hv hset HD;clear ep;have hbn2:∀ (k:Nat) (hk:k<op.size),bN op k=(op[k].toNat:Int):=fun k hk=>by unfold bN;rw[atS hk]
   cases q3:((op[0].toNat:Int)==103)
   ·rw[q3] at HD;simp only[Bool.false_eq_true,if_false] at HD;cases q0:((op[0].toNat:Int)==100)
    ·rw[q0] at HD;simp only[Bool.false_eq_true,if_false] at HD;cases q2:((op[0].toNat:Int)==112)
     ·rw[q2] at HD;simp only[Bool.false_eq_true,if_false] at HD;cases q9:((op[0].toNat:Int)==99)
      ·rw[q9] at HD;simp only[Bool.false_eq_true,if_false] at HD;generalize doS S.vals op=r at *;go_enter Tryz.func169,Tryz.ntmps169;go_wp2_with (first|(go_at_call 54;refine (HK1.out _).mono ?_;rintro e w' ⟨rfl,rfl⟩)|fail)
       go_ret;exact⟨by rw[HD.out];rfl,by rw[HD.out];exact H0.out,Kp.refl _ _⟩
      ·rw[q9] at HD;simp only[if_true] at HD;by_cases h4:op.size<4
       ·rw[decide_eq_true h4] at HD;simp only[Bool.true_or,if_true] at HD;generalize doS S.vals op=r at *;go_enter Tryz.func169,Tryz.ntmps169;go_wp2_with (first|(go_at_call 54;refine (HK1.out _).mono ?_;rintro e w' ⟨rfl,rfl⟩)|fail)
        go_ret;exact⟨by rw[HD.out];rfl,by rw[HD.out];exact H0.out,Kp.refl _ _⟩
       ·rw[decide_eq_false h4,hbn2 2 (by omega),hbn2 3 (by omega)] at HD
        simp only[Bool.false_or,Bool.not_eq_true'] at HD;have hs3:=hset (op[3].toNat:Int) ⟨by omega,by have:=h7 3 (by omega);rw[hbn2 3 (by omega)] at this;exact this⟩
        clear hset;have HS3:=ah hs3;clear hs3;cases hx:(x==(op[2].toNat:Int))
        ·rw[hx] at HD;have hx2:(x != (op[2].toNat:Int))=true:=by simp[bne,hx]
         simp only[if_true] at HD;generalize doS S.vals op=r at *;go_enter Tryz.func169,Tryz.ntmps169;go_wp2_with (first|(go_at_call 54;refine (HK1.out _).mono ?_;rintro e w' ⟨rfl,rfl⟩)|fail)
         go_ret;exact⟨by rw[HD.out];rfl,by rw[HD.out];exact H0.out,Kp.refl _ _⟩
        ·rw[hx] at HD;have hx2:(x != (op[2].toNat:Int))=false:=by simp[bne,hx]
         simp only[Bool.true_eq_false,if_false] at HD;have hfz:=h.free (pre.length+(op[1].toNat-97));generalize doS S.vals op=r at *;go_enter Tryz.func169,Tryz.ntmps169;go_wp2_with (first|(go_at_call 54;refine (HK1.out _).mono ?_;rintro e w' ⟨rfl,rfl⟩)|fail)
         go_region_with fail;go_wp2;go_ret;exact⟨by rw[HD.out];rfl,by rw[HD.out];exact HS3.out.drew,Mg _ _ _ _⟩
     ·rw[q2] at HD;simp only[if_true] at HD;by_cases h3:2<op.size
      ·rw[if_pos h3,hbn2 2 (by omega)] at HD
       have hs3:=hset (op[2].toNat:Int) ⟨by omega,by have:=h7 2 (by omega);rw[hbn2 2 (by omega)] at this;exact this⟩
       clear hset;have HS3:=ah hs3;clear hs3;have hfz:=h.free (pre.length+(op[1].toNat-97));generalize doS S.vals op=r at *;go_enter Tryz.func169,Tryz.ntmps169;go_wp2_with (first|(go_at_call 54;refine (HK1.out _).mono ?_;rintro e w' ⟨rfl,rfl⟩)|fail)
       go_region_with fail;go_wp2;go_ret;exact⟨by rw[HD.out];rfl,by rw[HD.out];exact HS3.out.drew,Mg _ _ _ _⟩
      ·rw[if_neg h3] at HD;generalize doS S.vals op=r at *;go_enter Tryz.func169,Tryz.ntmps169;go_wp2_with (first|(go_at_call 54;refine (HK1.out _).mono ?_;rintro e w' ⟨rfl,rfl⟩)|fail)
       go_ret;exact⟨by rw[HD.out];rfl,by rw[HD.out];exact H0.out,Kp.refl _ _⟩
    ·rw[q0] at HD;simp only[if_true] at HD;cases hx:(x==0)
     ·rw[hx] at HD;simp only[Bool.false_eq_true,if_false] at HD;have HS3:=ah (hset 0 ⟨by omega,by omega⟩)
      clear hset;have hfz:=h.free (pre.length+(op[1].toNat-97));generalize doS S.vals op=r at *;go_enter Tryz.func169,Tryz.ntmps169;go_wp2_with (first|(go_at_call 54;refine (HK1.out _).mono ?_;rintro e w' ⟨rfl,rfl⟩)|fail)
      go_ret;exact⟨by rw[HD.out];rfl,by rw[HD.out];exact HS3.out,srvKp rfl⟩
     ·rw[hx] at HD;simp only[if_true] at HD;generalize doS S.vals op=r at *;go_enter Tryz.func169,Tryz.ntmps169;go_wp2_with (first|(go_at_call 54;refine (HK1.out _).mono ?_;rintro e w' ⟨rfl,rfl⟩)|fail)
      go_ret;exact⟨by rw[HD.out];rfl,by rw[HD.out];exact H0.out,Kp.refl _ _⟩
   ·rw[q3] at HD;simp only[if_true] at HD;cases hx:(x==0)
    all_goals
     rw[hx] at HD;generalize doS S.vals op=r at *;go_enter Tryz.func169,Tryz.ntmps169;go_wp2_with (first|(go_at_call 54;refine (HK1.out _).mono ?_;rintro e w' ⟨rfl,rfl⟩)|fail)
     go_ret
    ·exact⟨by rw[HD.out,enc1 hsm.1 hsm.2];rfl,by rw[HD.out];exact H0.out,Kp.refl _ _⟩
    ·exact⟨by rw[HD.out];rfl,by rw[HD.out];exact H0.out,Kp.refl _ _⟩
end
theorem AO (n:Nat):(dB n).length=n:=by simp[dB]
variable {X:List Nat}
def KA:ByteArray:=⟨#[97]⟩
variable {X:List Nat}
def KH:ByteArray:=⟨#[104]⟩
variable {X:List Nat}
def KC:ByteArray:=⟨#[99]⟩
end Go.Proofs.YtbnihoahhomooaaGreatDoor
