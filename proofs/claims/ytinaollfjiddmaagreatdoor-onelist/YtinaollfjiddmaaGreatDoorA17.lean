import Derived.Test.YtinaollfjiddmaaGreatDoorA14
set_option maxRecDepth 100000
set_option maxHeartbeats 8000000
set_option linter.all false
namespace Go.Proofs.YtinaollfjiddmaaGreatDoor
open Go.Value renaming int→I,slice→Y,string→Z,pointer→Zp
open Go.Ending renaming returned→Zr
open _root_.ByteArray renaming empty→Ze
open Go.IntKind renaming i64→J
open Option renaming none→O
open Go.RowKit
def EVP (w w':World) (e:Ending):Prop:=∃ a v:Int,e=Zr (.tuple #[I J a,I J v])∧0≤a∧a≤1000∧Below w.heap.size w w'
section
variable {N:Nat} {w w':World} {g:Nat} {K K':Kw} {V V':Kv}
theorem Ey (h:KAt N w g K V) (z:KSz K) (he:∀ x∈K.nds,0≤x.R.epoch∧x.R.epoch≤1000) :
  Calls Tryz.prog 148 #[Zp (some ⟨g,0,O⟩)] w fun e w'=>EVP w w' e:=by
 obtain⟨n,F⟩:∃ n:Nat,K.n=n:=⟨K.n.toNat,by have:=z.n3;omega⟩
 have G:=z.nds;have H:=z.n7;rw[F] at G H;obtain⟨L,X,s⟩:=aj h.rN
 have M:Hid (∀ m,Below w.heap.size w m→∀ k,(o:k<K.nds.length)→∃ b t,L=some ⟨b,t,O⟩∧b<m.heap.size∧m.cell? ⟨b,t+k,O⟩=some (Zp (some ⟨K.nds[k].b,0,O⟩))):=fun m f k o =>
  Rd.Dg (by have:=Rd.bX (h.below f).rN;rw[s] at this;exact this) (by rw[List.getElem?_map,List.getElem?_eq_getElem o];rfl)
 have y:=ah (h.cv 1 rfl (congrArg (Value.int .i64) F));have A:=ah (h.cv 2 rfl s);have P:Hid (∀ m,Below w.heap.size w m→∀ k,(o:k<K.nds.length)→Calls Tryz.prog 29 #[Zp (some ⟨K.nds[k].b,0,O⟩)] m fun e w'=>e=Zr (.tuple #[I J K.nds[k].R.epoch,I J K.nds[k].R.view,I J K.nds[k].R.status,I J (K.nds[k].R.decided:Int)])∧∃ n,w'=m.drewN n):=fun m f k o=>sK (h.node k o f)
 have B:Hid (∀ k,(o:k<K.nds.length)→0≤K.nds[k].R.epoch∧K.nds[k].R.epoch≤1000):=fun k o=>he _ (List.getElem_mem o)
 clear h z he;go_enter Tryz.func148,Tryz.ntmps148;go_wp2_with fail;go_loopw [4,5,6] (fun ve vv i wr=>∃ (k:Nat) (a v:Int),0≤a∧a≤1000∧k≤n∧i=I J k∧ve=I J a∧vv=I J v∧Below w.heap.size w wr) (fun _ _ i _=>n-(intOf i).toNat)
 case atStart=>exact⟨0,0,0,by omega,by omega,Nat.zero_le _,rfl,rfl,rfl,Below.refl _ _⟩
 case round =>
  obtain⟨k,a,v,p,q,o,rfl,rfl,rfl,j⟩:=hrel
  have c1:=y.out _ j;by_cases Q:k<n
  ·obtain⟨b1,o1,rfl,S,d1⟩:=M.out _ j k (by omega)
   have j1:(0:Int)≤(k:Int):=by omega
   have j2:(k:Int)<(K.nds.length:Int):=by omega
   have j4:(k:Int)<(n:Int):=by omega
   have c2:=A.out _ j;have T:=ah (P.out wr j k (by omega))
   have l:=B.out k (by omega)
   generalize K.nds[k].b=bb at *;generalize K.nds[k].R.epoch=r at *;generalize K.nds[k].R.view=C at *;generalize K.nds[k].R.status=u at *;generalize K.nds[k].R.decided=r4 at *;go_wp2_with fail;refine T.out.mono ?_;rintro e m ⟨rfl,U,f⟩;have d:Below w.heap.size w m:=by rw[f];exact below_drewN j U
   clear f;by_cases c:u=1∨u=2
   ·by_cases q1:a<r
    ·rcases c with c|c
     all_goals
      subst c;go_wp2;go_roundw
      case rel=>exact⟨k+1,r,C,l.1,l.2,by omega,by go_num,rfl,rfl,d⟩
      case measure=>simp[intOf];omega
    ·by_cases D:r=a
     ·by_cases q3:v<C
      ·rcases c with c|c
       all_goals
        subst c;subst D;go_wp2;go_roundw
        case rel=>exact⟨k+1,r,C,l.1,l.2,by omega,by go_num,rfl,rfl,d⟩
        case measure=>simp[intOf];omega
      ·rcases c with c|c
       all_goals
        subst c;subst D;go_wp2;go_roundw
        case rel=>exact⟨k+1,r,v,l.1,l.2,by omega,by go_num,rfl,rfl,d⟩
        case measure=>simp[intOf];omega
     ·have W:(r==a)=false:=beq_eq_false_iff_ne.2 D
      rcases c with c|c
      all_goals
       subst c;go_wp2;go_roundw
       case rel=>exact⟨k+1,a,v,p,q,by omega,by go_num,rfl,rfl,d⟩
       case measure=>simp[intOf];omega
   ·have s2:(u != 1)=true:=bne_iff_ne.2 (fun E=>c (.inl E))
    have s3:(u != 2)=true:=bne_iff_ne.2 (fun E=>c (.inr E))
    clear c;go_wp2;go_roundw
    case rel=>exact⟨k+1,a,v,p,q,by omega,by go_num,rfl,rfl,d⟩
    case measure=>simp[intOf];omega
  ·go_wp2;go_ret2;exact⟨a,v,rfl,p,q,j⟩
end
section
variable {N:Nat} {w w':World} {g:Nat} {K K':Kw} {V V':Kv}
theorem ED (h:KAt N w g K V) (z:KSz K) (he:∀ x∈K.nds,0≤x.R.epoch∧x.R.epoch≤1000) (hlog:∀ x∈K.nds,x.R.log.length≤1000) (hg:∀ t∈K.groups,t.size≤1000000) :
    Calls Tryz.prog 112 #[Zp (some ⟨g,0,O⟩)] w fun e w'=>sZ w w' e:=by
  obtain ⟨n, hn⟩ : ∃ n : Nat, K.n = n := ⟨K.n.toNat, by have := z.n3; omega⟩
  have z1:=z.nds
  have z7:=z.n7
  rw[hn] at z1 z7
  obtain⟨aN,cN,hvN⟩:=aj h.rN
  obtain⟨aG,cG,hvG⟩:=aj h.rG
  obtain⟨aL,cL,hvL⟩:=aj h.rL
  have hgl:K.groups.length≤9223372036854775807:=by
    have:=Rd.form (Rd.bX h.rG)
    obtain⟨_,_,_,q1,q2,_⟩:=this
    unfold maxLen at q2;omega
  have HL:=ah (Ey h z he)
  have HN:=ah (fun (w2:World) (hw2:Below w.heap.size w w2)=>KAt.ptr h hvN hw2)
  have HG:=ah (fun (w2:World) (hw2:Below w.heap.size w w2)=>KAt.grp h hvG hw2)
  have HW:=ah (fun (w2:World) (hw2:Below w.heap.size w w2)=>KAt.whr h hw2)
  have HC1:=ah (h.cv 1 rfl (congrArg (Value.int .i64) hn))
  have HC2:=ah (h.cv 2 rfl hvN)
  have HC10:=ah (h.cv 10 rfl hvL)
  have HC11:=ah (h.cv 11 rfl hvG)
  have HLg:Hid (∀ w2,Below w.heap.size w w2→∀ k,(hk:k<K.nds.length)→Calls Tryz.prog 103 #[Zp (some ⟨K.nds[k].b,0,O⟩)] w2 fun e w'=>∃ (a:Option Addr) (m c:Nat),e=Zr (Y a m c)∧m≤1000∧Below w2.heap.size w2 w'):=fun w2 hw2 k hk=>by
    refine (vR (h.node k hk hw2) (hlog _ (List.getElem_mem hk))).mono ?_
    rintro e w3 ⟨v,rfl,ho,hb⟩
    obtain⟨a,c,rfl⟩:=aj ho
    exact⟨a,_,c,rfl,hlog _ (List.getElem_mem hk),hb⟩
  have HS:Hid (∀ k,(hk:k<K.groups.length)→(K.groups[k]).size≤1000000):=fun k hk=>hg _ (List.getElem_mem hk)
  clear h z he hlog hg
  go_enter Tryz.func112,Tryz.ntmps112
  go_wp2_with fail
  refine HL.out.mono ?_
  rintro e w1 ⟨a,v,rfl,ha0,ha1,hb1⟩
  have c11:=HC11.out _ hb1
  by_cases hne:a+1=(K.groups.length:Int)
  · obtain⟨ia,rfl⟩:=Int.eq_ofNat_of_zero_le ha0
    obtain ⟨b1, o1, rfl, _, d1⟩ := HG.out _ hb1 ia (by omega)
    have sg := HS.out ia (by omega)
    generalize K.groups[ia]=t at *
    have HA : Hid (∀ (k : Int) (w : World), Calls Tryz.prog 55 #[Z t, I J k] w fun e w' => ∃ b, e = Zr (.bool b) ∧ w' = w) := fun k w => uw t k w (by omega)
    have j2 : (ia : Int) < (K.groups.length : Int) := by omega
    have hne' : (((ia : Int) + 1) != (K.groups.length : Int)) = false := by rw [hne]; simp
    go_wp2_with fail
    go_loopw [6] (fun i wr=>∃ k:Nat,k≤n∧i=I J k∧Below w.heap.size w wr) (fun i _=>n-(intOf i).toNat)
    case atStart=>exact⟨0,Nat.zero_le _,rfl,hb1⟩
    case round =>
      obtain⟨k,hk,rfl,hbw⟩:=hrel
      have c1:=HC1.out _ hbw
      by_cases hlt:k<n
      · obtain ⟨b2, o2, rfl, hb2, d2⟩ := HN.out _ hbw k (by omega)
        have j1 : (0 : Int) ≤ (k : Int) := by omega
        have j3 : (k : Int) < (K.nds.length : Int) := by omega
        have j4 : (k : Int) < (n : Int) := by omega
        have c2:=HC2.out _ hbw
        have HQ := ah (HW.out wr hbw k (by omega))
        have HQ2 : Hid (∀ w2, Below w.heap.size w w2 → Calls Tryz.prog 103 #[Zp (some ⟨K.nds[k].b, 0, O⟩)] w2 fun e w' => ∃ (a : Option Addr) (m c : Nat), e = Zr (Y a m c) ∧ m ≤ 1000 ∧ Below w2.heap.size w2 w') := fun w2 hw2 => HLg.out w2 hw2 k (by omega)
        generalize K.nds[k].b=bb at *
        generalize K.nds[k].R.epoch=r1 at *
        generalize K.nds[k].R.view=r2 at *
        generalize K.nds[k].R.status=r3 at *
        generalize K.nds[k].R.decided=r4 at *
        go_wp2_with fail
        refine (HA.out _ _).mono ?_
        rintro e w4 ⟨bA,rfl,hw4⟩
        subst hw4
        cases bA
        · go_wp2
          go_roundw
          case rel => exact ⟨k + 1, by omega, by go_num, hbw⟩
          case measure=>simp[intOf];omega
        · go_wp2_with fail
          refine HQ.out.mono ?_
          rintro e w2 ⟨rfl,nn,hw2⟩
          have hb2' : Below w.heap.size w w2 := by rw [hw2]; exact below_drewN hbw nn
          have c2':=HC2.out _ hb2'
          have d2' : w2.cell? ⟨b2, o2 + k, O⟩ = some (Zp (some ⟨bb, 0, O⟩)) := by rw [hw2]; exact d2
          clear hw2
          go_wp2_with fail
          refine (HQ2.out _ hb2').mono ?_
          rintro e w3 ⟨al,ml,cl,rfl,hml,hb3⟩
          have hb3':Below w.heap.size w w3:=hb2'.trans (hb3.mono hb2'.size)
          have c10:=HC10.out _ hb3'
          go_wp2_with fail
          all_goals first
            | (go_ret;exact⟨_,rfl,hb3'⟩)
            | (go_roundw
               case rel => exact ⟨k + 1, by omega, by go_num, hb3'⟩
               case measure=>simp[intOf];omega)
      · go_wp2
        go_ret
        exact⟨_,rfl,hbw⟩
  · have hne':((a+1) != (K.groups.length:Int))=true:=bne_iff_ne.2 hne
    go_wp2
    go_ret
    exact⟨_,rfl,hb1⟩
end
theorem mR.pms {w w':World} {base:Nat} {W F:List Nat} {v:Value} {l:List Pm} (m:mR w w' base W F v l) (hb:Below w.heap.size w w') (hW:∀ x∈W,x<w.heap.size) (hbs:w.heap.size≤base):Pms w' W (v.ownBlock.toList++F) v l:=by
 obtain⟨d,b,e⟩:=m
 have f:Mv w W F W (v.ownBlock.toList++F):=⟨fun x a=>.inl a,fun x a=>List.mem_append.2 (.inr a),fun x a=>by
  rcases List.mem_append.1 a with q|q
  ·exact .inr (Nat.le_trans hbs (b.lt x (by simpa using q)).1)
  ·exact .inl q⟩
 refine⟨⟨fun k c g=>?_,fun k c=>List.mem_append.2 (.inl (by simpa using c))⟩,d,Rd.bX b,e.mono (fun P h q=>q.mv (Kp.of_below hb) f)⟩
 have:=hW k g
 have:=(b.lt k c).1
 omega
theorem mR.ys {w w':World} {base:Nat} {W F:List Nat} {a:Option Addr} {n cap:Nat} {c:List Pm} (m:mR w w' base W F (Y a n cap) c) (k:Nat) (hk:k<c.length) :
  ∃ b off al cl ag cg ao co aL cL,a=some ⟨b,off,O⟩∧dX w W F c[k] (Y al c[k].lives.length cl) (Y ag c[k].grp.length cg) (Y ao c[k].old.length co) (Y aL c[k].log.length cL) ∧
   ∀ j u,(#[I .u8 c[k].kind,I J c[k].frm,Y al c[k].lives.length cl,I J c[k].epoch,I J c[k].view,I J c[k].place,I J c[k].ent.1,I J c[k].ent.2.1,Z c[k].ent.2.2,I J c[k].commit,I J c[k].normal,I J c[k].life,Y ag c[k].grp.length cg,Y ao c[k].old.length co,Y aL c[k].log.length cL]:Array Value)[j]? = some u→w'.cell? ⟨b,off+k*15+j,O⟩=some u:=by
 obtain⟨q,h,i⟩:=m
 obtain⟨r,⟨s,t,v,x,rfl,f⟩,l⟩:=Rws.get ig.len i k hk
 obtain⟨al,cl,ag,cg,ao,co,aL,cL,rfl,rfl,rfl,rfl⟩:=f.cells
 have d:=Rd.bX h;rcases d.2 with ⟨e,y⟩|⟨b,off,g,e,_,_,z,o⟩
 ·omega
 ·simp only[Value.slice.injEq] at e;obtain⟨rfl,rfl,rfl⟩:=e
  refine⟨b,off,al,cl,ag,cg,ao,co,aL,cL,rfl,f,fun j u p=>?_⟩
  have:=o _ _ (l j u (by rw[Array.getElem?_toList];exact p))
  rwa [← Nat.add_assoc] at this
def KO (w w':World) (W F:List Nat) (ms:List Pm) (e:Ending):Prop :=
 Below w.heap.size w w'∧((fI ms=O∧e=Zr (.tuple #[.agg mz0,.bool false]))∨∃ a vl vg vo vL,fI ms=some a∧e=Zr (.tuple #[.agg (pmC a vl vg vo vL),.bool true])∧dX w' W F a vl vg vo vL)
theorem BS {c:List Pm} {p:Pm→Bool} {k:Nat} (hk:k<c.length) (h:(c.take k).find? p=O):(c.take (k+1)).find? p=if p c[k] then some c[k] else O:=by
 rw[List.take_succ_eq_append_getElem hk,List.find?_append,h];simp only[Option.none_or,List.find?_cons,List.find?_nil];cases p c[k] <;> rfl
theorem NR {c:List Pm} {p:Pm→Bool} {k:Nat} (hk:k<c.length) (h:(c.take k).find? p=O) (hp:p c[k]=true):c.find? p=some c[k]:=by
 have q:=BS hk h;rw[hp,if_pos rfl] at q
 conv=>lhs;rw[← List.take_append_drop (k+1) c]
 rw[List.find?_append,q];rfl
theorem Fh (v:Value) (ms:List Pm) (W F:List Nat) (w:World) (hv:Pms w W F v ms) (hl:ms.length≤7) (hW:∀ x∈W,x<w.heap.size) (hF:∀ x∈F,x<w.heap.size) (hgl:∀ m∈ms,m.grp.length≤5) (hvb:∀ m∈ms,m.view≤999) :
  Calls Tryz.prog 79 #[v] w fun e w'=>KO w w' W F ms e:=by
 obtain⟨a,E,rfl,ba,bb⟩:=hv.shape
 have hz:dD (w.alloc (.cells mz0 68)) w.heap.size mz0:=⟨rfl,heap_alloc_new w _⟩
 have r:Below w.heap.size w (w.alloc (.cells mz0 68)):=(Below.refl _ w).alloc (Nat.le_refl _) _
 have G:=hv.below r;obtain⟨ep,H⟩:∃ x,x=cK (ms.map (·.epoch)):=⟨_,rfl⟩
 obtain⟨g,hg⟩:∃ x,x=iV ms ep:=⟨_,rfl⟩
 obtain⟨c,K⟩:∃ x,x=eH ms ep g:=⟨_,rfl⟩
 obtain⟨t,y⟩:∃ x,x=cK (c.map (·.view)):=⟨_,rfl⟩
 have L:Hid (fI ms=if (c.length:Int)≤eP g then O else c.find? (fun m=>(m.frm==fJ g t)&&(m.view==t))):=by
  unfold Hid fI IL;rw[← H,← hg,← K,← y]
 have bc:c.length≤7:=by rw[K];have:=List.length_filter_le (fun m:Pm=>(m.epoch==ep)&&gW g m.frm) ms;unfold eH;omega
 have A:g.length≤1000:=by
  rw[hg];unfold iV
  split
  ·rename_i m hm;have:=hgl m (by simpa using List.mem_of_find?_eq_some hm)
   omega
  ·simp
 have a7:t≤999:=by
  rw[y];refine (JG 999 (by omega) _ (fun x X=>?_)).2
  obtain⟨m,hm,rfl⟩:=List.mem_map.1 X
  rw[K] at hm;exact hvb m (List.mem_filter.1 hm).1
 have aa:Hid (Calls Tryz.prog 124 #[Y a ms.length E] (w.alloc (.cells mz0 68)) fun e w'=>e=Zr (I J ep)∧w'=w.alloc (.cells mz0 68)):=by rw[H];exact vS _ ms W F _ G (by omega)
 have ab:Hid (Calls Tryz.prog 125 #[Y a ms.length E,I J ep] (w.alloc (.cells mz0 68)) fun e w'=>(∃ vg,e=Zr vg∧Ints (w.alloc (.cells mz0 68)) vg g∧Sl W F vg)∧w'=w.alloc (.cells mz0 68)):=by rw[hg];exact Fe _ ms ep W F _ G (by omega)
 have ac:Hid (∀ vr,Ints (w.alloc (.cells mz0 68)) vr g→Calls Tryz.prog 126 #[Y a ms.length E,I J ep,vr] (w.alloc (.cells mz0 68)) fun e w'=>∃ v',e=Zr v'∧mR (w.alloc (.cells mz0 68)) w' (w.alloc (.cells mz0 68)).heap.size W F v' c∧Below (w.alloc (.cells mz0 68)).heap.size (w.alloc (.cells mz0 68)) w'):=fun vr hr=>by rw[K];exact Fj _ vr ms ep g W F _ G (by omega) hr (by omega)
 have an:∀ x∈W,x<(w.alloc (.cells mz0 68)).heap.size:=fun x X=>Nat.lt_of_lt_of_le (hW x X) r.size
 have ap:Hid (∀ P vl vg vo vL,dX (w.alloc (.cells mz0 68)) W F P vl vg vo vL→dX w W F P vl vg vo vL→True):=fun _ _ _ _ _ _ _=>trivial
 have aq:=ah y;have HF:=ah hF;clear H hg K y ap hv hgl hvb;go_enter Tryz.func79,Tryz.ntmps79;go_wp2_with fail;generalize w.alloc (.cells mz0 68)=wZ at *;refine aa.out.mono ?_;rintro e w1 ⟨rfl,av⟩;subst av;go_wp2_with fail;refine ab.out.mono ?_;rintro e w2 ⟨⟨vr,rfl,z,_⟩,aw⟩;subst aw;obtain⟨ar,cr,rfl,_,_⟩:=z.shape
 have B:=ah (ac.out _ z);clear ac aa ab;go_wp2_with fail;refine B.out.mono ?_;rintro e h ⟨v3,rfl,M,j⟩;have N:=M.pms j an (Nat.le_refl _);obtain⟨a3,bd,rfl,a8,a9⟩:=N.shape
 have ax:=ah M;have Q:=z.below j;have l:Hid (dD h w.heap.size mz0):=hz.kp (S:=[]) (Kp.of_below j) (by simp)
 have n:Hid (Below w.heap.size w h):=r.trans (j.mono r.size)
 have ad:=ah j;have az:=ah (ql _ g h Q A);have R:=ah (xL _ c W _ h N (by omega))
 rw[← aq.out] at R;have ae:=ah (tL _ g t h Q A (by omega))
 clear M N Q z j hz B;go_wp2_with fail;refine az.out.mono ?_;rintro e w4 ⟨rfl,a0⟩;subst a0;obtain⟨h,o⟩:∃ x,x=w4:=⟨_,rfl⟩
 subst o;by_cases q:(c.length:Int)≤eP g
 ·have HE:Hid (fI ms=O):=by unfold Hid;rw[L.out,if_pos q]
  have C:=ah (kG l.out (I .u8 0) (I J 0) (Y O 0 0) (I J 0) (I J 0) (I J 0) (I J 0) (I J 0) (Z ⟨#[]⟩) (I J 0) (I J 0) (I J 0) (Y O 0 0) (Y O 0 0) (Y O 0 0));have D:=ah (fP (Nat.le_refl w.heap.size) [I .u8 0,I J 0,Y O 0 0,I J 0,I J 0,I J 0,I J 0,I J 0,Z ⟨#[]⟩,I J 0,I J 0,I J 0,Y O 0 0,Y O 0 0,Y O 0 0] h 0 n.out);rw[← lM] at C D;have p:=ah l.out.there;have f:Hid ((mz0:Array Value).all (·.oneCell')=true):=all_oneCell_toArray (cs:=[I .u8 0,I J 0,Y O 0 0,I J 0,I J 0,I J 0,I J 0,I J 0,Z ⟨#[]⟩,I J 0,I J 0,I J 0,Y O 0 0,Y O 0 0,Y O 0 0]) (by intro u hu;simp at hu;rcases hu with rfl|rfl|rfl|rfl|rfl|rfl|rfl|rfl|rfl|rfl|rfl|rfl|rfl|rfl|rfl <;> rfl)
  clear R ae;go_wp2_with (refine wpList_store_mid rfl 68 (.tmp 2) (.tmp 24) (by rfl) w.heap.size 0 mz0 (by rfl) (by rfl) p.out Tryz.sizeMsg f.out ?_)
  go_wp2;exact bodyPost_ret (dU rfl _ _ _ rfl C.out) rfl ⟨D.out,.inl ⟨HE.out,rfl⟩⟩
 ·have af:Hid (fI ms=c.find? (fun m=>(m.frm==fJ g t)&&(m.view==t))):=by unfold Hid;rw[L.out,if_neg q]
  clear L;go_wp2_with fail;refine R.out.mono ?_;rintro e w5 ⟨rfl,a1⟩;subst a1;go_wp2_with fail;refine ae.out.mono ?_;rintro e w6 ⟨rfl,a2⟩;subst a2;obtain⟨h,o⟩:∃ x,x=w6:=⟨_,rfl⟩
  subst o;generalize fJ g t=pr at *;go_wp2_with fail;go_loopw [9] (fun i wr=>∃ k:Nat,k≤c.length∧i=I J k∧(c.take k).find? (fun m=>(m.frm==pr)&&(m.view==t))=O∧wr=h) (fun i _=>c.length-(intOf i).toNat)
  case atStart=>exact⟨0,Nat.zero_le _,rfl,rfl,rfl⟩
  case round =>
   obtain⟨k,hk,rfl,ai,a4⟩:=hrel
   have T:=ah ai;clear ai;subst a4;obtain⟨h,o⟩:∃ x,x=wr:=⟨_,rfl⟩
   subst o;by_cases U:k<c.length
   ·obtain⟨b,be,al,cl,ag,cg,ao,co,aL,cL,rfl,V,d⟩:=ax.out.ys k U
    have j1:(0:Int)≤(k:Int):=by omega
    have j2:(k:Int)<(c.length:Int):=by omega
    have a5:=ah (V.below ad.out);have ak:=ah (BS U T.out);have a6:=ah (NR U T.out);have f:Hid ((#[I .u8 c[k].kind,I J c[k].frm,Y al c[k].lives.length cl,I J c[k].epoch,I J c[k].view,I J c[k].place,I J c[k].ent.1,I J c[k].ent.2.1,Z c[k].ent.2.2,I J c[k].commit,I J c[k].normal,I J c[k].life,Y ag c[k].grp.length cg,Y ao c[k].old.length co,Y aL c[k].log.length cL]:Array Value).all (·.oneCell')=true):=Hz V
    clear V;have y0:=d 0 _ rfl;have y1:=d 1 _ rfl;have y2:=d 2 _ rfl;have y3:=d 3 _ rfl;have y4:=d 4 _ rfl;have y5:=d 5 _ rfl;have y6:=d 6 _ rfl;have y7:=d 7 _ rfl;have y8:=d 8 _ rfl;have y9:=d 9 _ rfl;have bg:=d 10 _ rfl;have bh:=d 11 _ rfl;have bi:=d 12 _ rfl;have bj:=d 13 _ rfl;have bk:=d 14 _ rfl;simp only[Nat.add_zero] at y0;clear d;generalize c[k]=s at *;cases hf:(s.frm==pr)
    ·go_wp2;go_roundw
     case rel=>exact⟨k+1,by omega,by go_num,by rw[ak.out,hf];rfl,by trivial⟩
     case measure=>simp[intOf];omega
    ·cases hvv:(s.view==t)
     ·go_wp2;go_roundw
      case rel=>exact⟨k+1,by omega,by go_num,by rw[ak.out,hf,hvv];rfl,by trivial⟩
      case measure=>simp[intOf];omega
     ·have HE:Hid (fI ms=some s):=by unfold Hid;rw[af.out];exact a6.out (by rw[hf,hvv];rfl)
      have C:=ah (kG l.out (I .u8 s.kind) (I J s.frm) (Y al s.lives.length cl) (I J s.epoch) (I J s.view) (I J s.place) (I J s.ent.1) (I J s.ent.2.1) (Z s.ent.2.2) (I J s.commit) (I J s.normal) (I J s.life) (Y ag s.grp.length cg) (Y ao s.old.length co) (Y aL s.log.length cL));have D:=ah (fP (Nat.le_refl w.heap.size) [I .u8 s.kind,I J s.frm,Y al s.lives.length cl,I J s.epoch,I J s.view,I J s.place,I J s.ent.1,I J s.ent.2.1,Z s.ent.2.2,I J s.commit,I J s.normal,I J s.life,Y ag s.grp.length cg,Y ao s.old.length co,Y aL s.log.length cL] h 0 n.out);have am:Hid (dX (jD h w.heap.size 0 [I .u8 s.kind,I J s.frm,Y al s.lives.length cl,I J s.epoch,I J s.view,I J s.place,I J s.ent.1,I J s.ent.2.1,Z s.ent.2.2,I J s.commit,I J s.normal,I J s.life,Y ag s.grp.length cg,Y ao s.old.length co,Y aL s.log.length cL]) W F s _ _ _ _):=a5.out.far (oh (g:=w.heap.size) [I .u8 s.kind,I J s.frm,Y al s.lives.length cl,I J s.epoch,I J s.view,I J s.place,I J s.ent.1,I J s.ent.2.1,Z s.ent.2.2,I J s.commit,I J s.normal,I J s.life,Y ag s.grp.length cg,Y ao s.old.length co,Y aL s.log.length cL] h 0) (fun x X K=>by simp at X;subst X;have:=HF.out _ K;omega)
      rw[← lM] at C D am;have p:=ah l.out.there;go_wp2_with (refine wpList_store_mid rfl 68 (.tmp 2) (.tmp 55) (by rfl) w.heap.size 0 #[I .u8 s.kind,I J s.frm,Y al s.lives.length cl,I J s.epoch,I J s.view,I J s.place,I J s.ent.1,I J s.ent.2.1,Z s.ent.2.2,I J s.commit,I J s.normal,I J s.life,Y ag s.grp.length cg,Y ao s.old.length co,Y aL s.log.length cL] (by rfl) (by rfl) p.out Tryz.sizeMsg f.out ?_)
      go_wp2;exact bodyPost_ret (dU rfl _ _ _ rfl C.out) rfl ⟨D.out,.inr ⟨s,_,_,_,_,HE.out,rfl,am.out⟩⟩
   ·obtain rfl:k=c.length:=by omega
    have HE:Hid (fI ms=O):=by unfold Hid;rw[af.out];have:=T.out;rwa [List.take_length] at this
    have C:=ah (kG l.out (I .u8 0) (I J 0) (Y O 0 0) (I J 0) (I J 0) (I J 0) (I J 0) (I J 0) (Z ⟨#[]⟩) (I J 0) (I J 0) (I J 0) (Y O 0 0) (Y O 0 0) (Y O 0 0));have D:=ah (fP (Nat.le_refl w.heap.size) [I .u8 0,I J 0,Y O 0 0,I J 0,I J 0,I J 0,I J 0,I J 0,Z ⟨#[]⟩,I J 0,I J 0,I J 0,Y O 0 0,Y O 0 0,Y O 0 0] h 0 n.out);rw[← lM] at C D;have p:=ah l.out.there;have f:Hid ((mz0:Array Value).all (·.oneCell')=true):=all_oneCell_toArray (cs:=[I .u8 0,I J 0,Y O 0 0,I J 0,I J 0,I J 0,I J 0,I J 0,Z ⟨#[]⟩,I J 0,I J 0,I J 0,Y O 0 0,Y O 0 0,Y O 0 0]) (by intro u hu;simp at hu;rcases hu with rfl|rfl|rfl|rfl|rfl|rfl|rfl|rfl|rfl|rfl|rfl|rfl|rfl|rfl|rfl <;> rfl)
    go_wp2_with (refine wpList_store_mid rfl 68 (.tmp 2) (.tmp 56) (by rfl) w.heap.size 0 mz0 (by rfl) (by rfl) p.out Tryz.sizeMsg f.out ?_)
    go_wp2;exact bodyPost_ret (dU rfl _ _ _ rfl C.out) rfl ⟨D.out,.inl ⟨HE.out,rfl⟩⟩
section
variable {w w0:World} {b bl:Nat} {W F:List Nat} {R:Rp} {V:Rv} {P:Pm} {vl vg vo vL:Value}
theorem Kn (h:Rst w0 w b bl W F R) (hR:Ok R) (hP:dX w0 W F P vl vg vo vL) (hm:dF R.n P) (ho:R.out.length≤900000)  :
  Calls Tryz.prog 49 #[Zp (some ⟨b,0,O⟩),.agg (pmC P vl vg vo vL)] w fun e w'=>e=Zr (.tuple #[])∧Rst w0 w' b bl W F (R.answer P):=by
 obtain⟨W1,F1,Q,al,s,ag,v,x,y,z,A,rfl,rfl,rfl,rfl,B,T,ar,j,U,C⟩:=h.msg hP
 clear h hP;simp only[pmC];have d:Hid (R.answer P=if R.status==1 then R.send P.frm { R.aC with kind:=97,life:=P.lives.getD P.frm.toNat 0 } else R):=rfl
 cases hs:(R.status==1)
 ·have V:(R.status != 1)=true:=by simp[bne,hs]
  have X:Hid (R.answer P=R):=by unfold Hid;rw[d.out,hs];rfl
  clear d hm;go_enter Tryz.func49,Tryz.ntmps49;go_upto_region 1 with fail
  generalize w.alloc (.cells (pqC P al s ag v x y z A) 68)=wA at *;obtain⟨x0,x1,x2,x3,x4,x5,x6,x7,x8,x9,av,aw,ax,az,a0,xf⟩:=B.all
  have c3:=j.c3;go_wp2;exact bodyPost_ret (results_none rfl _ _ _) rfl ⟨rfl,by rw[X.out];exact C.out _ _ U.out⟩
 ·have V:(R.status != 1)=false:=by simp[bne,hs]
  obtain⟨a,l⟩:∃ f:Nat,P.frm=f:=⟨P.frm.toNat,by have:=hm.f0;omega⟩
  have g2:a<P.lives.length:=by have:=hm.f1;have:=hm.ll;omega
  have X:Hid (R.answer P=R.send (a:Int) { R.aC with kind:=97,life:=P.lives[a] }):=by
   unfold Hid;rw[d.out,hs,l];simp[List.getD,g2]
  have aa:=ah (hm.lb P.lives[a] (List.getElem_mem _));have ab:=T.lives;obtain⟨k,m,rfl,D,z3⟩:=ab.get a g2
  obtain⟨ac,E⟩:=j.g2
  obtain⟨ad,ae,G⟩:=j.g9
  obtain⟨af,ai,H⟩:=j.g7
  obtain⟨ak,am,K⟩:=j.g8
  have HH:=ah (sM j);rw[E,H,K,G] at HH;have an:Hid (∀ w',Below (w.alloc (.cells #[I .u8 P.kind,I J P.frm,Y (some ⟨k,m,O⟩) P.lives.length s,I J P.epoch,I J P.view,I J P.place,I J P.ent.1,I J P.ent.2.1,Z P.ent.2.2,I J P.commit,I J P.normal,I J P.life,Y ag P.grp.length v,Y x P.old.length y,Y z P.log.length A] 68)).heap.size (w.alloc (.cells #[I .u8 P.kind,I J P.frm,Y (some ⟨k,m,O⟩) P.lives.length s,I J P.epoch,I J P.view,I J P.place,I J P.ent.1,I J P.ent.2.1,Z P.ent.2.2,I J P.commit,I J P.normal,I J P.life,Y ag P.grp.length v,Y x P.old.length y,Y z P.log.length A] 68)) w'→Calls Tryz.prog 87 #[Zp (some ⟨b,0,O⟩),I J (a:Int),.agg #[I .u8 97,I J R.id,Y (some ⟨bl,0,O⟩) R.lives.length ac,I J R.epoch,I J R.view,I J 0,I J 0,I J 0,Z ⟨#[]⟩,I J (R.decided:Int),I J 0,I J P.lives[a],Y af R.grp.length ai,Y ak R.old.length am,Y ad R.log.length ae]] w' fun e L=>e=Zr (.tuple #[])∧Rst w0 L b bl W F (R.send (a:Int) { R.aC with kind:=97,life:=P.lives[a] })):=fun w' hb=>by
   have t:=j.below hb;have hh:mV w' { R.aC with kind:=97,life:=P.lives[a] } Q.vl Q.vg Q.vo Q.vL:=⟨t.lives.rd,t.grp,t.old,t.ents⟩
   rw[E,H,K,G] at hh;exact (nI t (a:Int) { R.aC with kind:=97,life:=P.lives[a] } _ _ _ _ ((JY hR aa.out).pw hR) hh (by omega)).mono (fun e L q=>⟨q.1,C.out _ _ (Rst.pre (Kp.of_below hb) (Snt.rst t q.2))⟩)
  have ap:=ah l;clear d hm l;go_enter Tryz.func49,Tryz.ntmps49;go_upto_region 1 with fail
  generalize w.alloc (.cells #[I .u8 P.kind,I J P.frm,Y (some ⟨k,m,O⟩) P.lives.length s,I J P.epoch,I J P.view,I J P.place,I J P.ent.1,I J P.ent.2.1,Z P.ent.2.2,I J P.commit,I J P.normal,I J P.life,Y ag P.grp.length v,Y x P.old.length y,Y z P.log.length A] 68)=wA at *;have c3:=j.c3;go_wp2_with fail;refine HH.out.mono ?_;rintro e u ⟨rfl,c⟩;have g:dD u w.heap.size #[I .u8 P.kind,I J P.frm,Y (some ⟨k,m,O⟩) P.lives.length s,I J P.epoch,I J P.view,I J P.place,I J P.ent.1,I J P.ent.2.1,Z P.ent.2.2,I J P.commit,I J P.normal,I J P.life,Y ag P.grp.length v,Y x P.old.length y,Y z P.log.length A]:=B.kp (S:=[]) (Kp.of_below c) (by simp)
  have x1:u.cell? ⟨w.heap.size,1,O⟩=some (I J (a:Int)):=by have q:=g.cell 1;rw[q];simp[ap.out]
  have x2:u.cell? ⟨w.heap.size,2,O⟩=some (Y (some ⟨k,m,O⟩) P.lives.length s):=by have q:=g.cell 2;rw[q];rfl
  have z1:=(c.cell (p:=⟨k,m+a,O⟩) D).trans z3;have r:=lt_of_block g.2;have M:k<u.heap.size:=Nat.lt_of_lt_of_le D c.size
  have i:=fun o=>(Below.refl u.heap.size u).alloc (Nat.le_refl _) o
  have y1:=fun o=>((i o).cell (p:=⟨w.heap.size,1,O⟩) r).trans x1
  have y2:=fun o=>((i o).cell (p:=⟨w.heap.size,2,O⟩) r).trans x2
  have y3:=fun o=>((i o).cell (p:=⟨k,m+a,O⟩) M).trans z1
  have j1:(0:Int)≤(a:Int):=by omega
  have j2:(a:Int)<(P.lives.length:Int):=by omega
  simp only[pmC,Rp.aC,Rp.head,pm0];clear i g x1 x2 z1 z3 r c3;go_wp2_with fail;refine (an.out _ (c.alloc c.size _)).mono ?_;rintro e w2 ⟨rfl,N⟩;have aq:=ah N;clear N;go_wp2;exact bodyPost_end (results_none rfl _ _ _) rfl ⟨rfl,by rw[X.out];exact aq.out⟩
theorem Ig (h:Rst w0 w b bl W F R) (hR:Ok R) (hP:dX w0 W F P vl vg vo vL) (hm:dF R.n P)  :
  Calls Tryz.prog 19 #[Zp (some ⟨b,0,O⟩),.agg (pmC P vl vg vo vL)] w fun e w'=>e=Zr (.bool (R.alive P))∧Rst w0 w' b bl W F (R):=by
 obtain⟨Q,S,T,U,k,ag,v,x,y,z,A,rfl,rfl,rfl,rfl,l,D,G,B,m,o⟩:=h.msg hP
 clear h hP;simp only[pmC];have p:Hid (R.alive P=((P.frm != R.id)&&decide (R.lives.getD P.frm.toNat 0≤P.lives.getD P.frm.toNat 0))):=rfl
 obtain⟨a,i⟩:∃ f:Nat,P.frm=f:=⟨P.frm.toNat,by have:=hm.f0;omega⟩
 have g2:a<P.lives.length:=by have:=hm.f1;have:=hm.ll;omega
 have g3:a<R.lives.length:=by have:=hm.f1;have:=hR.ll;omega
 have c:Hid (R.alive P=(((a:Int) != R.id)&&decide (R.lives[a]≤P.lives[a]))):=by
  unfold Hid;rw[p.out,i];simp[List.getD,g2,g3]
 obtain⟨r,s,rfl,H,V⟩:=D.lives.get a g2
 have t:=B.lives.rd;obtain⟨K,u⟩:=B.g2
 rw[u] at t;obtain⟨X,o4,g,L,M⟩:=Ints.get t a g3
 simp only[Option.some.injEq,Addr.mk.injEq] at g;obtain⟨rfl,rfl,_⟩:=g
 simp only[Nat.zero_add] at M;have c0:=B.c0;have c2:=B.c2;rw[u] at c2;have x1:(w.alloc (.cells #[I .u8 P.kind,I J P.frm,Y (some ⟨r,s,O⟩) P.lives.length k,I J P.epoch,I J P.view,I J P.place,I J P.ent.1,I J P.ent.2.1,Z P.ent.2.2,I J P.commit,I J P.normal,I J P.life,Y ag P.grp.length v,Y x P.old.length y,Y z P.log.length A] 68)).cell? ⟨w.heap.size,1,O⟩=some (I J (a:Int)):=by have q:=l.cell 1;rw[q];simp[i]
 have x2:(w.alloc (.cells #[I .u8 P.kind,I J P.frm,Y (some ⟨r,s,O⟩) P.lives.length k,I J P.epoch,I J P.view,I J P.place,I J P.ent.1,I J P.ent.2.1,Z P.ent.2.2,I J P.commit,I J P.normal,I J P.life,Y ag P.grp.length v,Y x P.old.length y,Y z P.log.length A] 68)).cell? ⟨w.heap.size,2,O⟩=some (Y (some ⟨r,s,O⟩) P.lives.length k):=by have q:=l.cell 2;rw[q];rfl
 have j1:(0:Int)≤(a:Int):=by omega
 have j2:(a:Int)<(P.lives.length:Int):=by omega
 have j3:(a:Int)<(R.lives.length:Int):=by omega
 clear hm i p;cases hq:((a:Int)==R.id)
 ·have d:((a:Int) != R.id)=true:=by simp[bne,hq]
  by_cases E:R.lives[a]≤P.lives[a]
  focus
   have C:Hid (R.alive P=true):=by unfold Hid;rw[c.out,d,decide_eq_true E];rfl
  rotate_left
  focus
   have C:Hid (R.alive P=false):=by unfold Hid;rw[c.out,d,decide_eq_false E];rfl
  rotate_left
  all_goals
   clear c;go_enter Tryz.func19,Tryz.ntmps19;go_upto_region 1 with fail
   generalize w.alloc (.cells #[I .u8 P.kind,I J P.frm,Y (some ⟨r,s,O⟩) P.lives.length k,I J P.epoch,I J P.view,I J P.place,I J P.ent.1,I J P.ent.2.1,Z P.ent.2.2,I J P.commit,I J P.normal,I J P.life,Y ag P.grp.length v,Y x P.old.length y,Y z P.log.length A] 68)=N at *;go_wp2_with fail;go_quiet (fail);rename_i nq;have j:=ah (m.out.drewN nq);go_wp2;go_ret;exact⟨bC (by rw[C.out];try (first|exact decide_eq_false (by omega)|exact decide_eq_true (by omega))),o.out _ _ j.out⟩
 ·have d:((a:Int) != R.id)=false:=by simp[bne,hq]
  have C:Hid (R.alive P=false):=by unfold Hid;rw[c.out,d];rfl
  clear c;go_enter Tryz.func19,Tryz.ntmps19;go_upto_region 1 with fail
  generalize w.alloc (.cells #[I .u8 P.kind,I J P.frm,Y (some ⟨r,s,O⟩) P.lives.length k,I J P.epoch,I J P.view,I J P.place,I J P.ent.1,I J P.ent.2.1,Z P.ent.2.2,I J P.commit,I J P.normal,I J P.life,Y ag P.grp.length v,Y x P.old.length y,Y z P.log.length A] 68)=N at *;go_wp2_with fail;go_quiet (fail);rename_i nq;have j:=ah (m.out.drewN nq);go_wp2;go_ret;exact⟨bC (by rw[C.out];try (first|exact decide_eq_false (by omega)|exact decide_eq_true (by omega))),o.out _ _ j.out⟩
end
end Go.Proofs.YtinaollfjiddmaaGreatDoor
