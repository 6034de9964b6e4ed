import Derived.Test.YtinaollfjiddmaaGreatDoorA02
import Derived.Test.YtinaollfjiddmaaGreatDoorA03
set_option maxRecDepth 100000
set_option maxHeartbeats 8000000
set_option linter.all false
namespace Go.Proofs.YtinaollfjiddmaaGreatDoor
open Go.Value renaming int→I,slice→Y,string→Z,pointer→Zp
open Go.Ending renaming returned→Zr
open _root_.ByteArray renaming empty→Ze
open Go.IntKind renaming i64→J
open Option renaming none→O
open Go.RowKit
def iw (w:World) (v:Value) (l:List (Int×Int×ByteArray)):Prop:=Rd w 3 v l.length (aA l)
theorem iw.below {w w':World} {v:Value} {l:List (Int×Int×ByteArray)} (h:iw w v l) (hb:Below w.heap.size w w'):iw w' v l:=Rd.below h hb
theorem uU:∀ (l:List (Int×Int×ByteArray)) (k:Nat) (h:k<l.length),(aA l)[3*k]? = some (I J l[k].1)∧(aA l)[3*k+1]? = some (I J l[k].2.1)∧(aA l)[3*k+2]? = some (Z l[k].2.2)
 | a :: l,0,_=>⟨rfl,rfl,rfl⟩
 | a :: l,k+1,h=>by
  have:=uU l k (by simpa using h)
  simp only[List.getElem_cons_succ];exact this
theorem iw.get {w:World} {a:Option Addr} {n cap:Nat} {l:List (Int×Int×ByteArray)} (h:iw w (Y a n cap) l) (k:Nat) (hk:k<l.length) :
  ∃ b off,a=some ⟨b,off,O⟩∧b<w.heap.size∧w.cell? ⟨b,off+k*3,O⟩=some (I J l[k].1)∧w.cell? ⟨b,off+k*3+1,O⟩=some (I J l[k].2.1)∧w.cell? ⟨b,off+k*3+2,O⟩=some (Z l[k].2.2):=by
 obtain⟨f,g,i⟩:=uU l k hk
 rcases h.2 with ⟨c,m⟩|⟨b,off,e,c,_,_,j,d⟩
 ·omega
 ·simp only[Value.slice.injEq] at c;obtain⟨rfl,rfl,rfl⟩:=c
  refine⟨b,off,rfl,j,?_,?_,?_⟩
  ·have:=d _ _ f;rwa [show off+3*k=off+k*3 by omega] at this
  ·have:=d _ _ g;rwa [show off+(3*k+1)=off+k*3+1 by omega] at this
  ·have:=d _ _ i;rwa [show off+(3*k+2)=off+k*3+2 by omega] at this
theorem iw.shape {w:World} {v:Value} {l:List (Int×Int×ByteArray)} (h:iw w v l):∃ a cap,v=Y a l.length cap∧l.length≤cap∧cap≤9223372036854775807:=by
 obtain⟨a,cap,rfl,hn,hm,_⟩:=Rd.form h
 exact⟨a,cap,rfl,hn,by unfold maxLen at hm;omega⟩
def uJ (e:Int×Int×ByteArray):Prop:=0≤e.1∧e.1≤999999999∧0≤e.2.1∧e.2.1≤999999999∧e.2.2.size≤1000
def iN (l:List (Int×Int×ByteArray)):ByteArray:=if l.length=0 then qG else qC (l.map iM) SLASH
theorem oV {e:Int×Int×ByteArray} (h:uJ e):(iM e).size≤1022:=by
 have b1:=gu e.1 h.2.1;have a:=gu e.2.1 h.2.2.2.1;have b:=h.2.2.2.2;unfold iM;simp only[ByteArray.size_append];have:DOT.size=1:=rfl
 omega
theorem EO (v:Value) (l:List (Int×Int×ByteArray)) (w:World) (hT:Tab w) (hv:iw w v l) (hl:l.length≤1000) (hb:∀ x∈l,uJ x) :
  Calls Tryz.prog 179 #[v] w fun e w'=>e=Zr (Z (iN l))∧Below w.heap.size w w':=by
 obtain⟨a,E,rfl,B,R⟩:=hv.shape
 have C:Hid (∀ x∈l,∀ w,Tab w→Calls Tryz.prog 169 #[.agg #[I J x.1,I J x.2.1,Z x.2.2]] w fun e w'=>e=Zr (Z (iM x))∧Below w.heap.size w w'):=fun x u w h=>by
  have q:=hb x u;exact tJ x.1 x.2.1 x.2.2 w h q.1 q.2.1 q.2.2.1 q.2.2.2.1 (by have:=q.2.2.2.2;omega)
 by_cases s:l.length=0
 ·have y:Hid (iN l=qG):=by unfold iN Hid;rw[if_pos s]
  have z:((l.length:Int)==0)=true:=beq_iff_eq.2 (by omega)
  go_enter Tryz.func179,Tryz.ntmps179;go_wp2;go_ret;exact⟨jV (by rw[y.out];rfl),Below.refl _ _⟩
 ·have m:=nS (l.map iM) SLASH 1022 (by intro t ht;rw[List.mem_map] at ht;obtain⟨x,u,rfl⟩:=ht;exact oV (hb x u))
  have n:SLASH.size=1:=rfl
  have y:Hid (iN l=fO (l.map iM) SLASH l.length):=by unfold iN qC Hid;rw[if_neg s,List.length_map]
  have z:((l.length:Int)==0)=false:=by simp;intro hc;rw[hc] at s;simp at s
  go_enter Tryz.func179,Tryz.ntmps179;go_wp2_with fail;go_loopw [3,4] (fun t i wr=>∃ k:Nat,k≤l.length∧i=I J k∧t=Z (fO (l.map iM) SLASH k)∧Below w.heap.size w wr) (fun _ i _=>l.length-(intOf i).toNat)
  case atStart=>exact⟨0,Nat.zero_le _,rfl,rfl,Below.refl _ _⟩
  case round =>
   obtain⟨k,S,rfl,rfl,c⟩:=hrel
   by_cases f:k<l.length
   ·obtain⟨b,F,rfl,G,H,K,L⟩:=(hv.below c).get k f
    have M:=m k;rw[n] at M;have T:=oV (hb _ (List.getElem_mem f));have o:=hT.below c;have p:Hid (∀ w,Tab w→Calls Tryz.prog 169 #[.agg #[I J l[k].1,I J l[k].2.1,Z l[k].2.2]] w fun e w'=>e=Zr (Z (iM l[k]))∧Below w.heap.size w w'):=C.out _ (List.getElem_mem _)
    have D:Hid (fO (l.map iM) SLASH (k+1)=(if 0<k then fO (l.map iM) SLASH k++⟨#[47]⟩ else fO (l.map iM) SLASH k)++iM l[k]):=by
     have e:(l.map iM).getD k Ze=iM l[k]:=by rw[List.getD,List.getElem?_map,List.getElem?_eq_getElem f];rfl
     unfold Hid;rw[fO,e];rfl
    have N:k*1023≤1023000:=by omega
    clear m C n;generalize iM l[k]=d at *;generalize hg:fO (l.map iM) SLASH k=g at *;clear hg;by_cases r:0<k
    ·have U:¬9223372036854775807<g.size+1:=by omega
     have P:¬9223372036854775807<g.size+1+d.size:=by omega
     go_wp2_with (first|(go_at_call 169;refine (p.out _ o).mono ?_;rintro e Q ⟨rfl,j⟩)|fail)
     go_roundw
     case rel=>exact⟨k+1,by omega,by go_num,by rw[D.out,if_pos r],c.trans (j.mono c.size)⟩
     case measure=>simp[intOf];omega
    ·have P:¬9223372036854775807<g.size+d.size:=by omega
     go_wp2_with (first|(go_at_call 169;refine (p.out _ o).mono ?_;rintro e Q ⟨rfl,j⟩)|fail)
     go_roundw
     case rel=>exact⟨k+1,by omega,by go_num,by rw[D.out,if_neg r],c.trans (j.mono c.size)⟩
     case measure=>simp[intOf];omega
   ·have A:k=l.length:=by omega
    subst A;go_wp2;go_ret;exact⟨jV (by rw[y.out]),c⟩
def mD (co:Int) (l:List (Int×Int×ByteArray)):ByteArray:=SP++dg co++SP++iN l
def mh (l:List Int):ByteArray:=if l.length=0 then qG else lC l
def o8 (g o:List Int):ByteArray:=SP++lC g++SP++mh o
theorem yh {l:List (Int×Int×ByteArray)} (hl:l.length≤1000) (hb:∀ x∈l,uJ x):(iN l).size≤10000000:=by
 unfold iN
 split
 ·decide
 ·have a:=nS (l.map iM) SLASH 1022 (by intro t ht;rw[List.mem_map] at ht;obtain⟨x,c,rfl⟩:=ht;exact oV (hb x c)) l.length
  unfold qC;rw[List.length_map];have b:SLASH.size=1:=rfl
  rw[b] at a;omega
theorem rX {l:List Int} (hl:l.length≤1000) (hb:∀ x∈l,0≤x∧x≤999999999):(lC l).size≤10000:=by
 have:=zm l (fun x hx=>(hb x hx).2) l.length
 unfold lC;omega
theorem JU {l:List Int} (hl:l.length≤1000) (hb:∀ x∈l,0≤x∧x≤999999999):(iC l).size≤11000:=by
 have a:=nS (l.map dg) DOT 10 (by intro t ht;rw[List.mem_map] at ht;obtain⟨x,c,rfl⟩:=ht;exact gu x (hb x c).2) l.length
 unfold iC qC;rw[List.length_map];have b:DOT.size=1:=rfl
 rw[b] at a;omega
theorem EW {l:List Int} (hl:l.length≤1000) (hb:∀ x∈l,0≤x∧x≤999999999):(mh l).size≤10000:=by
 unfold mh
 split
 ·decide
 ·exact rX hl hb
section
variable (kd fr ep vi pl ec en co no li:Int) (eo:ByteArray) (al ag ao aL:Option Addr) (nl ng no2 nL cl cg co2 cL:Nat) (w:World) (hT:Tab w)
theorem yE (kd:Int) (fr:Int) (ep:Int) (vi:Int) (pl:Int) (ec:Int) (en:Int) (co:Int) (no:Int) (li:Int) (eo:ByteArray) (al:Option Addr) (ag:Option Addr) (ao:Option Addr) (aL:Option Addr) (nl:Nat) (ng:Nat) (no2:Nat) (nL:Nat) (cl:Nat) (cg:Nat) (co2:Nat) (cL:Nat) (w:World) (hT:Tab w) (l:List (Int×Int×ByteArray)) (hv:iw w (Y aL nL cL) l) (hl:l.length≤1000) (hb:∀ x∈l,uJ x) (h0:0≤co) (h1:co≤999999999) :
  Calls Tryz.prog 170 #[.agg #[I .u8 kd,I J fr,Y al nl cl,I J ep,I J vi,I J pl,I J ec,I J en,Z eo,I J co,I J no,I J li,Y ag ng cg,Y ao no2 co2,Y aL nL cL]] w fun e w'=>e=Zr (Z (mD co l))∧Below w.heap.size w w':=by
 have n:Hid (mD co l=⟨#[32]⟩++dg co++⟨#[32]⟩++iN l):=rfl
 have o:Hid (∀ w,Tab w→Calls Tryz.prog 121 #[I J co] w fun e w'=>e=Zr (Z (dg co))∧Below w.heap.size w w'):=fun w h=>iK co w h h0 (by omega)
 have p:Hid (∀ w,Tab w→iw w (Y aL nL cL) l→Calls Tryz.prog 179 #[Y aL nL cL] w fun e w'=>e=Zr (Z (iN l))∧Below w.heap.size w w'):=fun w h hv=>EO _ l w h hv hl hb
 have y:=gu co h1;have z:=yh hl hb;have a:Below w.heap.size w (w.alloc (.cells #[I .u8 kd,I J fr,Y al nl cl,I J ep,I J vi,I J pl,I J ec,I J en,Z eo,I J co,I J no,I J li,Y ag ng cg,Y ao no2 co2,Y aL nL cL] 68)):=(Below.refl _ w).alloc (Nat.le_refl _) _
 have b:=heap_alloc_new w (.cells #[I .u8 kd,I J fr,Y al nl cl,I J ep,I J vi,I J pl,I J ec,I J en,Z eo,I J co,I J no,I J li,Y ag ng cg,Y ao no2 co2,Y aL nL cL] 68);have f:=hT.below a;have j:=hv.below a;generalize mD co l=r at *;generalize dg co=dc at *;generalize iN l=q at *;go_enter Tryz.func170,Tryz.ntmps170;go_wp2_with fail;generalize (w.alloc (.cells #[I .u8 kd,I J fr,Y al nl cl,I J ep,I J vi,I J pl,I J ec,I J en,Z eo,I J co,I J no,I J li,Y ag ng cg,Y ao no2 co2,Y aL nL cL] 68))=c at *;have A:=cell_regrown (show c.cell? ⟨w.heap.size,9,O⟩=some (I J co) by simp[World.cell?,b])
 have s:=cell_regrown (show c.cell? ⟨w.heap.size,14,O⟩=some (Y aL nL cL) by simp[World.cell?,b])
 have t:=fun d i=>Calls.regrown_of (o.out _ (f.below (below_regrown c d i)))
 have k:=fun d i=>Calls.regrown_of (p.out _ (f.below (below_regrown c d i)) (j.below (below_regrown c d i)))
 have B:¬9223372036854775807<1+dc.size:=by omega
 have C:¬9223372036854775807<1+dc.size+1:=by omega
 have D:¬9223372036854775807<1+dc.size+1+q.size:=by omega
 refine wp_region_quiet_below (by kernel_rfl) (by kernel_rfl) ?_
 repeat (quiet_step (first|exact t _ _|exact k _ _))
 refine wpQuiet_nil ?_;intro _ hw';obtain⟨⟨u,m⟩,g⟩:=hw'
 subst g;have v:=below_regrown c u m;go_wp2;go_ret;exact⟨by rw[n.out];rfl,a.trans (v.mono a.size)⟩
theorem Aa (kd:Int) (fr:Int) (ep:Int) (vi:Int) (pl:Int) (ec:Int) (en:Int) (co:Int) (no:Int) (li:Int) (eo:ByteArray) (al:Option Addr) (ag:Option Addr) (ao:Option Addr) (aL:Option Addr) (nl:Nat) (ng:Nat) (no2:Nat) (nL:Nat) (cl:Nat) (cg:Nat) (co2:Nat) (cL:Nat) (w:World) (hT:Tab w) (g o:List Int) (hg:Ints w (Y ag ng cg) g) (ho:Ints w (Y ao no2 co2) o) (hgl:g.length≤1000) (hol:o.length≤1000) (hgb:∀ x∈g,0≤x∧x≤999999999) (hob:∀ x∈o,0≤x∧x≤999999999) :
  Calls Tryz.prog 171 #[.agg #[I .u8 kd,I J fr,Y al nl cl,I J ep,I J vi,I J pl,I J ec,I J en,Z eo,I J co,I J no,I J li,Y ag ng cg,Y ao no2 co2,Y aL nL cL]] w fun e w'=>e=Zr (Z (o8 g o))∧Below w.heap.size w w':=by
 have v:Hid (o8 g o=⟨#[32]⟩++lC g++⟨#[32]⟩++mh o):=rfl
 have y:Hid (∀ w,Tab w→Ints w (Y ag ng cg) g→Calls Tryz.prog 180 #[Y ag ng cg] w fun e w'=>e=Zr (Z (lC g))∧Below w.heap.size w w'):=fun w h k=>tK _ g w h k hgl hgb
 have C:Hid (∀ w,Tab w→Ints w (Y ao no2 co2) o→Calls Tryz.prog 180 #[Y ao no2 co2] w fun e w'=>e=Zr (Z (lC o))∧Below w.heap.size w w'):=fun w h k=>tK _ o w h k hol hob
 have L:=rX hgl hgb;have M:=rX hol hob;obtain⟨_,_,d,_,_⟩:=ho.shape
 simp only[Value.slice.injEq] at d;have l:no2=o.length:=d.2.1
 clear d;subst l;have z:Hid (mh o=if o.length=0 then qG else lC o):=rfl
 have a:Below w.heap.size w (w.alloc (.cells #[I .u8 kd,I J fr,Y al nl cl,I J ep,I J vi,I J pl,I J ec,I J en,Z eo,I J co,I J no,I J li,Y ag ng cg,Y ao o.length co2,Y aL nL cL] 68)):=(Below.refl _ w).alloc (Nat.le_refl _) _
 have c:=heap_alloc_new w (.cells #[I .u8 kd,I J fr,Y al nl cl,I J ep,I J vi,I J pl,I J ec,I J en,Z eo,I J co,I J no,I J li,Y ag ng cg,Y ao o.length co2,Y aL nL cL] 68);have f:=hT.below a;have i:=hg.below a;have m:=ho.below a;generalize o8 g o=r at *;generalize mh o=N at *;generalize lC g=j at *;generalize lC o=D at *;by_cases n:o.length=0
 focus
  have E:¬(0:Int)<(o.length:Int):=by omega
  have F:Hid (o.length=0):=n
  clear n
 rotate_left
 focus
  have E:(0:Int)<(o.length:Int):=by omega
 rotate_left
 all_goals
  go_enter Tryz.func171,Tryz.ntmps171;go_wp2_with fail;generalize (w.alloc (.cells #[I .u8 kd,I J fr,Y al nl cl,I J ep,I J vi,I J pl,I J ec,I J en,Z eo,I J co,I J no,I J li,Y ag ng cg,Y ao o.length co2,Y aL nL cL] 68))=A at *;have q:A.cell? ⟨w.heap.size,12,O⟩=some (Y ag ng cg):=by simp[World.cell?,c]
  have G:A.cell? ⟨w.heap.size,13,O⟩=some (Y ao o.length co2):=by simp[World.cell?,c]
  have P:¬9223372036854775807<1+j.size:=by omega
  have Q:¬9223372036854775807<1+j.size+1:=by omega
 ·have H:¬9223372036854775807<1+j.size+1+1:=by omega
  go_wp2_with (first|(go_at_call 180;refine (y.out _ f i).mono ?_;rintro e B ⟨rfl,b⟩)|fail)
  go_ret;exact⟨by rw[v.out,z.out,if_pos F.out];rfl,a.trans (b.mono a.size)⟩
 ·have H:¬9223372036854775807<1+j.size+1+D.size:=by omega
  go_wp2_with fail;refine (C.out _ f m).mono ?_;rintro e B ⟨rfl,b⟩;have K:B.cell? ⟨w.heap.size,12,O⟩=some (Y ag ng cg):=(b.cell (p:=⟨w.heap.size,12,O⟩) (lt_of_block c)).trans q
  have s:=f.below b;have t:=i.below b;go_wp2_with (first|(go_at_call 180;refine (y.out _ s t).mono ?_;rintro e R ⟨rfl,u⟩)|fail)
  go_ret;exact⟨by rw[v.out,z.out,if_neg n];rfl,a.trans ((b.trans (u.mono b.size)).mono a.size)⟩
end
def jm (kd pl:Int) (en:Int×Int×ByteArray) (co no li:Int) (g o:List Int) (l:List (Int×Int×ByteArray)):ByteArray :=
 if (kd==112)=true then SP++dg pl++SP++iM en++SP++dg co else if (kd==107)=true then SP++dg pl else if (kd==99)=true then SP++dg co
 else if (kd==118)=true then SP++dg no++mD co l else if (kd==115)=true then o8 g o++mD co l else if (kd==97)=true then SP++dg li++o8 g o++mD co l else ⟨#[]⟩
theorem zL {co:Int} {l:List (Int×Int×ByteArray)} (hl:l.length≤1000) (hb:∀ x∈l,uJ x) (h:co≤999999999):(mD co l).size≤10000020:=by
 have:=yh hl hb
 have:=gu co h
 unfold mD;simp only[ByteArray.size_append];have:SP.size=1:=rfl
 omega
theorem zK {g o:List Int} (hgl:g.length≤1000) (hol:o.length≤1000) (hgb:∀ x∈g,0≤x∧x≤999999999) (hob:∀ x∈o,0≤x∧x≤999999999):(o8 g o).size≤20002:=by
 have:=rX hgl hgb
 have:=EW hol hob
 unfold o8;simp only[ByteArray.size_append];have:SP.size=1:=rfl
 omega
section
variable (kd fr ep vi pl ec en co no li:Int) (eo:ByteArray) (al ag ao aL:Option Addr) (nl ng no2 nL cl cg co2 cL:Nat) (w:World) (hT:Tab w) (lv g o:List Int) (l:List (Int×Int×ByteArray)) (hL:Ints w (Y al nl cl) lv) (hg:Ints w (Y ag ng cg) g) (ho:Ints w (Y ao no2 co2) o) (hv:iw w (Y aL nL cL) l) (hlvl:lv.length≤1000) (hgl:g.length≤1000) (hol:o.length≤1000) (hll:l.length≤1000) (hlb:∀ x∈lv,0≤x∧x≤999999999) (hgb:∀ x∈g,0≤x∧x≤999999999) (hob:∀ x∈o,0≤x∧x≤999999999) (hb:∀ x∈l,uJ x) (bpl:0≤pl∧pl≤999999999) (bco:0≤co∧co≤999999999) (bno:0≤no∧no≤999999999) (bli:0≤li∧li≤999999999) (ben:uJ (ec,en,eo)) (bfr:0≤fr∧fr≤999999999) (bep:0≤ep∧ep≤999999999) (bvi:0≤vi∧vi≤999999999) (bkd:0≤kd∧kd<128)
theorem Ma (kd:Int) (fr:Int) (ep:Int) (vi:Int) (pl:Int) (ec:Int) (en:Int) (co:Int) (no:Int) (li:Int) (eo:ByteArray) (al:Option Addr) (ag:Option Addr) (ao:Option Addr) (aL:Option Addr) (nl:Nat) (ng:Nat) (no2:Nat) (nL:Nat) (cl:Nat) (cg:Nat) (co2:Nat) (cL:Nat) (w:World) (hT:Tab w) (lv:List Int) (g:List Int) (o:List Int) (l:List (Int×Int×ByteArray)) (hL:Ints w (Y al nl cl) lv) (hg:Ints w (Y ag ng cg) g) (ho:Ints w (Y ao no2 co2) o) (hv:iw w (Y aL nL cL) l) (hlvl:lv.length≤1000) (hgl:g.length≤1000) (hol:o.length≤1000) (hll:l.length≤1000) (hlb:∀ x∈lv,0≤x∧x≤999999999) (hgb:∀ x∈g,0≤x∧x≤999999999) (hob:∀ x∈o,0≤x∧x≤999999999) (hb:∀ x∈l,uJ x) (bpl:0≤pl∧pl≤999999999) (bco:0≤co∧co≤999999999) (bno:0≤no∧no≤999999999) (bli:0≤li∧li≤999999999) (ben:uJ (ec,en,eo)) (bfr:0≤fr∧fr≤999999999) (bep:0≤ep∧ep≤999999999) (bvi:0≤vi∧vi≤999999999) (bkd:0≤kd∧kd<128):Calls Tryz.prog 160 #[.agg #[I .u8 kd,I J fr,Y al nl cl,I J ep,I J vi,I J pl,I J ec,I J en,Z eo,I J co,I J no,I J li,Y ag ng cg,Y ao no2 co2,Y aL nL cL]] w fun e w'=>e=Zr (Z (jm kd pl (ec,en,eo) co no li g o l))∧Below w.heap.size w w':=by
 have f:Hid (jm kd pl (ec,en,eo) co no li g o l=if (kd==112)=true then ⟨#[32]⟩++dg pl++⟨#[32]⟩++iM (ec,en,eo)++⟨#[32]⟩++dg co else if (kd==107)=true then ⟨#[32]⟩++dg pl else if (kd==99)=true then ⟨#[32]⟩++dg co
  else if (kd==118)=true then ⟨#[32]⟩++dg no++mD co l else if (kd==115)=true then o8 g o++mD co l else if (kd==97)=true then ⟨#[32]⟩++dg li++o8 g o++mD co l else ⟨#[]⟩):=rfl
 have y:Hid (∀ w,Tab w→Calls Tryz.prog 121 #[I J pl] w fun e w'=>e=Zr (Z (dg pl))∧Below w.heap.size w w'):=fun w h=>iK pl w h bpl.1 (by have:=bpl.2;omega)
 have z:Hid (∀ w,Tab w→Calls Tryz.prog 121 #[I J co] w fun e w'=>e=Zr (Z (dg co))∧Below w.heap.size w w'):=fun w h=>iK co w h bco.1 (by have:=bco.2;omega)
 have L:Hid (∀ w,Tab w→Calls Tryz.prog 121 #[I J no] w fun e w'=>e=Zr (Z (dg no))∧Below w.heap.size w w'):=fun w h=>iK no w h bno.1 (by have:=bno.2;omega)
 have M:Hid (∀ w,Tab w→Calls Tryz.prog 121 #[I J li] w fun e w'=>e=Zr (Z (dg li))∧Below w.heap.size w w'):=fun w h=>iK li w h bli.1 (by have:=bli.2;omega)
 have N:Hid (∀ w,Tab w→Calls Tryz.prog 169 #[.agg #[I J ec,I J en,Z eo]] w fun e w'=>e=Zr (Z (iM (ec,en,eo)))∧Below w.heap.size w w'):=fun w h=>tJ ec en eo w h ben.1 ben.2.1 ben.2.2.1 ben.2.2.2.1 (by have:=ben.2.2.2.2;simp only at this;omega)
 have p:Hid (∀ w,Tab w→iw w (Y aL nL cL) l→Calls Tryz.prog 170 #[.agg #[I .u8 kd,I J fr,Y al nl cl,I J ep,I J vi,I J pl,I J ec,I J en,Z eo,I J co,I J no,I J li,Y ag ng cg,Y ao no2 co2,Y aL nL cL]] w fun e w'=>e=Zr (Z (mD co l))∧Below w.heap.size w w'):=fun w h hv=>yE kd fr ep vi pl ec en co no li eo al ag ao aL nl ng no2 nL cl cg co2 cL w h l hv hll hb bco.1 bco.2
 have A:Hid (∀ w,Tab w→Ints w (Y ag ng cg) g→Ints w (Y ao no2 co2) o→Calls Tryz.prog 171 #[.agg #[I .u8 kd,I J fr,Y al nl cl,I J ep,I J vi,I J pl,I J ec,I J en,Z eo,I J co,I J no,I J li,Y ag ng cg,Y ao no2 co2,Y aL nL cL]] w fun e w'=>e=Zr (Z (o8 g o))∧Below w.heap.size w w'):=fun w h hg ho=>Aa kd fr ep vi pl ec en co no li eo al ag ao aL nl ng no2 nL cl cg co2 cL w h g o hg ho hgl hol hgb hob
 have s1:=gu pl bpl.2;have s2:=gu co bco.2;have s3:=gu no bno.2;have s4:=gu li bli.2;have s5:=oV ben;have s6:=zL hll hb bco.2;have s7:=zK hgl hol hgb hob;have c:Below w.heap.size w (w.alloc (.cells #[I .u8 kd,I J fr,Y al nl cl,I J ep,I J vi,I J pl,I J ec,I J en,Z eo,I J co,I J no,I J li,Y ag ng cg,Y ao no2 co2,Y aL nL cL] 68)):=(Below.refl _ w).alloc (Nat.le_refl _) _
 have a:=heap_alloc_new w (.cells #[I .u8 kd,I J fr,Y al nl cl,I J ep,I J vi,I J pl,I J ec,I J en,Z eo,I J co,I J no,I J li,Y ag ng cg,Y ao no2 co2,Y aL nL cL] 68);have j:=hT.below c;have q:=hv.below c;have B:=hg.below c;have C:=ho.below c;clear hL hg ho hv hlvl hgl hol hll hlb hgb hob hb bpl bco bno bli ben bfr bep bvi;generalize jm kd pl (ec,en,eo) co no li g o l=r at *;generalize dg pl=v at *;generalize dg co=dc at *;generalize dg no=dn at *;generalize dg li=P at *;generalize iM (ec,en,eo)=Q at *;generalize mD co l=R at *;generalize o8 g o=S at *;cases q112:(kd==112)
 rotate_left
 ·rw[q112] at f;simp only[if_true] at f;go_enter Tryz.func160,Tryz.ntmps160;go_wp2_with fail;generalize (w.alloc (.cells #[I .u8 kd,I J fr,Y al nl cl,I J ep,I J vi,I J pl,I J ec,I J en,Z eo,I J co,I J no,I J li,Y ag ng cg,Y ao no2 co2,Y aL nL cL] 68))=b at *;have T:=cell_regrown (show b.cell? ⟨w.heap.size,5,O⟩=some (I J pl) by simp[World.cell?,a])
  have U:=cell_regrown (show b.cell? ⟨w.heap.size,6,O⟩=some (I J ec) by simp[World.cell?,a])
  have V:=cell_regrown (show b.cell? ⟨w.heap.size,7,O⟩=some (I J en) by simp[World.cell?,a])
  have W:=cell_regrown (show b.cell? ⟨w.heap.size,8,O⟩=some (Z eo) by simp[World.cell?,a])
  have X:=cell_regrown (show b.cell? ⟨w.heap.size,9,O⟩=some (I J co) by simp[World.cell?,a])
  have cP:=fun d i=>Calls.regrown_of (y.out _ (j.below (below_regrown b d i)))
  have cE:=fun d i=>Calls.regrown_of (N.out _ (j.below (below_regrown b d i)))
  have cC:=fun d i=>Calls.regrown_of (z.out _ (j.below (below_regrown b d i)))
  have D:¬9223372036854775807<1+v.size:=by omega
  have z2:¬9223372036854775807<1+v.size+1:=by omega
  have z3:¬9223372036854775807<1+v.size+1+Q.size:=by omega
  have z4:¬9223372036854775807<1+v.size+1+Q.size+1:=by omega
  have z5:¬9223372036854775807<1+v.size+1+Q.size+1+dc.size:=by omega
  refine wp_region_quiet_below (by kernel_rfl) (by kernel_rfl) ?_
  repeat (quiet_step (first|exact cP _ _|exact cE _ _|exact cC _ _))
  refine wpQuiet_nil ?_;intro _ hw';obtain⟨⟨s,m⟩,k⟩:=hw'
  subst k;have t:=below_regrown b s m;go_wp2;go_ret;exact⟨by rw[f.out];rfl,c.trans (t.mono c.size)⟩
 rw[q112] at f;simp only[Bool.false_eq_true,if_false] at f;cases q107:(kd==107)
 rotate_left
 ·rw[q107] at f;simp only[if_true] at f;have D:¬9223372036854775807<1+v.size:=by omega
  go_enter Tryz.func160,Tryz.ntmps160;go_wp2_with fail;generalize (w.alloc (.cells #[I .u8 kd,I J fr,Y al nl cl,I J ep,I J vi,I J pl,I J ec,I J en,Z eo,I J co,I J no,I J li,Y ag ng cg,Y ao no2 co2,Y aL nL cL] 68))=b at *;refine (y.out _ j).mono ?_;rintro e w1 ⟨rfl,u⟩;go_wp2;go_ret;exact⟨by rw[f.out];rfl,c.trans (u.mono c.size)⟩
 rw[q107] at f;simp only[Bool.false_eq_true,if_false] at f;cases q99:(kd==99)
 rotate_left
 ·rw[q99] at f;simp only[if_true] at f;have D:¬9223372036854775807<1+dc.size:=by omega
  go_enter Tryz.func160,Tryz.ntmps160;go_wp2_with fail;generalize (w.alloc (.cells #[I .u8 kd,I J fr,Y al nl cl,I J ep,I J vi,I J pl,I J ec,I J en,Z eo,I J co,I J no,I J li,Y ag ng cg,Y ao no2 co2,Y aL nL cL] 68))=b at *;refine (z.out _ j).mono ?_;rintro e w1 ⟨rfl,u⟩;go_wp2;go_ret;exact⟨by rw[f.out];rfl,c.trans (u.mono c.size)⟩
 rw[q99] at f;simp only[Bool.false_eq_true,if_false] at f;cases q118:(kd==118)
 rotate_left
 ·rw[q118] at f;simp only[if_true] at f;go_enter Tryz.func160,Tryz.ntmps160;go_wp2_with fail;generalize (w.alloc (.cells #[I .u8 kd,I J fr,Y al nl cl,I J ep,I J vi,I J pl,I J ec,I J en,Z eo,I J co,I J no,I J li,Y ag ng cg,Y ao no2 co2,Y aL nL cL] 68))=b at *;have k0:=cell_regrown (show b.cell? ⟨w.heap.size,0,O⟩=some (I .u8 kd) by simp[World.cell?,a])
  have k1:=cell_regrown (show b.cell? ⟨w.heap.size,1,O⟩=some (I J fr) by simp[World.cell?,a])
  have k2:=cell_regrown (show b.cell? ⟨w.heap.size,2,O⟩=some (Y al nl cl) by simp[World.cell?,a])
  have k3:=cell_regrown (show b.cell? ⟨w.heap.size,3,O⟩=some (I J ep) by simp[World.cell?,a])
  have k4:=cell_regrown (show b.cell? ⟨w.heap.size,4,O⟩=some (I J vi) by simp[World.cell?,a])
  have T:=cell_regrown (show b.cell? ⟨w.heap.size,5,O⟩=some (I J pl) by simp[World.cell?,a])
  have U:=cell_regrown (show b.cell? ⟨w.heap.size,6,O⟩=some (I J ec) by simp[World.cell?,a])
  have V:=cell_regrown (show b.cell? ⟨w.heap.size,7,O⟩=some (I J en) by simp[World.cell?,a])
  have W:=cell_regrown (show b.cell? ⟨w.heap.size,8,O⟩=some (Z eo) by simp[World.cell?,a])
  have X:=cell_regrown (show b.cell? ⟨w.heap.size,9,O⟩=some (I J co) by simp[World.cell?,a])
  have E:=cell_regrown (show b.cell? ⟨w.heap.size,10,O⟩=some (I J no) by simp[World.cell?,a])
  have F:=cell_regrown (show b.cell? ⟨w.heap.size,11,O⟩=some (I J li) by simp[World.cell?,a])
  have G:=cell_regrown (show b.cell? ⟨w.heap.size,12,O⟩=some (Y ag ng cg) by simp[World.cell?,a])
  have H:=cell_regrown (show b.cell? ⟨w.heap.size,13,O⟩=some (Y ao no2 co2) by simp[World.cell?,a])
  have K:=cell_regrown (show b.cell? ⟨w.heap.size,14,O⟩=some (Y aL nL cL) by simp[World.cell?,a])
  have cN:=fun d i=>Calls.regrown_of (L.out _ (j.below (below_regrown b d i)))
  have n:=fun d i=>Calls.regrown_of (p.out _ (j.below (below_regrown b d i)) (q.below (below_regrown b d i)))
  have D:¬9223372036854775807<1+dn.size:=by omega
  have z2:¬9223372036854775807<1+dn.size+R.size:=by omega
  refine wp_region_quiet_below (by kernel_rfl) (by kernel_rfl) ?_
  repeat (quiet_step (first|exact cN _ _|exact n _ _))
  refine wpQuiet_nil ?_;intro _ hw';obtain⟨⟨s,m⟩,k⟩:=hw'
  subst k;have t:=below_regrown b s m;go_wp2;go_ret;exact⟨by rw[f.out];rfl,c.trans (t.mono c.size)⟩
 rw[q118] at f;simp only[Bool.false_eq_true,if_false] at f;cases q115:(kd==115)
 rotate_left
 ·rw[q115] at f;simp only[if_true] at f;go_enter Tryz.func160,Tryz.ntmps160;go_wp2_with fail;generalize (w.alloc (.cells #[I .u8 kd,I J fr,Y al nl cl,I J ep,I J vi,I J pl,I J ec,I J en,Z eo,I J co,I J no,I J li,Y ag ng cg,Y ao no2 co2,Y aL nL cL] 68))=b at *;have k0:=cell_regrown (show b.cell? ⟨w.heap.size,0,O⟩=some (I .u8 kd) by simp[World.cell?,a])
  have k1:=cell_regrown (show b.cell? ⟨w.heap.size,1,O⟩=some (I J fr) by simp[World.cell?,a])
  have k2:=cell_regrown (show b.cell? ⟨w.heap.size,2,O⟩=some (Y al nl cl) by simp[World.cell?,a])
  have k3:=cell_regrown (show b.cell? ⟨w.heap.size,3,O⟩=some (I J ep) by simp[World.cell?,a])
  have k4:=cell_regrown (show b.cell? ⟨w.heap.size,4,O⟩=some (I J vi) by simp[World.cell?,a])
  have T:=cell_regrown (show b.cell? ⟨w.heap.size,5,O⟩=some (I J pl) by simp[World.cell?,a])
  have U:=cell_regrown (show b.cell? ⟨w.heap.size,6,O⟩=some (I J ec) by simp[World.cell?,a])
  have V:=cell_regrown (show b.cell? ⟨w.heap.size,7,O⟩=some (I J en) by simp[World.cell?,a])
  have W:=cell_regrown (show b.cell? ⟨w.heap.size,8,O⟩=some (Z eo) by simp[World.cell?,a])
  have X:=cell_regrown (show b.cell? ⟨w.heap.size,9,O⟩=some (I J co) by simp[World.cell?,a])
  have E:=cell_regrown (show b.cell? ⟨w.heap.size,10,O⟩=some (I J no) by simp[World.cell?,a])
  have F:=cell_regrown (show b.cell? ⟨w.heap.size,11,O⟩=some (I J li) by simp[World.cell?,a])
  have G:=cell_regrown (show b.cell? ⟨w.heap.size,12,O⟩=some (Y ag ng cg) by simp[World.cell?,a])
  have H:=cell_regrown (show b.cell? ⟨w.heap.size,13,O⟩=some (Y ao no2 co2) by simp[World.cell?,a])
  have K:=cell_regrown (show b.cell? ⟨w.heap.size,14,O⟩=some (Y aL nL cL) by simp[World.cell?,a])
  have cG:=fun d i=>Calls.regrown_of (A.out _ (j.below (below_regrown b d i)) (B.below (below_regrown b d i)) (C.below (below_regrown b d i)))
  have n:=fun d i=>Calls.regrown_of (p.out _ (j.below (below_regrown b d i)) (q.below (below_regrown b d i)))
  have D:¬9223372036854775807<S.size+R.size:=by omega
  refine wp_region_quiet_below (by kernel_rfl) (by kernel_rfl) ?_
  repeat (quiet_step (first|exact cG _ _|exact n _ _))
  refine wpQuiet_nil ?_;intro _ hw';obtain⟨⟨s,m⟩,k⟩:=hw'
  subst k;have t:=below_regrown b s m;go_wp2;go_ret;exact⟨by rw[f.out];rfl,c.trans (t.mono c.size)⟩
 rw[q115] at f;simp only[Bool.false_eq_true,if_false] at f;cases q97:(kd==97)
 rotate_left
 ·rw[q97] at f;simp only[if_true] at f;go_enter Tryz.func160,Tryz.ntmps160;go_wp2_with fail;generalize (w.alloc (.cells #[I .u8 kd,I J fr,Y al nl cl,I J ep,I J vi,I J pl,I J ec,I J en,Z eo,I J co,I J no,I J li,Y ag ng cg,Y ao no2 co2,Y aL nL cL] 68))=b at *;have k0:=cell_regrown (show b.cell? ⟨w.heap.size,0,O⟩=some (I .u8 kd) by simp[World.cell?,a])
  have k1:=cell_regrown (show b.cell? ⟨w.heap.size,1,O⟩=some (I J fr) by simp[World.cell?,a])
  have k2:=cell_regrown (show b.cell? ⟨w.heap.size,2,O⟩=some (Y al nl cl) by simp[World.cell?,a])
  have k3:=cell_regrown (show b.cell? ⟨w.heap.size,3,O⟩=some (I J ep) by simp[World.cell?,a])
  have k4:=cell_regrown (show b.cell? ⟨w.heap.size,4,O⟩=some (I J vi) by simp[World.cell?,a])
  have T:=cell_regrown (show b.cell? ⟨w.heap.size,5,O⟩=some (I J pl) by simp[World.cell?,a])
  have U:=cell_regrown (show b.cell? ⟨w.heap.size,6,O⟩=some (I J ec) by simp[World.cell?,a])
  have V:=cell_regrown (show b.cell? ⟨w.heap.size,7,O⟩=some (I J en) by simp[World.cell?,a])
  have W:=cell_regrown (show b.cell? ⟨w.heap.size,8,O⟩=some (Z eo) by simp[World.cell?,a])
  have X:=cell_regrown (show b.cell? ⟨w.heap.size,9,O⟩=some (I J co) by simp[World.cell?,a])
  have E:=cell_regrown (show b.cell? ⟨w.heap.size,10,O⟩=some (I J no) by simp[World.cell?,a])
  have F:=cell_regrown (show b.cell? ⟨w.heap.size,11,O⟩=some (I J li) by simp[World.cell?,a])
  have G:=cell_regrown (show b.cell? ⟨w.heap.size,12,O⟩=some (Y ag ng cg) by simp[World.cell?,a])
  have H:=cell_regrown (show b.cell? ⟨w.heap.size,13,O⟩=some (Y ao no2 co2) by simp[World.cell?,a])
  have K:=cell_regrown (show b.cell? ⟨w.heap.size,14,O⟩=some (Y aL nL cL) by simp[World.cell?,a])
  have cI:=fun d i=>Calls.regrown_of (M.out _ (j.below (below_regrown b d i)))
  have cG:=fun d i=>Calls.regrown_of (A.out _ (j.below (below_regrown b d i)) (B.below (below_regrown b d i)) (C.below (below_regrown b d i)))
  have n:=fun d i=>Calls.regrown_of (p.out _ (j.below (below_regrown b d i)) (q.below (below_regrown b d i)))
  have D:¬9223372036854775807<1+P.size:=by omega
  have z2:¬9223372036854775807<1+P.size+S.size:=by omega
  have z3:¬9223372036854775807<1+P.size+S.size+R.size:=by omega
  refine wp_region_quiet_below (by kernel_rfl) (by kernel_rfl) ?_
  repeat (quiet_step (first|exact cI _ _|exact cG _ _|exact n _ _))
  refine wpQuiet_nil ?_;intro _ hw';obtain⟨⟨s,m⟩,k⟩:=hw'
  subst k;have t:=below_regrown b s m;go_wp2;go_ret;exact⟨by rw[f.out];rfl,c.trans (t.mono c.size)⟩
 rw[q97] at f;simp only[Bool.false_eq_true,if_false] at f;go_enter Tryz.func160,Tryz.ntmps160;go_wp2;go_ret;exact⟨by rw[f.out];rfl,c⟩
end
end Go.Proofs.YtinaollfjiddmaaGreatDoor
