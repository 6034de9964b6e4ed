import Derived.Test.YtbnihoahhomooaaGreatDoorA02
set_option maxRecDepth 100000
set_option maxHeartbeats 8000000
set_option linter.all false
namespace Go.Proofs.YtbnihoahhomooaaGreatDoor
open Go.Value renaming int→I,slice→Y,string→Z,pointer→Zp
open Go.Ending renaming returned→Zr
open _root_.ByteArray renaming empty→Ze
open Go.IntKind renaming i64→J
open Option renaming none→O
open Go.RowKit
def gW (w:World) (v:Value) (l:List (Int×Int×ByteArray)):Prop:=Rd w 3 v l.length (aA l)
theorem gW.below {w w':World} {v:Value} {l:List (Int×Int×ByteArray)} (h:gW w v l) (hb:Below w.heap.size w w'):gW w' v l:=Rd.below h hb
theorem uy:∀ (l:List (Int×Int×ByteArray)) (k:Nat) (h:k<l.length),(aA l)[3*k]? = some (I J l[k].1)∧(aA l)[3*k+1]? = some (I J l[k].2.1)∧(aA l)[3*k+2]? = some (Z l[k].2.2)
 | a :: l,0,_=>⟨rfl,rfl,rfl⟩
 | a :: l,k+1,h=>by
  have:=uy l k (by simpa using h)
  simp only[List.getElem_cons_succ];exact this
theorem gW.get {w:World} {a:Option Addr} {n cap:Nat} {l:List (Int×Int×ByteArray)} (h:gW w (Y a n cap) l) (k:Nat) (hk:k<l.length) :
  ∃ b off,a=some ⟨b,off,O⟩∧b<w.heap.size∧w.cell? ⟨b,off+k*3,O⟩=some (I J l[k].1)∧w.cell? ⟨b,off+k*3+1,O⟩=some (I J l[k].2.1)∧w.cell? ⟨b,off+k*3+2,O⟩=some (Z l[k].2.2):=by
 obtain⟨q0,q1,q2⟩:=uy l k hk
 rcases h.2 with ⟨h1,h2⟩|⟨b,off,cap',h1,_,_,hb,hc⟩
 ·omega
 ·simp only[Value.slice.injEq] at h1;obtain⟨rfl,rfl,rfl⟩:=h1
  refine⟨b,off,rfl,hb,?_,?_,?_⟩
  ·have:=hc _ _ q0;rwa [show off+3*k=off+k*3 by omega] at this
  ·have:=hc _ _ q1;rwa [show off+(3*k+1)=off+k*3+1 by omega] at this
  ·have:=hc _ _ q2;rwa [show off+(3*k+2)=off+k*3+2 by omega] at this
theorem gW.shape {w:World} {v:Value} {l:List (Int×Int×ByteArray)} (h:gW w v l):∃ a cap,v=Y a l.length cap∧l.length≤cap∧cap≤9223372036854775807:=by
 obtain⟨a,cap,rfl,hn,hm,_⟩:=Rd.form h
 exact⟨a,cap,rfl,hn,by unfold maxLen at hm;omega⟩
def tY (e:Int×Int×ByteArray):Prop:=0≤e.1∧e.1≤999999999∧0≤e.2.1∧e.2.1≤999999999∧e.2.2.size≤1000
def fP (l:List (Int×Int×ByteArray)):ByteArray:=if l.length=0 then ql else qd (l.map iA) SLASH
theorem oF {e:Int×Int×ByteArray} (h:tY e):(iA e).size≤1022:=by
 have b1:=fO e.1 h.2.1;have b2:=fO e.2.1 h.2.2.2.1;have b3:=h.2.2.2.2;unfold iA;simp only[ByteArray.size_append];have:DOT.size=1:=rfl
 omega
theorem Eu (v:Value) (l:List (Int×Int×ByteArray)) (w:World) (hT:Tab w) (hv:gW w v l) (hl:l.length≤1000) (hb:∀ x∈l,tY x) :
  Calls Tryz.prog 180 #[v] w fun e w'=>e=Zr (Z (fP l))∧Below w.heap.size w w':=by
 obtain⟨a,cap,rfl,hcap,hm⟩:=hv.shape
 have HI:Hid (∀ x∈l,∀ w,Tab w→Calls Tryz.prog 170 #[.agg #[I J x.1,I J x.2.1,Z x.2.2]] w fun e w'=>e=Zr (Z (iA x))∧Below w.heap.size w w'):=fun x hx w h=>by
  have q:=hb x hx;exact sO x.1 x.2.1 x.2.2 w h q.1 q.2.1 q.2.2.1 q.2.2.2.1 (by have:=q.2.2.2.2;omega)
 by_cases h0:l.length=0
 ·have HL:Hid (fP l=ql):=by unfold fP Hid;rw[if_pos h0]
  have h0':((l.length:Int)==0)=true:=beq_iff_eq.2 (by omega)
  go_enter Tryz.func180,Tryz.ntmps180;go_wp2;go_ret;exact⟨jF (by rw[HL.out];rfl),Below.refl _ _⟩
 ·have hsz:=nH (l.map iA) SLASH 1022 (by intro t ht;rw[List.mem_map] at ht;obtain⟨x,hx,rfl⟩:=ht;exact oF (hb x hx))
  have hdz:SLASH.size=1:=rfl
  have HL:Hid (fP l=fG (l.map iA) SLASH l.length):=by unfold fP qd Hid;rw[if_neg h0,List.length_map]
  have h0':((l.length:Int)==0)=false:=by simp;intro hc;rw[hc] at h0;simp at h0
  go_enter Tryz.func180,Tryz.ntmps180;go_wp2_with fail;go_loopw [3,4] (fun t i wr=>∃ k:Nat,k≤l.length∧i=I J k∧t=Z (fG (l.map iA) SLASH k)∧Below w.heap.size w wr) (fun _ i _=>l.length-(intOf i).toNat)
  case atStart=>exact⟨0,Nat.zero_le _,rfl,rfl,Below.refl _ _⟩
  case round =>
   obtain⟨k,hk,rfl,rfl,hbw⟩:=hrel
   by_cases hlt:k<l.length
   ·obtain⟨b,off,rfl,hbs,hc0,hc1,hc2⟩:=(hv.below hbw).get k hlt
    have hs:=hsz k;rw[hdz] at hs;have hd:=oF (hb _ (List.getElem_mem hlt));have hTr:=hT.below hbw;have HIk:Hid (∀ w,Tab w→Calls Tryz.prog 170 #[.agg #[I J l[k].1,I J l[k].2.1,Z l[k].2.2]] w fun e w'=>e=Zr (Z (iA l[k]))∧Below w.heap.size w w'):=HI.out _ (List.getElem_mem _)
    have HH:Hid (fG (l.map iA) SLASH (k+1)=(if 0<k then fG (l.map iA) SLASH k++⟨#[47]⟩ else fG (l.map iA) SLASH k)++iA l[k]):=by
     have e:(l.map iA).getD k Ze=iA l[k]:=by rw[List.getD,List.getElem?_map,List.getElem?_eq_getElem hlt];rfl
     unfold Hid;rw[fG,e];rfl
    have hkm:k*1023≤1023000:=by omega
    clear hsz HI hdz;generalize iA l[k]=d at *;generalize hg:fG (l.map iA) SLASH k=g at *;clear hg;by_cases hk0:0<k
    ·have n1:¬9223372036854775807<g.size+1:=by omega
     have n2:¬9223372036854775807<g.size+1+d.size:=by omega
     go_wp2_with (first|(go_at_call 170;refine (HIk.out _ hTr).mono ?_;rintro e w1 ⟨rfl,hb1⟩)|fail)
     go_roundw
     case rel=>exact⟨k+1,by omega,by go_num,by rw[HH.out,if_pos hk0],hbw.trans (hb1.mono hbw.size)⟩
     case measure=>simp[intOf];omega
    ·have n2:¬9223372036854775807<g.size+d.size:=by omega
     go_wp2_with (first|(go_at_call 170;refine (HIk.out _ hTr).mono ?_;rintro e w1 ⟨rfl,hb1⟩)|fail)
     go_roundw
     case rel=>exact⟨k+1,by omega,by go_num,by rw[HH.out,if_neg hk0],hbw.trans (hb1.mono hbw.size)⟩
     case measure=>simp[intOf];omega
   ·have hke:k=l.length:=by omega
    subst hke;go_wp2;go_ret;exact⟨jF (by rw[HL.out]),hbw⟩
def lK (co:Int) (l:List (Int×Int×ByteArray)):ByteArray:=SP++dg co++SP++fP l
def jP (l:List Int):ByteArray:=if l.length=0 then ql else jJ l
def oG (g o:List Int):ByteArray:=SP++jJ g++SP++jP o
theorem xJ {l:List (Int×Int×ByteArray)} (hl:l.length≤1000) (hb:∀ x∈l,tY x):(fP l).size≤10000000:=by
 unfold fP
 split
 ·decide
 ·have hsz:=nH (l.map iA) SLASH 1022 (by intro t ht;rw[List.mem_map] at ht;obtain⟨x,hx,rfl⟩:=ht;exact oF (hb x hx)) l.length
  unfold qd;rw[List.length_map];have hdz:SLASH.size=1:=rfl
  rw[hdz] at hsz;omega
theorem qZ {l:List Int} (hl:l.length≤1000) (hb:∀ x∈l,0≤x∧x≤999999999):(jJ l).size≤10000:=by
 have:=yR l (fun x hx=>(hb x hx).2) l.length
 unfold jJ;omega
theorem Jr {l:List Int} (hl:l.length≤1000) (hb:∀ x∈l,0≤x∧x≤999999999):(gQ l).size≤11000:=by
 have hsz:=nH (l.map dg) DOT 10 (by intro t ht;rw[List.mem_map] at ht;obtain⟨x,hx,rfl⟩:=ht;exact fO x (hb x hx).2) l.length
 unfold gQ qd;rw[List.length_map];have hdz:DOT.size=1:=rfl
 rw[hdz] at hsz;omega
theorem EB {l:List Int} (hl:l.length≤1000) (hb:∀ x∈l,0≤x∧x≤999999999):(jP l).size≤10000:=by
 unfold jP
 split
 ·decide
 ·exact qZ hl hb
section
variable (kd fr ep vi pl ec en co no li:Int) (eo:ByteArray) (al ag ao aL:Option Addr) (nl ng no2 nL cl cg co2 cL:Nat) (w:World) (hT:Tab w)
theorem xV (kd:Int) (fr:Int) (ep:Int) (vi:Int) (pl:Int) (ec:Int) (en:Int) (co:Int) (no:Int) (li:Int) (eo:ByteArray) (al:Option Addr) (ag:Option Addr) (ao:Option Addr) (aL:Option Addr) (nl:Nat) (ng:Nat) (no2:Nat) (nL:Nat) (cl:Nat) (cg:Nat) (co2:Nat) (cL:Nat) (w:World) (hT:Tab w) (l:List (Int×Int×ByteArray)) (hv:gW w (Y aL nL cL) l) (hl:l.length≤1000) (hb:∀ x∈l,tY x) (h0:0≤co) (h1:co≤999999999) :
  Calls Tryz.prog 171 #[.agg #[I .u8 kd,I J fr,Y al nl cl,I J ep,I J vi,I J pl,I J ec,I J en,Z eo,I J co,I J no,I J li,Y ag ng cg,Y ao no2 co2,Y aL nL cL]] w fun e w'=>e=Zr (Z (lK co l))∧Below w.heap.size w w':=by
 have HE:Hid (lK co l=⟨#[32]⟩++dg co++⟨#[32]⟩++fP l):=rfl
 have HI:Hid (∀ w,Tab w→Calls Tryz.prog 122 #[I J co] w fun e w'=>e=Zr (Z (dg co))∧Below w.heap.size w w'):=fun w h=>iq co w h h0 (by omega)
 have HL:Hid (∀ w,Tab w→gW w (Y aL nL cL) l→Calls Tryz.prog 180 #[Y aL nL cL] w fun e w'=>e=Zr (Z (fP l))∧Below w.heap.size w w'):=fun w h hv=>Eu _ l w h hv hl hb
 have s1:=fO co h1;have s2:=xJ hl hb;have hbA:Below w.heap.size w (w.alloc (.cells #[I .u8 kd,I J fr,Y al nl cl,I J ep,I J vi,I J pl,I J ec,I J en,Z eo,I J co,I J no,I J li,Y ag ng cg,Y ao no2 co2,Y aL nL cL] 68)):=(Below.refl _ w).alloc (Nat.le_refl _) _
 have hnew:=heap_alloc_new w (.cells #[I .u8 kd,I J fr,Y al nl cl,I J ep,I J vi,I J pl,I J ec,I J en,Z eo,I J co,I J no,I J li,Y ag ng cg,Y ao no2 co2,Y aL nL cL] 68);have hTA:=hT.below hbA;have hvA:=hv.below hbA;generalize lK co l=r at *;generalize dg co=dc at *;generalize fP l=tl at *;go_enter Tryz.func171,Tryz.ntmps171;go_wp2_with fail;generalize (w.alloc (.cells #[I .u8 kd,I J fr,Y al nl cl,I J ep,I J vi,I J pl,I J ec,I J en,Z eo,I J co,I J no,I J li,Y ag ng cg,Y ao no2 co2,Y aL nL cL] 68))=wA at *;have k9:=cell_regrown (show wA.cell? ⟨w.heap.size,9,O⟩=some (I J co) by simp[World.cell?,hnew])
 have k14:=cell_regrown (show wA.cell? ⟨w.heap.size,14,O⟩=some (Y aL nL cL) by simp[World.cell?,hnew])
 have cC:=fun d os=>Calls.regrown_of (HI.out _ (hTA.below (below_regrown wA d os)))
 have cL':=fun d os=>Calls.regrown_of (HL.out _ (hTA.below (below_regrown wA d os)) (hvA.below (below_regrown wA d os)))
 have n1:¬9223372036854775807<1+dc.size:=by omega
 have n2:¬9223372036854775807<1+dc.size+1:=by omega
 have n3:¬9223372036854775807<1+dc.size+1+tl.size:=by omega
 refine wp_region_quiet_below (by kernel_rfl) (by kernel_rfl) ?_
 repeat (quiet_step (first|exact cC _ _|exact cL' _ _))
 refine wpQuiet_nil ?_;intro _ hw';obtain⟨⟨dq,osq⟩,hw''⟩:=hw'
 subst hw'';have hq:=below_regrown wA dq osq;go_wp2;go_ret;exact⟨by rw[HE.out];rfl,hbA.trans (hq.mono hbA.size)⟩
theorem zQ (kd:Int) (fr:Int) (ep:Int) (vi:Int) (pl:Int) (ec:Int) (en:Int) (co:Int) (no:Int) (li:Int) (eo:ByteArray) (al:Option Addr) (ag:Option Addr) (ao:Option Addr) (aL:Option Addr) (nl:Nat) (ng:Nat) (no2:Nat) (nL:Nat) (cl:Nat) (cg:Nat) (co2:Nat) (cL:Nat) (w:World) (hT:Tab w) (g o:List Int) (hg:Ints w (Y ag ng cg) g) (ho:Ints w (Y ao no2 co2) o) (hgl:g.length≤1000) (hol:o.length≤1000) (hgb:∀ x∈g,0≤x∧x≤999999999) (hob:∀ x∈o,0≤x∧x≤999999999) :
  Calls Tryz.prog 172 #[.agg #[I .u8 kd,I J fr,Y al nl cl,I J ep,I J vi,I J pl,I J ec,I J en,Z eo,I J co,I J no,I J li,Y ag ng cg,Y ao no2 co2,Y aL nL cL]] w fun e w'=>e=Zr (Z (oG g o))∧Below w.heap.size w w':=by
 have HE:Hid (oG g o=⟨#[32]⟩++jJ g++⟨#[32]⟩++jP o):=rfl
 have HG:Hid (∀ w,Tab w→Ints w (Y ag ng cg) g→Calls Tryz.prog 181 #[Y ag ng cg] w fun e w'=>e=Zr (Z (jJ g))∧Below w.heap.size w w'):=fun w h hv=>sP _ g w h hv hgl hgb
 have HO:Hid (∀ w,Tab w→Ints w (Y ao no2 co2) o→Calls Tryz.prog 181 #[Y ao no2 co2] w fun e w'=>e=Zr (Z (jJ o))∧Below w.heap.size w w'):=fun w h hv=>sP _ o w h hv hol hob
 have s1:=qZ hgl hgb;have s2:=qZ hol hob;obtain⟨_,_,hsh,_,_⟩:=ho.shape
 simp only[Value.slice.injEq] at hsh;have hno:no2=o.length:=hsh.2.1
 clear hsh;subst hno;have HT:Hid (jP o=if o.length=0 then ql else jJ o):=rfl
 have hbA:Below w.heap.size w (w.alloc (.cells #[I .u8 kd,I J fr,Y al nl cl,I J ep,I J vi,I J pl,I J ec,I J en,Z eo,I J co,I J no,I J li,Y ag ng cg,Y ao o.length co2,Y aL nL cL] 68)):=(Below.refl _ w).alloc (Nat.le_refl _) _
 have hnew:=heap_alloc_new w (.cells #[I .u8 kd,I J fr,Y al nl cl,I J ep,I J vi,I J pl,I J ec,I J en,Z eo,I J co,I J no,I J li,Y ag ng cg,Y ao o.length co2,Y aL nL cL] 68);have hTA:=hT.below hbA;have hgA:=hg.below hbA;have hoA:=ho.below hbA;generalize oG g o=r at *;generalize jP o=tt at *;generalize jJ g=tg at *;generalize jJ o=tc at *;by_cases hz:o.length=0
 focus
  have h0:¬(0:Int)<(o.length:Int):=by omega
  have HZ:Hid (o.length=0):=hz
  clear hz
 rotate_left
 focus
  have h0:(0:Int)<(o.length:Int):=by omega
 rotate_left
 all_goals
  go_enter Tryz.func172,Tryz.ntmps172;go_wp2_with fail;generalize (w.alloc (.cells #[I .u8 kd,I J fr,Y al nl cl,I J ep,I J vi,I J pl,I J ec,I J en,Z eo,I J co,I J no,I J li,Y ag ng cg,Y ao o.length co2,Y aL nL cL] 68))=wA at *;have c12:wA.cell? ⟨w.heap.size,12,O⟩=some (Y ag ng cg):=by simp[World.cell?,hnew]
  have c13:wA.cell? ⟨w.heap.size,13,O⟩=some (Y ao o.length co2):=by simp[World.cell?,hnew]
  have n1:¬9223372036854775807<1+tg.size:=by omega
  have n2:¬9223372036854775807<1+tg.size+1:=by omega
 ·have n3:¬9223372036854775807<1+tg.size+1+1:=by omega
  go_wp2_with (first|(go_at_call 181;refine (HG.out _ hTA hgA).mono ?_;rintro e w1 ⟨rfl,hb1⟩)|fail)
  go_ret;exact⟨by rw[HE.out,HT.out,if_pos HZ.out];rfl,hbA.trans (hb1.mono hbA.size)⟩
 ·have n3:¬9223372036854775807<1+tg.size+1+tc.size:=by omega
  go_wp2_with fail;refine (HO.out _ hTA hoA).mono ?_;rintro e w1 ⟨rfl,hb1⟩;have e12:w1.cell? ⟨w.heap.size,12,O⟩=some (Y ag ng cg):=(hb1.cell (p:=⟨w.heap.size,12,O⟩) (lt_of_block hnew)).trans c12
  have hT1:=hTA.below hb1;have hg1:=hgA.below hb1;go_wp2_with (first|(go_at_call 181;refine (HG.out _ hT1 hg1).mono ?_;rintro e w2 ⟨rfl,hb2⟩)|fail)
  go_ret;exact⟨by rw[HE.out,HT.out,if_neg hz];rfl,hbA.trans ((hb1.trans (hb2.mono hb1.size)).mono hbA.size)⟩
end
def gU (kd pl:Int) (en:Int×Int×ByteArray) (co no li:Int) (g o:List Int) (l:List (Int×Int×ByteArray)):ByteArray :=
 if (kd==112)=true then SP++dg pl++SP++iA en++SP++dg co else if (kd==107)=true then SP++dg pl else if (kd==99)=true then SP++dg co
 else if (kd==118)=true then SP++dg no++lK co l else if (kd==115)=true then oG g o++lK co l else if (kd==97)=true then SP++dg li++oG g o++lK co l else ⟨#[]⟩
theorem zy {co:Int} {l:List (Int×Int×ByteArray)} (hl:l.length≤1000) (hb:∀ x∈l,tY x) (h:co≤999999999):(lK co l).size≤10000020:=by
 have:=xJ hl hb
 have:=fO co h
 unfold lK;simp only[ByteArray.size_append];have:SP.size=1:=rfl
 omega
theorem zx {g o:List Int} (hgl:g.length≤1000) (hol:o.length≤1000) (hgb:∀ x∈g,0≤x∧x≤999999999) (hob:∀ x∈o,0≤x∧x≤999999999):(oG g o).size≤20002:=by
 have:=qZ hgl hgb
 have:=EB hol hob
 unfold oG;simp only[ByteArray.size_append];have:SP.size=1:=rfl
 omega
section
variable (kd fr ep vi pl ec en co no li:Int) (eo:ByteArray) (al ag ao aL:Option Addr) (nl ng no2 nL cl cg co2 cL:Nat) (w:World) (hT:Tab w) (lv g o:List Int) (l:List (Int×Int×ByteArray)) (hL:Ints w (Y al nl cl) lv) (hg:Ints w (Y ag ng cg) g) (ho:Ints w (Y ao no2 co2) o) (hv:gW w (Y aL nL cL) l) (hlvl:lv.length≤1000) (hgl:g.length≤1000) (hol:o.length≤1000) (hll:l.length≤1000) (hlb:∀ x∈lv,0≤x∧x≤999999999) (hgb:∀ x∈g,0≤x∧x≤999999999) (hob:∀ x∈o,0≤x∧x≤999999999) (hb:∀ x∈l,tY x) (bpl:0≤pl∧pl≤999999999) (bco:0≤co∧co≤999999999) (bno:0≤no∧no≤999999999) (bli:0≤li∧li≤999999999) (ben:tY (ec,en,eo)) (bfr:0≤fr∧fr≤999999999) (bep:0≤ep∧ep≤999999999) (bvi:0≤vi∧vi≤999999999) (bkd:0≤kd∧kd<128)
theorem Lh (kd:Int) (fr:Int) (ep:Int) (vi:Int) (pl:Int) (ec:Int) (en:Int) (co:Int) (no:Int) (li:Int) (eo:ByteArray) (al:Option Addr) (ag:Option Addr) (ao:Option Addr) (aL:Option Addr) (nl:Nat) (ng:Nat) (no2:Nat) (nL:Nat) (cl:Nat) (cg:Nat) (co2:Nat) (cL:Nat) (w:World) (hT:Tab w) (lv:List Int) (g:List Int) (o:List Int) (l:List (Int×Int×ByteArray)) (hL:Ints w (Y al nl cl) lv) (hg:Ints w (Y ag ng cg) g) (ho:Ints w (Y ao no2 co2) o) (hv:gW w (Y aL nL cL) l) (hlvl:lv.length≤1000) (hgl:g.length≤1000) (hol:o.length≤1000) (hll:l.length≤1000) (hlb:∀ x∈lv,0≤x∧x≤999999999) (hgb:∀ x∈g,0≤x∧x≤999999999) (hob:∀ x∈o,0≤x∧x≤999999999) (hb:∀ x∈l,tY x) (bpl:0≤pl∧pl≤999999999) (bco:0≤co∧co≤999999999) (bno:0≤no∧no≤999999999) (bli:0≤li∧li≤999999999) (ben:tY (ec,en,eo)) (bfr:0≤fr∧fr≤999999999) (bep:0≤ep∧ep≤999999999) (bvi:0≤vi∧vi≤999999999) (bkd:0≤kd∧kd<128):Calls Tryz.prog 161 #[.agg #[I .u8 kd,I J fr,Y al nl cl,I J ep,I J vi,I J pl,I J ec,I J en,Z eo,I J co,I J no,I J li,Y ag ng cg,Y ao no2 co2,Y aL nL cL]] w fun e w'=>e=Zr (Z (gU kd pl (ec,en,eo) co no li g o l))∧Below w.heap.size w w':=by
 have HE:Hid (gU kd pl (ec,en,eo) co no li g o l=if (kd==112)=true then ⟨#[32]⟩++dg pl++⟨#[32]⟩++iA (ec,en,eo)++⟨#[32]⟩++dg co else if (kd==107)=true then ⟨#[32]⟩++dg pl else if (kd==99)=true then ⟨#[32]⟩++dg co
  else if (kd==118)=true then ⟨#[32]⟩++dg no++lK co l else if (kd==115)=true then oG g o++lK co l else if (kd==97)=true then ⟨#[32]⟩++dg li++oG g o++lK co l else ⟨#[]⟩):=rfl
 have HIp:Hid (∀ w,Tab w→Calls Tryz.prog 122 #[I J pl] w fun e w'=>e=Zr (Z (dg pl))∧Below w.heap.size w w'):=fun w h=>iq pl w h bpl.1 (by have:=bpl.2;omega)
 have HIc:Hid (∀ w,Tab w→Calls Tryz.prog 122 #[I J co] w fun e w'=>e=Zr (Z (dg co))∧Below w.heap.size w w'):=fun w h=>iq co w h bco.1 (by have:=bco.2;omega)
 have HIn:Hid (∀ w,Tab w→Calls Tryz.prog 122 #[I J no] w fun e w'=>e=Zr (Z (dg no))∧Below w.heap.size w w'):=fun w h=>iq no w h bno.1 (by have:=bno.2;omega)
 have HIl:Hid (∀ w,Tab w→Calls Tryz.prog 122 #[I J li] w fun e w'=>e=Zr (Z (dg li))∧Below w.heap.size w w'):=fun w h=>iq li w h bli.1 (by have:=bli.2;omega)
 have HEn:Hid (∀ w,Tab w→Calls Tryz.prog 170 #[.agg #[I J ec,I J en,Z eo]] w fun e w'=>e=Zr (Z (iA (ec,en,eo)))∧Below w.heap.size w w'):=fun w h=>sO ec en eo w h ben.1 ben.2.1 ben.2.2.1 ben.2.2.2.1 (by have:=ben.2.2.2.2;simp only at this;omega)
 have HHi:Hid (∀ w,Tab w→gW w (Y aL nL cL) l→Calls Tryz.prog 171 #[.agg #[I .u8 kd,I J fr,Y al nl cl,I J ep,I J vi,I J pl,I J ec,I J en,Z eo,I J co,I J no,I J li,Y ag ng cg,Y ao no2 co2,Y aL nL cL]] w fun e w'=>e=Zr (Z (lK co l))∧Below w.heap.size w w'):=fun w h hv=>xV kd fr ep vi pl ec en co no li eo al ag ao aL nl ng no2 nL cl cg co2 cL w h l hv hll hb bco.1 bco.2
 have HGr:Hid (∀ w,Tab w→Ints w (Y ag ng cg) g→Ints w (Y ao no2 co2) o→Calls Tryz.prog 172 #[.agg #[I .u8 kd,I J fr,Y al nl cl,I J ep,I J vi,I J pl,I J ec,I J en,Z eo,I J co,I J no,I J li,Y ag ng cg,Y ao no2 co2,Y aL nL cL]] w fun e w'=>e=Zr (Z (oG g o))∧Below w.heap.size w w'):=fun w h hg ho=>zQ kd fr ep vi pl ec en co no li eo al ag ao aL nl ng no2 nL cl cg co2 cL w h g o hg ho hgl hol hgb hob
 have s1:=fO pl bpl.2;have s2:=fO co bco.2;have s3:=fO no bno.2;have s4:=fO li bli.2;have s5:=oF ben;have s6:=zy hll hb bco.2;have s7:=zx hgl hol hgb hob;have hbA:Below w.heap.size w (w.alloc (.cells #[I .u8 kd,I J fr,Y al nl cl,I J ep,I J vi,I J pl,I J ec,I J en,Z eo,I J co,I J no,I J li,Y ag ng cg,Y ao no2 co2,Y aL nL cL] 68)):=(Below.refl _ w).alloc (Nat.le_refl _) _
 have hnew:=heap_alloc_new w (.cells #[I .u8 kd,I J fr,Y al nl cl,I J ep,I J vi,I J pl,I J ec,I J en,Z eo,I J co,I J no,I J li,Y ag ng cg,Y ao no2 co2,Y aL nL cL] 68);have hTA:=hT.below hbA;have hvA:=hv.below hbA;have hgA:=hg.below hbA;have hoA:=ho.below hbA;clear hL hg ho hv hlvl hgl hol hll hlb hgb hob hb bpl bco bno bli ben bfr bep bvi;generalize gU kd pl (ec,en,eo) co no li g o l=r at *;generalize dg pl=dp at *;generalize dg co=dc at *;generalize dg no=dn at *;generalize dg li=dl at *;generalize iA (ec,en,eo)=te at *;generalize lK co l=th at *;generalize oG g o=tg at *;cases q112:(kd==112)
 rotate_left
 ·rw[q112] at HE;simp only[if_true] at HE;go_enter Tryz.func161,Tryz.ntmps161;go_wp2_with fail;generalize (w.alloc (.cells #[I .u8 kd,I J fr,Y al nl cl,I J ep,I J vi,I J pl,I J ec,I J en,Z eo,I J co,I J no,I J li,Y ag ng cg,Y ao no2 co2,Y aL nL cL] 68))=wA at *;have k5:=cell_regrown (show wA.cell? ⟨w.heap.size,5,O⟩=some (I J pl) by simp[World.cell?,hnew])
  have k6:=cell_regrown (show wA.cell? ⟨w.heap.size,6,O⟩=some (I J ec) by simp[World.cell?,hnew])
  have k7:=cell_regrown (show wA.cell? ⟨w.heap.size,7,O⟩=some (I J en) by simp[World.cell?,hnew])
  have k8:=cell_regrown (show wA.cell? ⟨w.heap.size,8,O⟩=some (Z eo) by simp[World.cell?,hnew])
  have k9:=cell_regrown (show wA.cell? ⟨w.heap.size,9,O⟩=some (I J co) by simp[World.cell?,hnew])
  have cP:=fun d os=>Calls.regrown_of (HIp.out _ (hTA.below (below_regrown wA d os)))
  have cE:=fun d os=>Calls.regrown_of (HEn.out _ (hTA.below (below_regrown wA d os)))
  have cC:=fun d os=>Calls.regrown_of (HIc.out _ (hTA.below (below_regrown wA d os)))
  have z1:¬9223372036854775807<1+dp.size:=by omega
  have z2:¬9223372036854775807<1+dp.size+1:=by omega
  have z3:¬9223372036854775807<1+dp.size+1+te.size:=by omega
  have z4:¬9223372036854775807<1+dp.size+1+te.size+1:=by omega
  have z5:¬9223372036854775807<1+dp.size+1+te.size+1+dc.size:=by omega
  refine wp_region_quiet_below (by kernel_rfl) (by kernel_rfl) ?_
  repeat (quiet_step (first|exact cP _ _|exact cE _ _|exact cC _ _))
  refine wpQuiet_nil ?_;intro _ hw';obtain⟨⟨dq,osq⟩,hw''⟩:=hw'
  subst hw'';have hq:=below_regrown wA dq osq;go_wp2;go_ret;exact⟨by rw[HE.out];rfl,hbA.trans (hq.mono hbA.size)⟩
 rw[q112] at HE;simp only[Bool.false_eq_true,if_false] at HE;cases q107:(kd==107)
 rotate_left
 ·rw[q107] at HE;simp only[if_true] at HE;have z1:¬9223372036854775807<1+dp.size:=by omega
  go_enter Tryz.func161,Tryz.ntmps161;go_wp2_with fail;generalize (w.alloc (.cells #[I .u8 kd,I J fr,Y al nl cl,I J ep,I J vi,I J pl,I J ec,I J en,Z eo,I J co,I J no,I J li,Y ag ng cg,Y ao no2 co2,Y aL nL cL] 68))=wA at *;refine (HIp.out _ hTA).mono ?_;rintro e w1 ⟨rfl,hb1⟩;go_wp2;go_ret;exact⟨by rw[HE.out];rfl,hbA.trans (hb1.mono hbA.size)⟩
 rw[q107] at HE;simp only[Bool.false_eq_true,if_false] at HE;cases q99:(kd==99)
 rotate_left
 ·rw[q99] at HE;simp only[if_true] at HE;have z1:¬9223372036854775807<1+dc.size:=by omega
  go_enter Tryz.func161,Tryz.ntmps161;go_wp2_with fail;generalize (w.alloc (.cells #[I .u8 kd,I J fr,Y al nl cl,I J ep,I J vi,I J pl,I J ec,I J en,Z eo,I J co,I J no,I J li,Y ag ng cg,Y ao no2 co2,Y aL nL cL] 68))=wA at *;refine (HIc.out _ hTA).mono ?_;rintro e w1 ⟨rfl,hb1⟩;go_wp2;go_ret;exact⟨by rw[HE.out];rfl,hbA.trans (hb1.mono hbA.size)⟩
 rw[q99] at HE;simp only[Bool.false_eq_true,if_false] at HE;cases q118:(kd==118)
 rotate_left
 ·rw[q118] at HE;simp only[if_true] at HE;go_enter Tryz.func161,Tryz.ntmps161;go_wp2_with fail;generalize (w.alloc (.cells #[I .u8 kd,I J fr,Y al nl cl,I J ep,I J vi,I J pl,I J ec,I J en,Z eo,I J co,I J no,I J li,Y ag ng cg,Y ao no2 co2,Y aL nL cL] 68))=wA at *;have k0:=cell_regrown (show wA.cell? ⟨w.heap.size,0,O⟩=some (I .u8 kd) by simp[World.cell?,hnew])
  have k1:=cell_regrown (show wA.cell? ⟨w.heap.size,1,O⟩=some (I J fr) by simp[World.cell?,hnew])
  have k2:=cell_regrown (show wA.cell? ⟨w.heap.size,2,O⟩=some (Y al nl cl) by simp[World.cell?,hnew])
  have k3:=cell_regrown (show wA.cell? ⟨w.heap.size,3,O⟩=some (I J ep) by simp[World.cell?,hnew])
  have k4:=cell_regrown (show wA.cell? ⟨w.heap.size,4,O⟩=some (I J vi) by simp[World.cell?,hnew])
  have k5:=cell_regrown (show wA.cell? ⟨w.heap.size,5,O⟩=some (I J pl) by simp[World.cell?,hnew])
  have k6:=cell_regrown (show wA.cell? ⟨w.heap.size,6,O⟩=some (I J ec) by simp[World.cell?,hnew])
  have k7:=cell_regrown (show wA.cell? ⟨w.heap.size,7,O⟩=some (I J en) by simp[World.cell?,hnew])
  have k8:=cell_regrown (show wA.cell? ⟨w.heap.size,8,O⟩=some (Z eo) by simp[World.cell?,hnew])
  have k9:=cell_regrown (show wA.cell? ⟨w.heap.size,9,O⟩=some (I J co) by simp[World.cell?,hnew])
  have k10:=cell_regrown (show wA.cell? ⟨w.heap.size,10,O⟩=some (I J no) by simp[World.cell?,hnew])
  have k11:=cell_regrown (show wA.cell? ⟨w.heap.size,11,O⟩=some (I J li) by simp[World.cell?,hnew])
  have k12:=cell_regrown (show wA.cell? ⟨w.heap.size,12,O⟩=some (Y ag ng cg) by simp[World.cell?,hnew])
  have k13:=cell_regrown (show wA.cell? ⟨w.heap.size,13,O⟩=some (Y ao no2 co2) by simp[World.cell?,hnew])
  have k14:=cell_regrown (show wA.cell? ⟨w.heap.size,14,O⟩=some (Y aL nL cL) by simp[World.cell?,hnew])
  have cN:=fun d os=>Calls.regrown_of (HIn.out _ (hTA.below (below_regrown wA d os)))
  have cH':=fun d os=>Calls.regrown_of (HHi.out _ (hTA.below (below_regrown wA d os)) (hvA.below (below_regrown wA d os)))
  have z1:¬9223372036854775807<1+dn.size:=by omega
  have z2:¬9223372036854775807<1+dn.size+th.size:=by omega
  refine wp_region_quiet_below (by kernel_rfl) (by kernel_rfl) ?_
  repeat (quiet_step (first|exact cN _ _|exact cH' _ _))
  refine wpQuiet_nil ?_;intro _ hw';obtain⟨⟨dq,osq⟩,hw''⟩:=hw'
  subst hw'';have hq:=below_regrown wA dq osq;go_wp2;go_ret;exact⟨by rw[HE.out];rfl,hbA.trans (hq.mono hbA.size)⟩
 rw[q118] at HE;simp only[Bool.false_eq_true,if_false] at HE;cases q115:(kd==115)
 rotate_left
 ·rw[q115] at HE;simp only[if_true] at HE;go_enter Tryz.func161,Tryz.ntmps161;go_wp2_with fail;generalize (w.alloc (.cells #[I .u8 kd,I J fr,Y al nl cl,I J ep,I J vi,I J pl,I J ec,I J en,Z eo,I J co,I J no,I J li,Y ag ng cg,Y ao no2 co2,Y aL nL cL] 68))=wA at *;have k0:=cell_regrown (show wA.cell? ⟨w.heap.size,0,O⟩=some (I .u8 kd) by simp[World.cell?,hnew])
  have k1:=cell_regrown (show wA.cell? ⟨w.heap.size,1,O⟩=some (I J fr) by simp[World.cell?,hnew])
  have k2:=cell_regrown (show wA.cell? ⟨w.heap.size,2,O⟩=some (Y al nl cl) by simp[World.cell?,hnew])
  have k3:=cell_regrown (show wA.cell? ⟨w.heap.size,3,O⟩=some (I J ep) by simp[World.cell?,hnew])
  have k4:=cell_regrown (show wA.cell? ⟨w.heap.size,4,O⟩=some (I J vi) by simp[World.cell?,hnew])
  have k5:=cell_regrown (show wA.cell? ⟨w.heap.size,5,O⟩=some (I J pl) by simp[World.cell?,hnew])
  have k6:=cell_regrown (show wA.cell? ⟨w.heap.size,6,O⟩=some (I J ec) by simp[World.cell?,hnew])
  have k7:=cell_regrown (show wA.cell? ⟨w.heap.size,7,O⟩=some (I J en) by simp[World.cell?,hnew])
  have k8:=cell_regrown (show wA.cell? ⟨w.heap.size,8,O⟩=some (Z eo) by simp[World.cell?,hnew])
  have k9:=cell_regrown (show wA.cell? ⟨w.heap.size,9,O⟩=some (I J co) by simp[World.cell?,hnew])
  have k10:=cell_regrown (show wA.cell? ⟨w.heap.size,10,O⟩=some (I J no) by simp[World.cell?,hnew])
  have k11:=cell_regrown (show wA.cell? ⟨w.heap.size,11,O⟩=some (I J li) by simp[World.cell?,hnew])
  have k12:=cell_regrown (show wA.cell? ⟨w.heap.size,12,O⟩=some (Y ag ng cg) by simp[World.cell?,hnew])
  have k13:=cell_regrown (show wA.cell? ⟨w.heap.size,13,O⟩=some (Y ao no2 co2) by simp[World.cell?,hnew])
  have k14:=cell_regrown (show wA.cell? ⟨w.heap.size,14,O⟩=some (Y aL nL cL) by simp[World.cell?,hnew])
  have cG:=fun d os=>Calls.regrown_of (HGr.out _ (hTA.below (below_regrown wA d os)) (hgA.below (below_regrown wA d os)) (hoA.below (below_regrown wA d os)))
  have cH':=fun d os=>Calls.regrown_of (HHi.out _ (hTA.below (below_regrown wA d os)) (hvA.below (below_regrown wA d os)))
  have z1:¬9223372036854775807<tg.size+th.size:=by omega
  refine wp_region_quiet_below (by kernel_rfl) (by kernel_rfl) ?_
  repeat (quiet_step (first|exact cG _ _|exact cH' _ _))
  refine wpQuiet_nil ?_;intro _ hw';obtain⟨⟨dq,osq⟩,hw''⟩:=hw'
  subst hw'';have hq:=below_regrown wA dq osq;go_wp2;go_ret;exact⟨by rw[HE.out];rfl,hbA.trans (hq.mono hbA.size)⟩
 rw[q115] at HE;simp only[Bool.false_eq_true,if_false] at HE;cases q97:(kd==97)
 rotate_left
 ·rw[q97] at HE;simp only[if_true] at HE;go_enter Tryz.func161,Tryz.ntmps161;go_wp2_with fail;generalize (w.alloc (.cells #[I .u8 kd,I J fr,Y al nl cl,I J ep,I J vi,I J pl,I J ec,I J en,Z eo,I J co,I J no,I J li,Y ag ng cg,Y ao no2 co2,Y aL nL cL] 68))=wA at *;have k0:=cell_regrown (show wA.cell? ⟨w.heap.size,0,O⟩=some (I .u8 kd) by simp[World.cell?,hnew])
  have k1:=cell_regrown (show wA.cell? ⟨w.heap.size,1,O⟩=some (I J fr) by simp[World.cell?,hnew])
  have k2:=cell_regrown (show wA.cell? ⟨w.heap.size,2,O⟩=some (Y al nl cl) by simp[World.cell?,hnew])
  have k3:=cell_regrown (show wA.cell? ⟨w.heap.size,3,O⟩=some (I J ep) by simp[World.cell?,hnew])
  have k4:=cell_regrown (show wA.cell? ⟨w.heap.size,4,O⟩=some (I J vi) by simp[World.cell?,hnew])
  have k5:=cell_regrown (show wA.cell? ⟨w.heap.size,5,O⟩=some (I J pl) by simp[World.cell?,hnew])
  have k6:=cell_regrown (show wA.cell? ⟨w.heap.size,6,O⟩=some (I J ec) by simp[World.cell?,hnew])
  have k7:=cell_regrown (show wA.cell? ⟨w.heap.size,7,O⟩=some (I J en) by simp[World.cell?,hnew])
  have k8:=cell_regrown (show wA.cell? ⟨w.heap.size,8,O⟩=some (Z eo) by simp[World.cell?,hnew])
  have k9:=cell_regrown (show wA.cell? ⟨w.heap.size,9,O⟩=some (I J co) by simp[World.cell?,hnew])
  have k10:=cell_regrown (show wA.cell? ⟨w.heap.size,10,O⟩=some (I J no) by simp[World.cell?,hnew])
  have k11:=cell_regrown (show wA.cell? ⟨w.heap.size,11,O⟩=some (I J li) by simp[World.cell?,hnew])
  have k12:=cell_regrown (show wA.cell? ⟨w.heap.size,12,O⟩=some (Y ag ng cg) by simp[World.cell?,hnew])
  have k13:=cell_regrown (show wA.cell? ⟨w.heap.size,13,O⟩=some (Y ao no2 co2) by simp[World.cell?,hnew])
  have k14:=cell_regrown (show wA.cell? ⟨w.heap.size,14,O⟩=some (Y aL nL cL) by simp[World.cell?,hnew])
  have cI:=fun d os=>Calls.regrown_of (HIl.out _ (hTA.below (below_regrown wA d os)))
  have cG:=fun d os=>Calls.regrown_of (HGr.out _ (hTA.below (below_regrown wA d os)) (hgA.below (below_regrown wA d os)) (hoA.below (below_regrown wA d os)))
  have cH':=fun d os=>Calls.regrown_of (HHi.out _ (hTA.below (below_regrown wA d os)) (hvA.below (below_regrown wA d os)))
  have z1:¬9223372036854775807<1+dl.size:=by omega
  have z2:¬9223372036854775807<1+dl.size+tg.size:=by omega
  have z3:¬9223372036854775807<1+dl.size+tg.size+th.size:=by omega
  refine wp_region_quiet_below (by kernel_rfl) (by kernel_rfl) ?_
  repeat (quiet_step (first|exact cI _ _|exact cG _ _|exact cH' _ _))
  refine wpQuiet_nil ?_;intro _ hw';obtain⟨⟨dq,osq⟩,hw''⟩:=hw'
  subst hw'';have hq:=below_regrown wA dq osq;go_wp2;go_ret;exact⟨by rw[HE.out];rfl,hbA.trans (hq.mono hbA.size)⟩
 rw[q97] at HE;simp only[Bool.false_eq_true,if_false] at HE;go_enter Tryz.func161,Tryz.ntmps161;go_wp2;go_ret;exact⟨by rw[HE.out];rfl,hbA⟩
end
end Go.Proofs.YtbnihoahhomooaaGreatDoor
