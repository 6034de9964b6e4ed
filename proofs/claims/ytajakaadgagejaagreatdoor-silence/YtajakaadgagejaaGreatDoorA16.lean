import Derived.Test.YtajakaadgagejaaGreatDoorA15
import Derived.Test.YtajakaadgagejaaGreatDoorA13
set_option maxRecDepth 100000
set_option maxHeartbeats 8000000
set_option linter.unusedVariables false
set_option linter.unusedSimpArgs false
set_option linter.unusedSectionVars false
namespace Go.Proofs.YtajakaadgagejaaGreatDoor
open Go.Value renaming int→I,slice→Y,string→Z,pointer→Zp
open Go.Ending renaming returned→Zr
open _root_.ByteArray renaming empty→Ze
open Go.IntKind renaming i64→J
open Option renaming none→O
open Go.RowKit
def pF (l:List En) (op:ByteArray):ByteArray :=
 if b0 op=114 then OKb else if b0 op=103 then (if (0:Int)<jl l (b1 op) then yu (jl l (b1 op)) else oI)
 else if b0 op=100 then (if jl l (b1 op)=0 then oI else OKb) else if b0 op=99 then (if jl l (b1 op)=bN op 2 then OKb else NOb) else OKb
section
variable {N:Nat} {w w':World} {g:Nat} {K K':Kw} {V V':Kv}
theorem uO (h:KAt N w g K V) (k:Nat) (hk:k<K.list.length) (hs:∀ e∈K.list,Hg e.2.2) :
  Calls Tryz.prog 148 #[Zp (some ⟨g,0,O⟩),I J k] w fun e w'=>e=Zr (Z (pF (K.list.take k) K.list[k].2.2))∧Below w.heap.size w w':=by
 have hP:=h.eL;obtain⟨aP,cP,hvP,hcap,hmax⟩:=hP.shape
 rw[hvP] at hP;have c10:w.cell? ⟨g,10,O⟩=some (Y aP K.list.length cP):=by rw[← hvP];exact h.cell 10
 have sz:=hs _ (List.getElem_mem hk);have HV:Hid (∀ key,Calls Tryz.prog 146 #[Zp (some ⟨g,0,O⟩),I J k,I .u8 key] w fun e w'=>e=Zr (I .u8 (jl (K.list.take k) key))∧Below w.heap.size w w'):=fun key=>xV h k (by omega) key hs
 obtain⟨b1',o1,rfl,_,d1,d2,d3⟩:=hP.get k hk
 clear h hs hvP hP;have j1:(0:Int)≤(k:Int):=by omega
 have j2:(k:Int)<(K.list.length:Int):=by omega
 generalize K.list[k].2.2=op at *;have y2:=sz.s2;have z0:(0:Int)<(op.size:Int):=by omega
 have z1:(1:Int)<(op.size:Int):=by omega
 have hbn:∀ (k:Nat) (hk:k<op.size),bN op k=(op[k].toNat:Int):=fun k hk=>by unfold bN;rw[atS hk]
 have e0:b0 op=(op[0].toNat:Int):=hbn 0 (by omega)
 have e1:b1 op=(op[1].toNat:Int):=hbn 1 (by omega)
 have S4:Hid ((op[0].toNat:Int)=99→(2:Int)<(op.size:Int)∧∃ h:2<op.size,bN op 2=(op[2].toNat:Int)):=fun hc=>by
  have:=sz.s4 (e0.trans hc);exact⟨by omega,by omega,hbn 2 (by omega)⟩
 have HX:Hid (pF (K.list.take k) op=if (op[0].toNat:Int)=114 then OKb else if (op[0].toNat:Int)=103 then (if (0:Int)<jl (K.list.take k) (op[1].toNat:Int) then yu (jl (K.list.take k) (op[1].toNat:Int)) else oI)
   else if (op[0].toNat:Int)=100 then (if jl (K.list.take k) (op[1].toNat:Int)=(0:Int) then oI else OKb) else if (op[0].toNat:Int)=99 then (if jl (K.list.take k) (op[1].toNat:Int)=bN op 2 then OKb else NOb) else OKb):=by
  unfold pF;rw[e0,e1];trivial
 have HV1:=ah (HV.out (op[1].toNat:Int));clear HV e0 e1 hbn sz;have hcv:=H8;generalize pF (K.list.take k) op=res at *;by_cases h0:(op[0].toNat:Int)=114
 ·have h0':((op[0].toNat:Int)==114)=true:=beq_iff_eq.2 h0
  rw[if_pos h0] at HX;clear h0;go_enter Tryz.func148,Tryz.ntmps148;go_wp2_with fail;go_ret;exact⟨by rw[HX.out];rfl,Below.refl _ _⟩
 have h0':((op[0].toNat:Int)==114)=false:=beq_eq_false_iff_ne.2 h0
 rw[if_neg h0] at HX;clear h0;generalize jl (K.list.take k) (op[1].toNat:Int)=v at *;by_cases g1:(op[0].toNat:Int)=103
 ·have g1':((op[0].toNat:Int)==103)=true:=beq_iff_eq.2 g1
  rw[if_pos g1] at HX;clear g1;by_cases hv:(0:Int)<v
  ·rw[if_pos hv] at HX;go_enter Tryz.func148,Tryz.ntmps148;go_wp2_with fail;refine HV1.out.mono ?_;rintro e w1 ⟨rfl,hb⟩;go_wp2_with fail;go_ret;exact⟨by rw[HX.out];rfl,hb.trans (((Below.refl _ w1).alloc (Nat.le_refl _) _).mono hb.size)⟩
  ·rw[if_neg hv] at HX;go_enter Tryz.func148,Tryz.ntmps148;go_wp2_with fail;refine HV1.out.mono ?_;rintro e w1 ⟨rfl,hb⟩;go_wp2_with fail;go_ret;exact⟨by rw[HX.out];rfl,hb⟩
 have g1':((op[0].toNat:Int)==103)=false:=beq_eq_false_iff_ne.2 g1
 rw[if_neg g1] at HX;clear g1;by_cases g2:(op[0].toNat:Int)=100
 ·have g2':((op[0].toNat:Int)==100)=true:=beq_iff_eq.2 g2
  rw[if_pos g2] at HX;clear g2;by_cases hv:v=0
  ·have hv':(v==0)=true:=beq_iff_eq.2 hv
   rw[if_pos hv] at HX;clear hv;go_enter Tryz.func148,Tryz.ntmps148;go_wp2_with fail;refine HV1.out.mono ?_;rintro e w1 ⟨rfl,hb⟩;go_wp2_with fail;go_ret;exact⟨by rw[HX.out];rfl,hb⟩
  ·have hv':(v==0)=false:=beq_eq_false_iff_ne.2 hv
   rw[if_neg hv] at HX;clear hv;go_enter Tryz.func148,Tryz.ntmps148;go_wp2_with fail;refine HV1.out.mono ?_;rintro e w1 ⟨rfl,hb⟩;go_wp2_with fail;go_ret;exact⟨by rw[HX.out];rfl,hb⟩
 have g2':((op[0].toNat:Int)==100)=false:=beq_eq_false_iff_ne.2 g2
 rw[if_neg g2] at HX;clear g2;by_cases g3:(op[0].toNat:Int)=99
 ·obtain⟨y3,y5,y6⟩:=S4.out g3
  have g3':((op[0].toNat:Int)==99)=true:=beq_iff_eq.2 g3
  rw[if_pos g3,y6] at HX;clear g3 y6;by_cases hv:v=(op[2].toNat:Int)
  ·rw[if_pos hv] at HX;go_enter Tryz.func148,Tryz.ntmps148;go_wp2_with fail;refine HV1.out.mono ?_;rintro e w1 ⟨rfl,hb⟩;go_wp2_with fail;go_ret;exact⟨by rw[HX.out];rfl,hb⟩
  ·rw[if_neg hv] at HX;go_enter Tryz.func148,Tryz.ntmps148;go_wp2_with fail;refine HV1.out.mono ?_;rintro e w1 ⟨rfl,hb⟩;go_wp2_with fail;go_ret;exact⟨by rw[HX.out];rfl,hb⟩
 have g3':((op[0].toNat:Int)==99)=false:=beq_eq_false_iff_ne.2 g3
 rw[if_neg g3] at HX;clear g3;go_enter Tryz.func148,Tryz.ntmps148;go_wp2_with fail;refine HV1.out.mono ?_;rintro e w1 ⟨rfl,hb⟩;go_wp2_with fail;go_ret;exact⟨by rw[HX.out];rfl,hb⟩
end
theorem sQ (v:Value) (ms:List Pm) (W F:List Nat) (w:World) (hv:Pms w W F v ms) (hl:ms.length≤1000000) :
  Calls Tryz.prog 125 #[v] w fun e w'=>e=Zr (I J (bV (ms.map (·.epoch))))∧w'=w:=by
 obtain⟨a,cap,rfl,_,_⟩:=hv.shape
 have HT:Hid (∀ k (hk:k<ms.length),bV ((ms.take (k+1)).map (·.epoch))=if bV ((ms.take k).map (·.epoch))<ms[k].epoch then ms[k].epoch else bV ((ms.take k).map (·.epoch))):=fun k hk=>by
  rw[List.take_succ_eq_append_getElem hk,List.map_append];exact o8 _ _
 have HF:Hid (bV ((ms.take ms.length).map (·.epoch))=bV (ms.map (·.epoch))):=by unfold Hid;rw[List.take_length]
 have H0:Hid (bV ((ms.take 0).map (·.epoch))=0):=rfl
 go_enter Tryz.func125,Tryz.ntmps125;go_wp2_with fail;go_loop [3,4] (fun g i=>∃ k:Nat,k≤ms.length∧i=I J k∧g=I J (bV ((ms.take k).map (·.epoch)))) (fun _ i=>ms.length-(intOf i).toNat)
 case atStart=>exact⟨0,Nat.zero_le _,rfl,by rw[H0.out]⟩
 case round =>
  obtain⟨k,hk,rfl,rfl⟩:=hrel
  by_cases hlt:k<ms.length
  ·obtain⟨b,off,al,cl,ag,cg,ao,co,aL,cL,rfl,_,hc⟩:=hv.ys k hlt
   have y:=hc 3 _ rfl;have j1:(0:Int)≤(k:Int):=by omega
   have j2:(k:Int)<(ms.length:Int):=by omega
   have HTk:=ah (HT.out k hlt);clear hc;generalize bV ((ms.take k).map (·.epoch))=g at *;by_cases hq:g<ms[k].epoch
   ·go_wp2_with fail;go_round
    case rel=>exact⟨k+1,by omega,by go_num,by rw[HTk.out,if_pos hq]⟩
    case measure=>simp[intOf];omega
   ·go_wp2_with fail;go_round
    case rel=>exact⟨k+1,by omega,by go_num,by rw[HTk.out,if_neg hq]⟩
    case measure=>simp[intOf];omega
  ·obtain rfl:k=ms.length:=by omega
   rw[HF.out];go_wp2_with fail;go_ret;exact⟨rfl,rfl⟩
theorem uy (v:Value) (ms:List Pm) (W F:List Nat) (w:World) (hv:Pms w W F v ms) (hl:ms.length≤1000000) :
  Calls Tryz.prog 128 #[v] w fun e w'=>e=Zr (I J (bV (ms.map (·.view))))∧w'=w:=by
 obtain⟨a,cap,rfl,_,_⟩:=hv.shape
 have HT:Hid (∀ k (hk:k<ms.length),bV ((ms.take (k+1)).map (·.view))=if bV ((ms.take k).map (·.view))<ms[k].view then ms[k].view else bV ((ms.take k).map (·.view))):=fun k hk=>by
  rw[List.take_succ_eq_append_getElem hk,List.map_append];exact o8 _ _
 have HF:Hid (bV ((ms.take ms.length).map (·.view))=bV (ms.map (·.view))):=by unfold Hid;rw[List.take_length]
 have H0:Hid (bV ((ms.take 0).map (·.view))=0):=rfl
 go_enter Tryz.func128,Tryz.ntmps128;go_wp2_with fail;go_loop [3,4] (fun g i=>∃ k:Nat,k≤ms.length∧i=I J k∧g=I J (bV ((ms.take k).map (·.view)))) (fun _ i=>ms.length-(intOf i).toNat)
 case atStart=>exact⟨0,Nat.zero_le _,rfl,by rw[H0.out]⟩
 case round =>
  obtain⟨k,hk,rfl,rfl⟩:=hrel
  by_cases hlt:k<ms.length
  ·obtain⟨b,off,al,cl,ag,cg,ao,co,aL,cL,rfl,_,hc⟩:=hv.ys k hlt
   have y:=hc 4 _ rfl;have j1:(0:Int)≤(k:Int):=by omega
   have j2:(k:Int)<(ms.length:Int):=by omega
   have HTk:=ah (HT.out k hlt);clear hc;generalize bV ((ms.take k).map (·.view))=g at *;by_cases hq:g<ms[k].view
   ·go_wp2_with fail;go_round
    case rel=>exact⟨k+1,by omega,by go_num,by rw[HTk.out,if_pos hq]⟩
    case measure=>simp[intOf];omega
   ·go_wp2_with fail;go_round
    case rel=>exact⟨k+1,by omega,by go_num,by rw[HTk.out,if_neg hq]⟩
    case measure=>simp[intOf];omega
  ·obtain rfl:k=ms.length:=by omega
   rw[HF.out];go_wp2_with fail;go_ret;exact⟨rfl,rfl⟩
theorem rT (v:Value) (ms:List Pm) (W F:List Nat) (w:World) (hv:Pms w W F v ms) (hl:ms.length≤1000000) :
  Calls Tryz.prog 163 #[v] w fun e w'=>e=Zr (I J (bV (ms.map (·.commit))))∧w'=w:=by
 obtain⟨a,cap,rfl,_,_⟩:=hv.shape
 have HT:Hid (∀ k (hk:k<ms.length),bV ((ms.take (k+1)).map (·.commit))=if bV ((ms.take k).map (·.commit))<ms[k].commit then ms[k].commit else bV ((ms.take k).map (·.commit))):=fun k hk=>by
  rw[List.take_succ_eq_append_getElem hk,List.map_append];exact o8 _ _
 have HF:Hid (bV ((ms.take ms.length).map (·.commit))=bV (ms.map (·.commit))):=by unfold Hid;rw[List.take_length]
 have H0:Hid (bV ((ms.take 0).map (·.commit))=0):=rfl
 go_enter Tryz.func163,Tryz.ntmps163;go_wp2_with fail;go_loop [3,4] (fun g i=>∃ k:Nat,k≤ms.length∧i=I J k∧g=I J (bV ((ms.take k).map (·.commit)))) (fun _ i=>ms.length-(intOf i).toNat)
 case atStart=>exact⟨0,Nat.zero_le _,rfl,by rw[H0.out]⟩
 case round =>
  obtain⟨k,hk,rfl,rfl⟩:=hrel
  by_cases hlt:k<ms.length
  ·obtain⟨b,off,al,cl,ag,cg,ao,co,aL,cL,rfl,_,hc⟩:=hv.ys k hlt
   have y:=hc 9 _ rfl;have j1:(0:Int)≤(k:Int):=by omega
   have j2:(k:Int)<(ms.length:Int):=by omega
   have HTk:=ah (HT.out k hlt);clear hc;generalize bV ((ms.take k).map (·.commit))=g at *;by_cases hq:g<ms[k].commit
   ·go_wp2_with fail;go_round
    case rel=>exact⟨k+1,by omega,by go_num,by rw[HTk.out,if_pos hq]⟩
    case measure=>simp[intOf];omega
   ·go_wp2_with fail;go_round
    case rel=>exact⟨k+1,by omega,by go_num,by rw[HTk.out,if_neg hq]⟩
    case measure=>simp[intOf];omega
  ·obtain rfl:k=ms.length:=by omega
   rw[HF.out];go_wp2_with fail;go_ret;exact⟨rfl,rfl⟩
def sI (ms:List Pm) (e:Int) (k:Nat):List Int:=iO (ms.take k) e
theorem DK {ms:List Pm} {e:Int} {k:Nat} (h:k<ms.length):sI ms e (k+1)=if (ms[k].epoch==e)=true then ms[k].grp else sI ms e k:=by
 unfold sI iO;rw[List.take_succ_eq_append_getElem h,List.reverse_append];simp only[List.reverse_cons,List.reverse_nil,List.nil_append,List.singleton_append,List.find?_cons];cases q:(ms[k].epoch==e) <;> simp
theorem CX (v:Value) (ms:List Pm) (ep:Int) (W F:List Nat) (w:World) (hv:Pms w W F v ms) (hl:ms.length≤1000000) :
  Calls Tryz.prog 126 #[v,I J ep] w fun e w'=>(∃ vg,e=Zr vg∧Ints w vg (iO ms ep)∧Sl W F vg)∧w'=w:=by
 obtain⟨a,cap,rfl,_,_⟩:=hv.shape
 have HT:Hid (∀ k (hk:k<ms.length),sI ms ep (k+1)=if (ms[k].epoch==ep)=true then ms[k].grp else sI ms ep k):=fun k hk=>DK hk
 have HF:Hid (iO ms ep=sI ms ep ms.length):=by unfold Hid sI;rw[List.take_length]
 have H0:Hid (sI ms ep 0=[]):=rfl
 go_enter Tryz.func126,Tryz.ntmps126;go_wp2_with fail;go_loop [5] (fun i=>∃ k:Nat,k≤ms.length∧i=I J ((k:Int)-1)∧iO ms ep=sI ms ep k) (fun i=>(intOf i+1).toNat)
 case atStart=>exact⟨ms.length,Nat.le_refl _,by go_num,HF.out⟩
 case round =>
  obtain⟨k,hk,rfl,hk2⟩:=hrel
  have HK:=ah hk2;clear hk2;by_cases hz:k=0
  ·subst hz;have HZ:Hid (iO ms ep=[]):=by unfold Hid;rw[HK.out,H0.out]
   go_wp2_with fail;go_ret;exact⟨⟨_,rfl,by rw[HZ.out];exact fH _,Sl.nil _ _⟩,rfl⟩
  ·obtain⟨j,rfl⟩:∃ j,k=j+1:=⟨k-1,by omega⟩
   have hlt:j<ms.length:=by omega
   obtain⟨b,off,al,cl,ag,cg,ao,co,aL,cL,rfl,hp,hc⟩:=hv.ys j hlt
   have y3:=hc 3 _ rfl;have y12:=hc 12 _ rfl;have j1:(0:Int)≤(j:Int):=by omega
   have j2:(j:Int)<(ms.length:Int):=by omega
   have j3:(((j+1:Nat):Int)-1)=(j:Int):=by omega
   have HTk:=ah (HT.out j hlt);have HP:Hid (Ints w (Y ag ms[j].grp.length cg) ms[j].grp∧Sl W F (Y ag ms[j].grp.length cg)):=⟨hp.grp,hp.sg⟩
   clear hc hp;rw[j3];cases hq:(ms[j].epoch==ep)
   ·go_wp2_with fail;go_round
    case rel=>exact⟨j,by omega,by go_num,by rw[HK.out,HTk.out,hq];rfl⟩
    case measure=>simp[intOf]
   ·have HZ:Hid (iO ms ep=ms[j].grp):=by unfold Hid;rw[HK.out,HTk.out,hq];rfl
    go_wp2_with fail;go_ret;exact⟨⟨_,rfl,by rw[HZ.out];exact HP.out.1,HP.out.2⟩,rfl⟩
theorem C8 (v vr:Value) (ms:List Pm) (ep:Int) (g:List Int) (W F:List Nat) (w:World) (hv:Pms w W F v ms) (hl:ms.length≤1000000) (hg:Ints w vr g) (hgl:g.length≤1000000) :
  Calls Tryz.prog 127 #[v,I J ep,vr] w fun e w'=>∃ v',e=Zr v'∧kY w w' w.heap.size W F v' (gB ms ep g)∧Below w.heap.size w w':=by
 obtain⟨i0,hi,hz0,hz1,hz2⟩:=info_parts Tryz.infoMsg
 obtain⟨a,cap,rfl,hn1,hmx⟩:=hv.shape
 obtain⟨ar,cr,rfl,_,_⟩:=hg.shape
 have HC:Hid (∀ x w',Below w.heap.size w w'→Calls Tryz.prog 39 #[Y ar g.length cr,I J x] w' fun e w2=>e=Zr (.bool (lN g x))∧w2=w'):=fun x w' hb=>kH _ g x w' (hg.below hb) hgl
 have HT:Hid (∀ k (hk:k<ms.length),gB (ms.take (k+1)) ep g=gB (ms.take k) ep g++(if ((ms[k].epoch==ep)&&lN g ms[k].frm)=true then [ms[k]] else [])):=fun k hk=>by
  unfold gB;rw[List.take_succ_eq_append_getElem hk,List.filter_append];congr 1;simp only[List.filter_cons,List.filter_nil]
 have HLe:Hid (∀ k,(gB (ms.take k) ep g).length≤1000000):=fun k=>by
  have:=List.length_filter_le (fun m:Pm=>(m.epoch==ep)&&lN g m.frm) (ms.take k)
  unfold gB;rw[List.length_take] at this;omega
 have HF:Hid (gB (ms.take ms.length) ep g=gB ms ep g):=by unfold Hid;rw[List.take_length]
 go_enter Tryz.func127,Tryz.ntmps127;go_wp2_with fail;go_loopw [7,8] (fun out i wr=>∃ (k:Nat) (xs:List Value),k≤ms.length∧i=I J k∧wr.ownsRow w.heap.size 68 15 out (gB (ms.take k) ep g).length xs∧Rws (gF w W F) (gB (ms.take k) ep g) xs∧Below w.heap.size w wr) (fun _ i _=>ms.length-(intOf i).toNat)
 case atStart=>exact⟨0,[],Nat.zero_le _,rfl,World.ownsRow_nil _ _ _ _,rfl,Below.refl _ _⟩
 case round =>
  obtain⟨k,xs,hk,rfl,hown,hxs,hb⟩:=hrel
  have HXS:=ah hxs;clear hxs;by_cases hlt:k<ms.length
  ·obtain⟨b,off,al2,cl2,ag2,cg2,ao2,co2,aL2,cL2,rfl,hp2,hc2⟩:=hv.ys k hlt
   have j1:(0:Int)≤(k:Int):=by omega
   have j2:(k:Int)<(ms.length:Int):=by omega
   have hS:gF w W F ms[k] [I .u8 ms[k].kind,I J ms[k].frm,Y al2 ms[k].lives.length cl2,I J ms[k].epoch,I J ms[k].view,I J ms[k].place,I J ms[k].ent.1,I J ms[k].ent.2.1,Z ms[k].ent.2.2,I J ms[k].commit,I J ms[k].normal,I J ms[k].life,Y ag2 ms[k].grp.length cg2,Y ao2 ms[k].old.length co2,Y aL2 ms[k].log.length cL2]:=⟨_,_,_,_,rfl,hp2⟩
   have HSc:=ah hS;have HTk:=ah (HT.out k hlt);have hLk:=HLe.out k;have hbb:b<w.heap.size:=by
    obtain⟨xs',hrd,_⟩:=hv.rd
    exact hrd.lt b rfl
   clear hS hp2;have hc3:∀ j u,(#[I .u8 ms[k].kind,I J ms[k].frm,Y al2 ms[k].lives.length cl2,I J ms[k].epoch,I J ms[k].view,I J ms[k].place,I J ms[k].ent.1,I J ms[k].ent.2.1,Z ms[k].ent.2.2,I J ms[k].commit,I J ms[k].normal,I J ms[k].life,Y ag2 ms[k].grp.length cg2,Y ao2 ms[k].old.length co2,Y aL2 ms[k].log.length cL2]:Array Value)[j]? = some u→wr.cell? ⟨b,off+k*15+j,O⟩=some u:=fun j u q=>(hb.cell (p:=⟨b,off+k*15+j,O⟩) hbb).trans (hc2 j u q)
   clear hc2;generalize gB (ms.take k) ep g=lk at *;generalize ms[k]=s at *;have y0:=hc3 0 _ rfl;have y1:=hc3 1 _ rfl;have y2:=hc3 2 _ rfl;have y3:=hc3 3 _ rfl;have y4:=hc3 4 _ rfl;have y5:=hc3 5 _ rfl;have y6:=hc3 6 _ rfl;have y7:=hc3 7 _ rfl;have y8:=hc3 8 _ rfl;have y9:=hc3 9 _ rfl;have y10:=hc3 10 _ rfl;have y11:=hc3 11 _ rfl;have y12:=hc3 12 _ rfl;have y13:=hc3 13 _ rfl;have y14:=hc3 14 _ rfl;simp only[Nat.add_zero] at y0;clear hc3;cases hq:(s.epoch==ep)
   ·rw[hq] at HTk;go_wp2_with fail;go_roundw
    case rel=>exact⟨k+1,xs,by omega,by go_num,by rw[HTk.out];simpa using hown,by rw[HTk.out];simpa using HXS.out,hb⟩
    case measure=>simp[intOf];omega
   ·rw[hq] at HTk;have HCk:=ah (HC.out s.frm wr hb);cases hm:lN g s.frm
    ·rw[hm] at HTk HCk;go_wp2_with fail;refine HCk.out.mono ?_;rintro e w2 ⟨rfl,hw2⟩;subst hw2;go_wp2_with fail;go_roundw
     case rel=>exact⟨k+1,xs,by omega,by go_num,by rw[HTk.out];simpa using hown,by rw[HTk.out];simpa using HXS.out,hb⟩
     case measure=>simp[intOf];omega
    ·rw[hm] at HTk HCk;go_wp2_with fail;refine HCk.out.mono ?_;rintro e w2 ⟨rfl,hw2⟩;subst hw2;go_wp2_with (at_builtin;go_loud (refine BN rfl _ _ 60 rfl w.heap.size 68 i0 _ 15 192 Tryz.underlying60 hi hz0 hz1 hz2 rfl (by decide) w2 w2.heap.size rfl _ _ _ (by rfl) hown 1 [I .u8 s.kind,I J s.frm,Y al2 s.lives.length cl2,I J s.epoch,I J s.view,I J s.place,I J s.ent.1,I J s.ent.2.1,Z s.ent.2.2,I J s.commit,I J s.normal,I J s.life,Y ag2 s.grp.length cg2,Y ao2 s.old.length co2,Y aL2 s.log.length cL2] (by rfl) rfl ?c8 (by omega) (by decide) hb.size ?_))
     case c8=>intro u hu;simp at hu;rcases hu with rfl|rfl|rfl|rfl|rfl|rfl|rfl|rfl|rfl|rfl|rfl|rfl|rfl|rfl|rfl <;> rfl
     intro v3 w3 hown3 hg3 hb3 _;have hb03:Below w.heap.size w w3:=hb.trans (hb3.mono (Nat.le_refl _))
     clear y0 y1 y2 y3 y4 y5 y6 y7 y8 y9 y10 y11 y12 y13 y14 hown hb hb3 hg3;go_wp2_with fail;go_roundw
     case rel=>exact⟨k+1,_,by omega,by go_num,by rw[HTk.out];simpa using hown3,by rw[HTk.out];exact HXS.out.app (Rws.one HSc.out),hb03⟩
     case measure=>simp[intOf];omega
  ·obtain rfl:k=ms.length:=by omega
   rw[HF.out] at hown HXS;go_wp2_with fail;go_ret;exact⟨_,rfl,⟨xs,hown,HXS.out⟩,hb⟩
theorem pR (v vr:Value) (ms:List Pm) (lv:List Int) (W F:List Nat) (w:World) (hv:Pms w W F v ms) (hl:ms.length≤1000000) (hg:Ints w vr lv) (hgl:lv.length≤1000000) (hfr:∀ m∈ms,0≤m.frm∧m.frm<lv.length∧m.lives.length=lv.length) :
  Calls Tryz.prog 22 #[v,vr] w fun e w'=>∃ v',e=Zr v'∧kY w w' w.heap.size W F v' (fK ms lv)∧Below w.heap.size w w':=by
 obtain⟨i0,hi,hz0,hz1,hz2⟩:=info_parts Tryz.infoMsg
 obtain⟨a,cap,rfl,hn1,hmx⟩:=hv.shape
 obtain⟨ar,cr,rfl,_,_⟩:=hg.shape
 have HT:Hid (∀ k (hk:k<ms.length),fK (ms.take (k+1)) lv=fK (ms.take k) lv++(if lv.getD ms[k].frm.toNat 0≤ms[k].lives.getD ms[k].frm.toNat 0 then [ms[k]] else [])):=fun k hk=>by
  unfold fK;rw[List.take_succ_eq_append_getElem hk,List.filter_append];congr 1;simp only[List.filter_cons,List.filter_nil,decide_eq_true_eq]
 have HLe:Hid (∀ k,(fK (ms.take k) lv).length≤1000000):=fun k=>by
  have:=List.length_filter_le (fun m:Pm=>decide (lv.getD m.frm.toNat 0≤m.lives.getD m.frm.toNat 0)) (ms.take k)
  unfold fK;rw[List.length_take] at this;omega
 have HF:Hid (fK (ms.take ms.length) lv=fK ms lv):=by unfold Hid;rw[List.take_length]
 go_enter Tryz.func22,Tryz.ntmps22;go_wp2_with fail;go_loopw [5,6] (fun out i wr=>∃ (k:Nat) (xs:List Value),k≤ms.length∧i=I J k∧wr.ownsRow w.heap.size 68 15 out (fK (ms.take k) lv).length xs∧Rws (gF w W F) (fK (ms.take k) lv) xs∧Below w.heap.size w wr) (fun _ i _=>ms.length-(intOf i).toNat)
 case atStart=>exact⟨0,[],Nat.zero_le _,rfl,World.ownsRow_nil _ _ _ _,rfl,Below.refl _ _⟩
 case round =>
  obtain⟨k,xs,hk,rfl,hown,hxs,hb⟩:=hrel
  have HXS:=ah hxs;clear hxs;by_cases hlt:k<ms.length
  ·obtain⟨b,off,al2,cl2,ag2,cg2,ao2,co2,aL2,cL2,rfl,hp2,hc2⟩:=hv.ys k hlt
   have j1:(0:Int)≤(k:Int):=by omega
   have j2:(k:Int)<(ms.length:Int):=by omega
   have hS:gF w W F ms[k] [I .u8 ms[k].kind,I J ms[k].frm,Y al2 ms[k].lives.length cl2,I J ms[k].epoch,I J ms[k].view,I J ms[k].place,I J ms[k].ent.1,I J ms[k].ent.2.1,Z ms[k].ent.2.2,I J ms[k].commit,I J ms[k].normal,I J ms[k].life,Y ag2 ms[k].grp.length cg2,Y ao2 ms[k].old.length co2,Y aL2 ms[k].log.length cL2]:=⟨_,_,_,_,rfl,hp2⟩
   have HSc:=ah hS;have HTk:=ah (HT.out k hlt);have hLk:=HLe.out k;obtain⟨f0,f1,f2⟩:=hfr ms[k] (List.getElem_mem _)
   have hbb:b<w.heap.size:=by
    obtain⟨xs',hrd,_⟩:=hv.rd
    exact hrd.lt b rfl
   have hli:=hp2.lives;clear hS hp2;generalize fK (ms.take k) lv=lk at *;generalize ms[k]=s at *;obtain⟨fn,hfn⟩:∃ f:Nat,s.frm=f:=⟨s.frm.toNat,by omega⟩
   have g1:fn<lv.length:=by omega
   have g2:fn<s.lives.length:=by omega
   obtain⟨b3,o3,rfl,hb3',z3⟩:=hli.get fn g2
   obtain⟨b4,o4,rfl,hb4',z4⟩:=hg.get fn g1
   have e1:s.lives.getD s.frm.toNat 0=s.lives[fn]:=by rw[hfn];simp[List.getD,g2]
   have e2:lv.getD s.frm.toNat 0=lv[fn]:=by rw[hfn];simp[List.getD,g1]
   rw[e1,e2] at HTk;have z3':=(hb.cell (p:=⟨b3,o3+fn,O⟩) hb3').trans z3
   have z4':=(hb.cell (p:=⟨b4,o4+fn,O⟩) hb4').trans z4
   have y1:wr.cell? ⟨b,off+k*15+1,O⟩=some (I J (fn:Int)):=by rw[← hfn];exact (hb.cell (p:=⟨b,off+k*15+1,O⟩) hbb).trans (hc2 1 _ rfl)
   have y2:=(hb.cell (p:=⟨b,off+k*15+2,O⟩) hbb).trans (hc2 2 _ rfl);have j3:(0:Int)≤(fn:Int):=by omega
   have j4:(fn:Int)<(lv.length:Int):=by omega
   have j5:(fn:Int)<(s.lives.length:Int):=by omega
   clear hfn f2 e1 e2;by_cases hq:lv[fn]≤s.lives[fn]
   ·rw[if_pos hq] at HTk;go_wp2_with fail;go_quiet (fail);rename_i nq;have hbq:Below wr.heap.size wr (wr.drewN nq):=below_drewN (Below.refl _ wr) nq
    have hown2:=bH hown hbq;have hb2:=hb.trans (hbq.mono hb.size);have hc4:∀ j u,(#[I .u8 s.kind,I J s.frm,Y (some ⟨b3,o3,O⟩) s.lives.length cl2,I J s.epoch,I J s.view,I J s.place,I J s.ent.1,I J s.ent.2.1,Z s.ent.2.2,I J s.commit,I J s.normal,I J s.life,Y ag2 s.grp.length cg2,Y ao2 s.old.length co2,Y aL2 s.log.length cL2]:Array Value)[j]? = some u→(wr.drewN nq).cell? ⟨b,off+k*15+j,O⟩=some u:=fun j u q=>(hbq.cell (p:=⟨b,off+k*15+j,O⟩) (Nat.lt_of_lt_of_le hbb hb.size)).trans ((hb.cell (p:=⟨b,off+k*15+j,O⟩) hbb).trans (hc2 j u q))
    clear hc2 hown hb hbq y1 y2 z3 z4 z3' z4';generalize wr.drewN nq=wq at *;have y0:=hc4 0 _ rfl;have y1:=hc4 1 _ rfl;have y2:=hc4 2 _ rfl;have y3:=hc4 3 _ rfl;have y4:=hc4 4 _ rfl;have y5:=hc4 5 _ rfl;have y6:=hc4 6 _ rfl;have y7:=hc4 7 _ rfl;have y8:=hc4 8 _ rfl;have y9:=hc4 9 _ rfl;have y10:=hc4 10 _ rfl;have y11:=hc4 11 _ rfl;have y12:=hc4 12 _ rfl;have y13:=hc4 13 _ rfl;have y14:=hc4 14 _ rfl;simp only[Nat.add_zero] at y0;clear hc4;go_wp2_with (at_builtin;go_loud (refine BN rfl _ _ 60 rfl w.heap.size 68 i0 _ 15 192 Tryz.underlying60 hi hz0 hz1 hz2 rfl (by decide) wq wq.heap.size rfl _ _ _ (by rfl) hown2 1 [I .u8 s.kind,I J s.frm,Y (some ⟨b3,o3,O⟩) s.lives.length cl2,I J s.epoch,I J s.view,I J s.place,I J s.ent.1,I J s.ent.2.1,Z s.ent.2.2,I J s.commit,I J s.normal,I J s.life,Y ag2 s.grp.length cg2,Y ao2 s.old.length co2,Y aL2 s.log.length cL2] (by rfl) rfl ?c8 (by omega) (by decide) hb2.size ?_))
    case c8=>intro u hu;simp at hu;rcases hu with rfl|rfl|rfl|rfl|rfl|rfl|rfl|rfl|rfl|rfl|rfl|rfl|rfl|rfl|rfl <;> rfl
    intro v3 w3 hown3 hg3 hb3 _;have hb03:Below w.heap.size w w3:=hb2.trans (hb3.mono (Nat.le_refl _))
    clear y0 y1 y2 y3 y4 y5 y6 y7 y8 y9 y10 y11 y12 y13 y14 hown2 hb2 hb3 hg3;go_wp2_with fail;go_roundw
    case rel=>exact⟨k+1,_,by omega,by go_num,by rw[HTk.out];simpa using hown3,by rw[HTk.out];exact HXS.out.app (Rws.one HSc.out),hb03⟩
    case measure=>simp[intOf];omega
   ·rw[if_neg hq,List.append_nil] at HTk;go_wp2_with fail;go_quiet (fail);rename_i nq;have hbq:Below wr.heap.size wr (wr.drewN nq):=below_drewN (Below.refl _ wr) nq
    have hown2:=bH hown hbq;have hb2:=hb.trans (hbq.mono hb.size);go_wp2_with fail;go_roundw
    case rel=>exact⟨k+1,xs,by omega,by go_num,by rw[HTk.out];exact hown2,by rw[HTk.out];exact HXS.out,hb2⟩
    case measure=>simp[intOf];omega
  ·obtain rfl:k=ms.length:=by omega
   rw[HF.out] at hown HXS;go_wp2_with fail;go_ret;exact⟨_,rfl,⟨xs,hown,HXS.out⟩,hb⟩
theorem kY.pms {w w':World} {base:Nat} {W F:List Nat} {v:Value} {l:List Pm} (m:kY w w' base W F v l) (hb:Below w.heap.size w w') (hW:∀ x∈W,x<w.heap.size) (hbs:w.heap.size≤base):Pms w' W (v.ownBlock.toList++F) v l:=by
 obtain⟨xs,ho,hr⟩:=m
 have hm:Mv w W F W (v.ownBlock.toList++F):=⟨fun x hx=>.inl hx,fun x hx=>List.mem_append.2 (.inr hx),fun x hx=>by
  rcases List.mem_append.1 hx with q|q
  ·exact .inr (Nat.le_trans hbs (ho.lt x (by simpa using q)).1)
  ·exact .inl q⟩
 refine⟨⟨fun k hk hc=>?_,fun k hk=>List.mem_append.2 (.inl (by simpa using hk))⟩,xs,Rd.bK ho,hr.mono (fun P cs q=>q.mv (Kp.of_below hb) hm)⟩
 have:=hW k hc
 have:=(ho.lt k hk).1
 omega
theorem kY.ys {w w':World} {base:Nat} {W F:List Nat} {a:Option Addr} {n cap:Nat} {c:List Pm} (m:kY w w' base W F (Y a n cap) c) (k:Nat) (hk:k<c.length) :
  ∃ b off al cl ag cg ao co aL cL,a=some ⟨b,off,O⟩∧dF w W F c[k] (Y al c[k].lives.length cl) (Y ag c[k].grp.length cg) (Y ao c[k].old.length co) (Y aL c[k].log.length cL) ∧
   ∀ j u,(#[I .u8 c[k].kind,I J c[k].frm,Y al c[k].lives.length cl,I J c[k].epoch,I J c[k].view,I J c[k].place,I J c[k].ent.1,I J c[k].ent.2.1,Z c[k].ent.2.2,I J c[k].commit,I J c[k].normal,I J c[k].life,Y ag c[k].grp.length cg,Y ao c[k].old.length co,Y aL c[k].log.length cL]:Array Value)[j]? = some u→w'.cell? ⟨b,off+k*15+j,O⟩=some u:=by
 obtain⟨xs,ho,hr⟩:=m
 obtain⟨cs,⟨vl,vg,vo,vL,rfl,q1⟩,q2⟩:=Rws.get gF.len hr k hk
 obtain⟨al,cl,ag,cg,ao,co,aL,cL,rfl,rfl,rfl,rfl⟩:=q1.cells
 have hrd:=Rd.bK ho;rcases hrd.2 with ⟨e,e2⟩|⟨b,off,cap',e,_,_,hb,hc⟩
 ·omega
 ·simp only[Value.slice.injEq] at e;obtain⟨rfl,rfl,rfl⟩:=e
  refine⟨b,off,al,cl,ag,cg,ao,co,aL,cL,rfl,q1,fun j u hj=>?_⟩
  have:=hc _ _ (q2 j u (by rw[Array.getElem?_toList];exact hj))
  rwa [← Nat.add_assoc] at this
def G9 (w w':World) (W F:List Nat) (ms:List Pm) (e:Ending):Prop :=
 Below w.heap.size w w'∧((gK ms=O∧e=Zr (.tuple #[.agg #[I .u8 0,I J 0,Y O 0 0,I J 0,I J 0,I J 0,I J 0,I J 0,Z ⟨#[]⟩,I J 0,I J 0,I J 0,Y O 0 0,Y O 0 0,Y O 0 0],.bool false]))∨∃ a vl vg vo vL,gK ms=some a∧e=Zr (.tuple #[.agg (pmC a vl vg vo vL),.bool true])∧dF w' W F a vl vg vo vL)
theorem zJ {c:List Pm} {p:Pm→Bool} {k:Nat} (hk:k<c.length) (h:(c.take k).find? p=O):(c.take (k+1)).find? p=if p c[k] then some c[k] else O:=by
 rw[List.take_succ_eq_append_getElem hk,List.find?_append,h];simp only[Option.none_or,List.find?_cons,List.find?_nil];cases p c[k] <;> rfl
theorem JA {c:List Pm} {p:Pm→Bool} {k:Nat} (hk:k<c.length) (h:(c.take k).find? p=O) (hp:p c[k]=true):c.find? p=some c[k]:=by
 have q:=zJ hk h;rw[hp,if_pos rfl] at q
 conv=>lhs;rw[← List.take_append_drop (k+1) c]
 rw[List.find?_append,q];rfl
theorem CZ (v:Value) (ms:List Pm) (W F:List Nat) (w:World) (hv:Pms w W F v ms) (hl:ms.length≤7) (hW:∀ x∈W,x<w.heap.size) (hF:∀ x∈F,x<w.heap.size) (hgl:∀ m∈ms,m.grp.length≤5) (hvb:∀ m∈ms,m.view≤999) :
  Calls Tryz.prog 80 #[v] w fun e w'=>G9 w w' W F ms e:=by
 obtain⟨a,cap,rfl,hn1,hmx⟩:=hv.shape
 have hz:bB (w.alloc (.cells #[I .u8 0,I J 0,Y O 0 0,I J 0,I J 0,I J 0,I J 0,I J 0,Z ⟨#[]⟩,I J 0,I J 0,I J 0,Y O 0 0,Y O 0 0,Y O 0 0] 68)) w.heap.size #[I .u8 0,I J 0,Y O 0 0,I J 0,I J 0,I J 0,I J 0,I J 0,Z ⟨#[]⟩,I J 0,I J 0,I J 0,Y O 0 0,Y O 0 0,Y O 0 0]:=⟨rfl,heap_alloc_new w _⟩
 have hbZ:Below w.heap.size w (w.alloc (.cells #[I .u8 0,I J 0,Y O 0 0,I J 0,I J 0,I J 0,I J 0,I J 0,Z ⟨#[]⟩,I J 0,I J 0,I J 0,Y O 0 0,Y O 0 0,Y O 0 0] 68)):=(Below.refl _ w).alloc (Nat.le_refl _) _
 have hvZ:=hv.below hbZ;obtain⟨ep,hep⟩:∃ x,x=bV (ms.map (·.epoch)):=⟨_,rfl⟩
 obtain⟨g,hg⟩:∃ x,x=iO ms ep:=⟨_,rfl⟩
 obtain⟨c,hc⟩:∃ x,x=gB ms ep g:=⟨_,rfl⟩
 obtain⟨vw,hvw⟩:∃ x,x=bV (c.map (·.view)):=⟨_,rfl⟩
 have HLd:Hid (gK ms=if (c.length:Int)≤gG g then O else c.find? (fun m=>(m.frm==oG g vw)&&(m.view==vw))):=by
  unfold Hid gK Ir;rw[← hep,← hg,← hc,← hvw]
 have hcl:c.length≤7:=by rw[hc];have:=List.length_filter_le (fun m:Pm=>(m.epoch==ep)&&lN g m.frm) ms;unfold gB;omega
 have hgl5:g.length≤1000:=by
  rw[hg];unfold iO
  split
  ·rename_i m hm;have:=hgl m (by simpa using List.mem_of_find?_eq_some hm)
   omega
  ·simp
 have hvw9:vw≤999:=by
  rw[hvw];refine (FR 999 (by omega) _ (fun x hx=>?_)).2
  obtain⟨m,hm,rfl⟩:=List.mem_map.1 hx
  rw[hc] at hm;exact hvb m (List.mem_filter.1 hm).1
 have HGe:Hid (Calls Tryz.prog 125 #[Y a ms.length cap] (w.alloc (.cells #[I .u8 0,I J 0,Y O 0 0,I J 0,I J 0,I J 0,I J 0,I J 0,Z ⟨#[]⟩,I J 0,I J 0,I J 0,Y O 0 0,Y O 0 0,Y O 0 0] 68)) fun e w'=>e=Zr (I J ep)∧w'=w.alloc (.cells #[I .u8 0,I J 0,Y O 0 0,I J 0,I J 0,I J 0,I J 0,I J 0,Z ⟨#[]⟩,I J 0,I J 0,I J 0,Y O 0 0,Y O 0 0,Y O 0 0] 68)):=by rw[hep];exact sQ _ ms W F _ hvZ (by omega)
 have HGo:Hid (Calls Tryz.prog 126 #[Y a ms.length cap,I J ep] (w.alloc (.cells #[I .u8 0,I J 0,Y O 0 0,I J 0,I J 0,I J 0,I J 0,I J 0,Z ⟨#[]⟩,I J 0,I J 0,I J 0,Y O 0 0,Y O 0 0,Y O 0 0] 68)) fun e w'=>(∃ vg,e=Zr vg∧Ints (w.alloc (.cells #[I .u8 0,I J 0,Y O 0 0,I J 0,I J 0,I J 0,I J 0,I J 0,Z ⟨#[]⟩,I J 0,I J 0,I J 0,Y O 0 0,Y O 0 0,Y O 0 0] 68)) vg g∧Sl W F vg)∧w'=w.alloc (.cells #[I .u8 0,I J 0,Y O 0 0,I J 0,I J 0,I J 0,I J 0,I J 0,Z ⟨#[]⟩,I J 0,I J 0,I J 0,Y O 0 0,Y O 0 0,Y O 0 0] 68)):=by rw[hg];exact CX _ ms ep W F _ hvZ (by omega)
 have HOg:Hid (∀ vr,Ints (w.alloc (.cells #[I .u8 0,I J 0,Y O 0 0,I J 0,I J 0,I J 0,I J 0,I J 0,Z ⟨#[]⟩,I J 0,I J 0,I J 0,Y O 0 0,Y O 0 0,Y O 0 0] 68)) vr g→Calls Tryz.prog 127 #[Y a ms.length cap,I J ep,vr] (w.alloc (.cells #[I .u8 0,I J 0,Y O 0 0,I J 0,I J 0,I J 0,I J 0,I J 0,Z ⟨#[]⟩,I J 0,I J 0,I J 0,Y O 0 0,Y O 0 0,Y O 0 0] 68)) fun e w'=>∃ v',e=Zr v'∧kY (w.alloc (.cells #[I .u8 0,I J 0,Y O 0 0,I J 0,I J 0,I J 0,I J 0,I J 0,Z ⟨#[]⟩,I J 0,I J 0,I J 0,Y O 0 0,Y O 0 0,Y O 0 0] 68)) w' (w.alloc (.cells #[I .u8 0,I J 0,Y O 0 0,I J 0,I J 0,I J 0,I J 0,I J 0,Z ⟨#[]⟩,I J 0,I J 0,I J 0,Y O 0 0,Y O 0 0,Y O 0 0] 68)).heap.size W F v' c∧Below (w.alloc (.cells #[I .u8 0,I J 0,Y O 0 0,I J 0,I J 0,I J 0,I J 0,I J 0,Z ⟨#[]⟩,I J 0,I J 0,I J 0,Y O 0 0,Y O 0 0,Y O 0 0] 68)).heap.size (w.alloc (.cells #[I .u8 0,I J 0,Y O 0 0,I J 0,I J 0,I J 0,I J 0,I J 0,Z ⟨#[]⟩,I J 0,I J 0,I J 0,Y O 0 0,Y O 0 0,Y O 0 0] 68)) w'):=fun vr hr=>by rw[hc];exact C8 _ vr ms ep g W F _ hvZ (by omega) hr (by omega)
 have hWZ:∀ x∈W,x<(w.alloc (.cells #[I .u8 0,I J 0,Y O 0 0,I J 0,I J 0,I J 0,I J 0,I J 0,Z ⟨#[]⟩,I J 0,I J 0,I J 0,Y O 0 0,Y O 0 0,Y O 0 0] 68)).heap.size:=fun x hx=>Nat.lt_of_lt_of_le (hW x hx) hbZ.size
 have HPb:Hid (∀ P vl vg vo vL,dF (w.alloc (.cells #[I .u8 0,I J 0,Y O 0 0,I J 0,I J 0,I J 0,I J 0,I J 0,Z ⟨#[]⟩,I J 0,I J 0,I J 0,Y O 0 0,Y O 0 0,Y O 0 0] 68)) W F P vl vg vo vL→dF w W F P vl vg vo vL→True):=fun _ _ _ _ _ _ _=>trivial
 have HVw:=ah hvw;have HF:=ah hF;clear hep hg hc hvw HPb hv hgl hvb;go_enter Tryz.func80,Tryz.ntmps80;go_wp2_with fail;generalize w.alloc (.cells #[I .u8 0,I J 0,Y O 0 0,I J 0,I J 0,I J 0,I J 0,I J 0,Z ⟨#[]⟩,I J 0,I J 0,I J 0,Y O 0 0,Y O 0 0,Y O 0 0] 68)=wZ at *;refine HGe.out.mono ?_;rintro e w1 ⟨rfl,hw1⟩;subst hw1;go_wp2_with fail;refine HGo.out.mono ?_;rintro e w2 ⟨⟨vr,rfl,hIr,_⟩,hw2⟩;subst hw2;obtain⟨ar,cr,rfl,_,_⟩:=hIr.shape
 have HOg2:=ah (HOg.out _ hIr);clear HOg HGe HGo;go_wp2_with fail;refine HOg2.out.mono ?_;rintro e w3 ⟨v3,rfl,hms,hb3⟩;have hP3:=hms.pms hb3 hWZ (Nat.le_refl _);obtain⟨a3,cp3,rfl,hc3a,hc3b⟩:=hP3.shape
 have HMs:=ah hms;have hI3:=hIr.below hb3;have HZ3:Hid (bB w3 w.heap.size #[I .u8 0,I J 0,Y O 0 0,I J 0,I J 0,I J 0,I J 0,I J 0,Z ⟨#[]⟩,I J 0,I J 0,I J 0,Y O 0 0,Y O 0 0,Y O 0 0]):=hz.kp (S:=[]) (Kp.of_below hb3) (by simp)
 have HB03:Hid (Below w.heap.size w w3):=hbZ.trans (hb3.mono hbZ.size)
 have HBz3:=ah hb3;have HFa:=ah (nW _ g w3 hI3 hgl5);have HGv:=ah (uy _ c W _ w3 hP3 (by omega))
 rw[← HVw.out] at HGv;have HPr:=ah (qU _ g vw w3 hI3 hgl5 (by omega))
 clear hms hP3 hI3 hIr hb3 hz HOg2;go_wp2_with fail;refine HFa.out.mono ?_;rintro e w4 ⟨rfl,hw4⟩;subst hw4;obtain⟨w3,Hw3⟩:∃ x,x=w4:=⟨_,rfl⟩
 subst Hw3;by_cases q:(c.length:Int)≤gG g
 ·have HE:Hid (gK ms=O):=by unfold Hid;rw[HLd.out,if_pos q]
  have HL:=ah (jv HZ3.out (I .u8 0) (I J 0) (Y O 0 0) (I J 0) (I J 0) (I J 0) (I J 0) (I J 0) (Z ⟨#[]⟩) (I J 0) (I J 0) (I J 0) (Y O 0 0) (Y O 0 0) (Y O 0 0));have HB:=ah (eP (Nat.le_refl w.heap.size) [I .u8 0,I J 0,Y O 0 0,I J 0,I J 0,I J 0,I J 0,I J 0,Z ⟨#[]⟩,I J 0,I J 0,I J 0,Y O 0 0,Y O 0 0,Y O 0 0] w3 0 HB03.out);rw[← jP] at HL HB;have HTh:=ah HZ3.out.there;have HOne:Hid ((#[I .u8 0,I J 0,Y O 0 0,I J 0,I J 0,I J 0,I J 0,I J 0,Z ⟨#[]⟩,I J 0,I J 0,I J 0,Y O 0 0,Y O 0 0,Y O 0 0]:Array Value).all (·.oneCell')=true):=all_oneCell_toArray (cs:=[I .u8 0,I J 0,Y O 0 0,I J 0,I J 0,I J 0,I J 0,I J 0,Z ⟨#[]⟩,I J 0,I J 0,I J 0,Y O 0 0,Y O 0 0,Y O 0 0]) (by intro u hu;simp at hu;rcases hu with rfl|rfl|rfl|rfl|rfl|rfl|rfl|rfl|rfl|rfl|rfl|rfl|rfl|rfl|rfl <;> rfl)
  clear HGv HPr;go_wp2_with (refine wpList_store_mid rfl 68 (.tmp 2) (.tmp 24) (by rfl) w.heap.size 0 #[I .u8 0,I J 0,Y O 0 0,I J 0,I J 0,I J 0,I J 0,I J 0,Z ⟨#[]⟩,I J 0,I J 0,I J 0,Y O 0 0,Y O 0 0,Y O 0 0] (by rfl) (by rfl) HTh.out Tryz.sizeMsg HOne.out ?_)
  go_wp2_with fail;exact bodyPost_ret (dB rfl _ _ _ rfl HL.out) rfl ⟨HB.out,.inl ⟨HE.out,rfl⟩⟩
 ·have HE1:Hid (gK ms=c.find? (fun m=>(m.frm==oG g vw)&&(m.view==vw))):=by unfold Hid;rw[HLd.out,if_neg q]
  clear HLd;go_wp2_with fail;refine HGv.out.mono ?_;rintro e w5 ⟨rfl,hw5⟩;subst hw5;go_wp2_with fail;refine HPr.out.mono ?_;rintro e w6 ⟨rfl,hw6⟩;subst hw6;obtain⟨w3,Hw3⟩:∃ x,x=w6:=⟨_,rfl⟩
  subst Hw3;generalize oG g vw=pr at *;go_wp2_with fail;go_loopw [9] (fun i wr=>∃ k:Nat,k≤c.length∧i=I J k∧(c.take k).find? (fun m=>(m.frm==pr)&&(m.view==vw))=O∧wr=w3) (fun i _=>c.length-(intOf i).toNat)
  case atStart=>exact⟨0,Nat.zero_le _,rfl,rfl,rfl⟩
  case round =>
   obtain⟨k,hk,rfl,hfk,hwr⟩:=hrel
   have HFk:=ah hfk;clear hfk;subst hwr;obtain⟨w3,Hw3⟩:∃ x,x=wr:=⟨_,rfl⟩
   subst Hw3;by_cases hlt:k<c.length
   ·obtain⟨b,off,al,cl,ag,cg,ao,co,aL,cL,rfl,hp2,hc2⟩:=HMs.out.ys k hlt
    have j1:(0:Int)≤(k:Int):=by omega
    have j2:(k:Int)<(c.length:Int):=by omega
    have HP2:=ah (hp2.below HBz3.out);have HSn:=ah (zJ hlt HFk.out);have HAt:=ah (JA hlt HFk.out);have HOne:Hid ((#[I .u8 c[k].kind,I J c[k].frm,Y al c[k].lives.length cl,I J c[k].epoch,I J c[k].view,I J c[k].place,I J c[k].ent.1,I J c[k].ent.2.1,Z c[k].ent.2.2,I J c[k].commit,I J c[k].normal,I J c[k].life,Y ag c[k].grp.length cg,Y ao c[k].old.length co,Y aL c[k].log.length cL]:Array Value).all (·.oneCell')=true):=Ep hp2
    clear hp2;have y0:=hc2 0 _ rfl;have y1:=hc2 1 _ rfl;have y2:=hc2 2 _ rfl;have y3:=hc2 3 _ rfl;have y4:=hc2 4 _ rfl;have y5:=hc2 5 _ rfl;have y6:=hc2 6 _ rfl;have y7:=hc2 7 _ rfl;have y8:=hc2 8 _ rfl;have y9:=hc2 9 _ rfl;have y10:=hc2 10 _ rfl;have y11:=hc2 11 _ rfl;have y12:=hc2 12 _ rfl;have y13:=hc2 13 _ rfl;have y14:=hc2 14 _ rfl;simp only[Nat.add_zero] at y0;clear hc2;generalize c[k]=s at *;cases hf:(s.frm==pr)
    ·go_wp2_with fail;go_roundw
     case rel=>exact⟨k+1,by omega,by go_num,by rw[HSn.out,hf];rfl,by trivial⟩
     case measure=>simp[intOf];omega
    ·cases hvv:(s.view==vw)
     ·go_wp2_with fail;go_roundw
      case rel=>exact⟨k+1,by omega,by go_num,by rw[HSn.out,hf,hvv];rfl,by trivial⟩
      case measure=>simp[intOf];omega
     ·have HE:Hid (gK ms=some s):=by unfold Hid;rw[HE1.out];exact HAt.out (by rw[hf,hvv];rfl)
      have HL:=ah (jv HZ3.out (I .u8 s.kind) (I J s.frm) (Y al s.lives.length cl) (I J s.epoch) (I J s.view) (I J s.place) (I J s.ent.1) (I J s.ent.2.1) (Z s.ent.2.2) (I J s.commit) (I J s.normal) (I J s.life) (Y ag s.grp.length cg) (Y ao s.old.length co) (Y aL s.log.length cL));have HB:=ah (eP (Nat.le_refl w.heap.size) [I .u8 s.kind,I J s.frm,Y al s.lives.length cl,I J s.epoch,I J s.view,I J s.place,I J s.ent.1,I J s.ent.2.1,Z s.ent.2.2,I J s.commit,I J s.normal,I J s.life,Y ag s.grp.length cg,Y ao s.old.length co,Y aL s.log.length cL] w3 0 HB03.out);have HPz:Hid (dF (cZ w3 w.heap.size 0 [I .u8 s.kind,I J s.frm,Y al s.lives.length cl,I J s.epoch,I J s.view,I J s.place,I J s.ent.1,I J s.ent.2.1,Z s.ent.2.2,I J s.commit,I J s.normal,I J s.life,Y ag s.grp.length cg,Y ao s.old.length co,Y aL s.log.length cL]) W F s _ _ _ _):=HP2.out.far (kK (g:=w.heap.size) [I .u8 s.kind,I J s.frm,Y al s.lives.length cl,I J s.epoch,I J s.view,I J s.place,I J s.ent.1,I J s.ent.2.1,Z s.ent.2.2,I J s.commit,I J s.normal,I J s.life,Y ag s.grp.length cg,Y ao s.old.length co,Y aL s.log.length cL] w3 0) (fun x hx hc=>by simp at hx;subst hx;have:=HF.out _ hc;omega)
      rw[← jP] at HL HB HPz;have HTh:=ah HZ3.out.there;go_wp2_with (refine wpList_store_mid rfl 68 (.tmp 2) (.tmp 55) (by rfl) w.heap.size 0 #[I .u8 s.kind,I J s.frm,Y al s.lives.length cl,I J s.epoch,I J s.view,I J s.place,I J s.ent.1,I J s.ent.2.1,Z s.ent.2.2,I J s.commit,I J s.normal,I J s.life,Y ag s.grp.length cg,Y ao s.old.length co,Y aL s.log.length cL] (by rfl) (by rfl) HTh.out Tryz.sizeMsg HOne.out ?_)
      go_wp2_with fail;exact bodyPost_ret (dB rfl _ _ _ rfl HL.out) rfl ⟨HB.out,.inr ⟨s,_,_,_,_,HE.out,rfl,HPz.out⟩⟩
   ·obtain rfl:k=c.length:=by omega
    have HE:Hid (gK ms=O):=by unfold Hid;rw[HE1.out];have:=HFk.out;rwa [List.take_length] at this
    have HL:=ah (jv HZ3.out (I .u8 0) (I J 0) (Y O 0 0) (I J 0) (I J 0) (I J 0) (I J 0) (I J 0) (Z ⟨#[]⟩) (I J 0) (I J 0) (I J 0) (Y O 0 0) (Y O 0 0) (Y O 0 0));have HB:=ah (eP (Nat.le_refl w.heap.size) [I .u8 0,I J 0,Y O 0 0,I J 0,I J 0,I J 0,I J 0,I J 0,Z ⟨#[]⟩,I J 0,I J 0,I J 0,Y O 0 0,Y O 0 0,Y O 0 0] w3 0 HB03.out);rw[← jP] at HL HB;have HTh:=ah HZ3.out.there;have HOne:Hid ((#[I .u8 0,I J 0,Y O 0 0,I J 0,I J 0,I J 0,I J 0,I J 0,Z ⟨#[]⟩,I J 0,I J 0,I J 0,Y O 0 0,Y O 0 0,Y O 0 0]:Array Value).all (·.oneCell')=true):=all_oneCell_toArray (cs:=[I .u8 0,I J 0,Y O 0 0,I J 0,I J 0,I J 0,I J 0,I J 0,Z ⟨#[]⟩,I J 0,I J 0,I J 0,Y O 0 0,Y O 0 0,Y O 0 0]) (by intro u hu;simp at hu;rcases hu with rfl|rfl|rfl|rfl|rfl|rfl|rfl|rfl|rfl|rfl|rfl|rfl|rfl|rfl|rfl <;> rfl)
    go_wp2_with (refine wpList_store_mid rfl 68 (.tmp 2) (.tmp 56) (by rfl) w.heap.size 0 #[I .u8 0,I J 0,Y O 0 0,I J 0,I J 0,I J 0,I J 0,I J 0,Z ⟨#[]⟩,I J 0,I J 0,I J 0,Y O 0 0,Y O 0 0,Y O 0 0] (by rfl) (by rfl) HTh.out Tryz.sizeMsg HOne.out ?_)
    go_wp2_with fail;exact bodyPost_ret (dB rfl _ _ _ rfl HL.out) rfl ⟨HB.out,.inl ⟨HE.out,rfl⟩⟩
end Go.Proofs.YtajakaadgagejaaGreatDoor
