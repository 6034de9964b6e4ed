import Derived.Test.YtbnihoahhomooaaGreatDoorA11
set_option maxRecDepth 100000
set_option maxHeartbeats 8000000
set_option linter.all false
namespace Go.Proofs.YtbnihoahhomooaaGreatDoor
open Go.Value renaming int→I,slice→Y,string→Z,pointer→Zp
open Go.Ending renaming returned→Zr
open _root_.ByteArray renaming empty→Ze
open Go.IntKind renaming i64→J
open Option renaming none→O
open Go.RowKit
theorem uT (v:Value) (ms:List Pm) (W F:List Nat) (w:World) (hv:Pms w W F v ms) (hl:ms.length≤1000000) :
  Calls Tryz.prog 125 #[v] w fun e w'=>e=Zr (I J (cZ (ms.map (·.epoch))))∧w'=w:=by
 obtain⟨a,cap,rfl,_,_⟩:=hv.shape
 have HT:Hid (∀ k (hk:k<ms.length),cZ ((ms.take (k+1)).map (·.epoch))=if cZ ((ms.take k).map (·.epoch))<ms[k].epoch then ms[k].epoch else cZ ((ms.take k).map (·.epoch))):=fun k hk=>by
  rw[List.take_succ_eq_append_getElem hk,List.map_append];exact qF _ _
 have HF:Hid (cZ ((ms.take ms.length).map (·.epoch))=cZ (ms.map (·.epoch))):=by unfold Hid;rw[List.take_length]
 have H0:Hid (cZ ((ms.take 0).map (·.epoch))=0):=rfl
 go_enter Tryz.func125,Tryz.ntmps125;go_wp2_with fail;go_loop [3,4] (fun g i=>∃ k:Nat,k≤ms.length∧i=I J k∧g=I J (cZ ((ms.take k).map (·.epoch)))) (fun _ i=>ms.length-(intOf i).toNat)
 case atStart=>exact⟨0,Nat.zero_le _,rfl,by rw[H0.out]⟩
 case round =>
  obtain⟨k,hk,rfl,rfl⟩:=hrel
  by_cases hlt:k<ms.length
  ·obtain⟨b,off,al,cl,ag,cg,ao,co,aL,cL,rfl,_,hc⟩:=hv.ys k hlt
   have y:=hc 3 _ rfl;have j1:(0:Int)≤(k:Int):=by omega
   have j2:(k:Int)<(ms.length:Int):=by omega
   have HTk:=ah (HT.out k hlt);clear hc;generalize cZ ((ms.take k).map (·.epoch))=g at *;by_cases hq:g<ms[k].epoch
   ·go_wp2_with fail;go_round
    case rel=>exact⟨k+1,by omega,by go_num,by rw[HTk.out,if_pos hq]⟩
    case measure=>simp[intOf];omega
   ·go_wp2_with fail;go_round
    case rel=>exact⟨k+1,by omega,by go_num,by rw[HTk.out,if_neg hq]⟩
    case measure=>simp[intOf];omega
  ·obtain rfl:k=ms.length:=by omega
   rw[HF.out];go_wp2;go_ret;exact⟨rfl,rfl⟩
theorem wQ (v:Value) (ms:List Pm) (W F:List Nat) (w:World) (hv:Pms w W F v ms) (hl:ms.length≤1000000) :
  Calls Tryz.prog 128 #[v] w fun e w'=>e=Zr (I J (cZ (ms.map (·.view))))∧w'=w:=by
 obtain⟨a,cap,rfl,_,_⟩:=hv.shape
 have HT:Hid (∀ k (hk:k<ms.length),cZ ((ms.take (k+1)).map (·.view))=if cZ ((ms.take k).map (·.view))<ms[k].view then ms[k].view else cZ ((ms.take k).map (·.view))):=fun k hk=>by
  rw[List.take_succ_eq_append_getElem hk,List.map_append];exact qF _ _
 have HF:Hid (cZ ((ms.take ms.length).map (·.view))=cZ (ms.map (·.view))):=by unfold Hid;rw[List.take_length]
 have H0:Hid (cZ ((ms.take 0).map (·.view))=0):=rfl
 go_enter Tryz.func128,Tryz.ntmps128;go_wp2_with fail;go_loop [3,4] (fun g i=>∃ k:Nat,k≤ms.length∧i=I J k∧g=I J (cZ ((ms.take k).map (·.view)))) (fun _ i=>ms.length-(intOf i).toNat)
 case atStart=>exact⟨0,Nat.zero_le _,rfl,by rw[H0.out]⟩
 case round =>
  obtain⟨k,hk,rfl,rfl⟩:=hrel
  by_cases hlt:k<ms.length
  ·obtain⟨b,off,al,cl,ag,cg,ao,co,aL,cL,rfl,_,hc⟩:=hv.ys k hlt
   have y:=hc 4 _ rfl;have j1:(0:Int)≤(k:Int):=by omega
   have j2:(k:Int)<(ms.length:Int):=by omega
   have HTk:=ah (HT.out k hlt);clear hc;generalize cZ ((ms.take k).map (·.view))=g at *;by_cases hq:g<ms[k].view
   ·go_wp2_with fail;go_round
    case rel=>exact⟨k+1,by omega,by go_num,by rw[HTk.out,if_pos hq]⟩
    case measure=>simp[intOf];omega
   ·go_wp2_with fail;go_round
    case rel=>exact⟨k+1,by omega,by go_num,by rw[HTk.out,if_neg hq]⟩
    case measure=>simp[intOf];omega
  ·obtain rfl:k=ms.length:=by omega
   rw[HF.out];go_wp2;go_ret;exact⟨rfl,rfl⟩
theorem tO (v:Value) (ms:List Pm) (W F:List Nat) (w:World) (hv:Pms w W F v ms) (hl:ms.length≤1000000) :
  Calls Tryz.prog 163 #[v] w fun e w'=>e=Zr (I J (cZ (ms.map (·.commit))))∧w'=w:=by
 obtain⟨a,cap,rfl,_,_⟩:=hv.shape
 have HT:Hid (∀ k (hk:k<ms.length),cZ ((ms.take (k+1)).map (·.commit))=if cZ ((ms.take k).map (·.commit))<ms[k].commit then ms[k].commit else cZ ((ms.take k).map (·.commit))):=fun k hk=>by
  rw[List.take_succ_eq_append_getElem hk,List.map_append];exact qF _ _
 have HF:Hid (cZ ((ms.take ms.length).map (·.commit))=cZ (ms.map (·.commit))):=by unfold Hid;rw[List.take_length]
 have H0:Hid (cZ ((ms.take 0).map (·.commit))=0):=rfl
 go_enter Tryz.func163,Tryz.ntmps163;go_wp2_with fail;go_loop [3,4] (fun g i=>∃ k:Nat,k≤ms.length∧i=I J k∧g=I J (cZ ((ms.take k).map (·.commit)))) (fun _ i=>ms.length-(intOf i).toNat)
 case atStart=>exact⟨0,Nat.zero_le _,rfl,by rw[H0.out]⟩
 case round =>
  obtain⟨k,hk,rfl,rfl⟩:=hrel
  by_cases hlt:k<ms.length
  ·obtain⟨b,off,al,cl,ag,cg,ao,co,aL,cL,rfl,_,hc⟩:=hv.ys k hlt
   have y:=hc 9 _ rfl;have j1:(0:Int)≤(k:Int):=by omega
   have j2:(k:Int)<(ms.length:Int):=by omega
   have HTk:=ah (HT.out k hlt);clear hc;generalize cZ ((ms.take k).map (·.commit))=g at *;by_cases hq:g<ms[k].commit
   ·go_wp2_with fail;go_round
    case rel=>exact⟨k+1,by omega,by go_num,by rw[HTk.out,if_pos hq]⟩
    case measure=>simp[intOf];omega
   ·go_wp2_with fail;go_round
    case rel=>exact⟨k+1,by omega,by go_num,by rw[HTk.out,if_neg hq]⟩
    case measure=>simp[intOf];omega
  ·obtain rfl:k=ms.length:=by omega
   rw[HF.out];go_wp2;go_ret;exact⟨rfl,rfl⟩
def uI (ms:List Pm) (e:Int) (k:Nat):List Int:=jf (ms.take k) e
theorem FM {ms:List Pm} {e:Int} {k:Nat} (h:k<ms.length):uI ms e (k+1)=if (ms[k].epoch==e)=true then ms[k].grp else uI ms e k:=by
 unfold uI jf;rw[List.take_succ_eq_append_getElem h,List.reverse_append];simp only[List.reverse_cons,List.reverse_nil,List.nil_append,List.singleton_append,List.find?_cons];cases q:(ms[k].epoch==e) <;> simp
theorem EL (v:Value) (ms:List Pm) (ep:Int) (W F:List Nat) (w:World) (hv:Pms w W F v ms) (hl:ms.length≤1000000) :
  Calls Tryz.prog 126 #[v,I J ep] w fun e w'=>(∃ vg,e=Zr vg∧Ints w vg (jf ms ep)∧Sl W F vg)∧w'=w:=by
 obtain⟨a,cap,rfl,_,_⟩:=hv.shape
 have HT:Hid (∀ k (hk:k<ms.length),uI ms ep (k+1)=if (ms[k].epoch==ep)=true then ms[k].grp else uI ms ep k):=fun k hk=>FM hk
 have HF:Hid (jf ms ep=uI ms ep ms.length):=by unfold Hid uI;rw[List.take_length]
 have H0:Hid (uI ms ep 0=[]):=rfl
 go_enter Tryz.func126,Tryz.ntmps126;go_wp2_with fail;go_loop [5] (fun i=>∃ k:Nat,k≤ms.length∧i=I J ((k:Int)-1)∧jf ms ep=uI ms ep k) (fun i=>(intOf i+1).toNat)
 case atStart=>exact⟨ms.length,Nat.le_refl _,by go_num,HF.out⟩
 case round =>
  obtain⟨k,hk,rfl,hk2⟩:=hrel
  have HK:=ah hk2;clear hk2;by_cases hz:k=0
  ·subst hz;have HZ:Hid (jf ms ep=[]):=by unfold Hid;rw[HK.out,H0.out]
   go_wp2;go_ret;exact⟨⟨_,rfl,by rw[HZ.out];exact gD _,Sl.nil _ _⟩,rfl⟩
  ·obtain⟨j,rfl⟩:∃ j,k=j+1:=⟨k-1,by omega⟩
   have hlt:j<ms.length:=by omega
   obtain⟨b,off,al,cl,ag,cg,ao,co,aL,cL,rfl,hp,hc⟩:=hv.ys j hlt
   have y3:=hc 3 _ rfl;have y12:=hc 12 _ rfl;have j1:(0:Int)≤(j:Int):=by omega
   have j2:(j:Int)<(ms.length:Int):=by omega
   have j3:(((j+1:Nat):Int)-1)=(j:Int):=by omega
   have HTk:=ah (HT.out j hlt);have HP:Hid (Ints w (Y ag ms[j].grp.length cg) ms[j].grp∧Sl W F (Y ag ms[j].grp.length cg)):=⟨hp.grp,hp.sg⟩
   clear hc hp;rw[j3];cases hq:(ms[j].epoch==ep)
   ·go_wp2_with fail;go_round
    case rel=>exact⟨j,by omega,by go_num,by rw[HK.out,HTk.out,hq];rfl⟩
    case measure=>simp[intOf]
   ·have HZ:Hid (jf ms ep=ms[j].grp):=by unfold Hid;rw[HK.out,HTk.out,hq];rfl
    go_wp2;go_ret;exact⟨⟨_,rfl,by rw[HZ.out];exact HP.out.1,HP.out.2⟩,rfl⟩
theorem EP (v vr:Value) (ms:List Pm) (ep:Int) (g:List Int) (W F:List Nat) (w:World) (hv:Pms w W F v ms) (hl:ms.length≤1000000) (hg:Ints w vr g) (hgl:g.length≤1000000) :
  Calls Tryz.prog 127 #[v,I J ep,vr] w fun e w'=>∃ v',e=Zr v'∧l8 w w' w.heap.size W F v' (gT ms ep g)∧Below w.heap.size w w':=by
 obtain⟨i0,hi,hz0,hz1,hz2⟩:=info_parts Tryz.infoMsg
 obtain⟨a,cap,rfl,hn1,hmx⟩:=hv.shape
 obtain⟨ar,cr,rfl,_,_⟩:=hg.shape
 have HC:Hid (∀ x w',Below w.heap.size w w'→Calls Tryz.prog 39 #[Y ar g.length cr,I J x] w' fun e w2=>e=Zr (.bool (iQ g x))∧w2=w'):=fun x w' hb=>lT _ g x w' (hg.below hb) hgl
 have HT:Hid (∀ k (hk:k<ms.length),gT (ms.take (k+1)) ep g=gT (ms.take k) ep g++(if ((ms[k].epoch==ep)&&iQ g ms[k].frm)=true then [ms[k]] else [])):=fun k hk=>by
  unfold gT;rw[List.take_succ_eq_append_getElem hk,List.filter_append];congr 1;simp only[List.filter_cons,List.filter_nil]
 have HLe:Hid (∀ k,(gT (ms.take k) ep g).length≤1000000):=fun k=>by
  have:=List.length_filter_le (fun m:Pm=>(m.epoch==ep)&&iQ g m.frm) (ms.take k)
  unfold gT;rw[List.length_take] at this;omega
 have HF:Hid (gT (ms.take ms.length) ep g=gT ms ep g):=by unfold Hid;rw[List.take_length]
 go_enter Tryz.func127,Tryz.ntmps127;go_wp2_with fail;go_loopw [7,8] (fun out i wr=>∃ (k:Nat) (xs:List Value),k≤ms.length∧i=I J k∧wr.ownsRow w.heap.size 68 15 out (gT (ms.take k) ep g).length xs∧Rws (gV w W F) (gT (ms.take k) ep g) xs∧Below w.heap.size w wr) (fun _ i _=>ms.length-(intOf i).toNat)
 case atStart=>exact⟨0,[],Nat.zero_le _,rfl,World.ownsRow_nil _ _ _ _,rfl,Below.refl _ _⟩
 case round =>
  obtain⟨k,xs,hk,rfl,hown,hxs,hb⟩:=hrel
  have HXS:=ah hxs;clear hxs;by_cases hlt:k<ms.length
  ·obtain⟨b,off,al2,cl2,ag2,cg2,ao2,co2,aL2,cL2,rfl,hp2,hc2⟩:=hv.ys k hlt
   have j1:(0:Int)≤(k:Int):=by omega
   have j2:(k:Int)<(ms.length:Int):=by omega
   have hS:gV w W F ms[k] [I .u8 ms[k].kind,I J ms[k].frm,Y al2 ms[k].lives.length cl2,I J ms[k].epoch,I J ms[k].view,I J ms[k].place,I J ms[k].ent.1,I J ms[k].ent.2.1,Z ms[k].ent.2.2,I J ms[k].commit,I J ms[k].normal,I J ms[k].life,Y ag2 ms[k].grp.length cg2,Y ao2 ms[k].old.length co2,Y aL2 ms[k].log.length cL2]:=⟨_,_,_,_,rfl,hp2⟩
   have HSc:=ah hS;have HTk:=ah (HT.out k hlt);have hLk:=HLe.out k;have hbb:b<w.heap.size:=by
    obtain⟨xs',hrd,_⟩:=hv.rd
    exact hrd.lt b rfl
   clear hS hp2;have hc3:∀ j u,(#[I .u8 ms[k].kind,I J ms[k].frm,Y al2 ms[k].lives.length cl2,I J ms[k].epoch,I J ms[k].view,I J ms[k].place,I J ms[k].ent.1,I J ms[k].ent.2.1,Z ms[k].ent.2.2,I J ms[k].commit,I J ms[k].normal,I J ms[k].life,Y ag2 ms[k].grp.length cg2,Y ao2 ms[k].old.length co2,Y aL2 ms[k].log.length cL2]:Array Value)[j]? = some u→wr.cell? ⟨b,off+k*15+j,O⟩=some u:=fun j u q=>(hb.cell (p:=⟨b,off+k*15+j,O⟩) hbb).trans (hc2 j u q)
   clear hc2;generalize gT (ms.take k) ep g=lk at *;generalize ms[k]=s at *;have y0:=hc3 0 _ rfl;have y1:=hc3 1 _ rfl;have y2:=hc3 2 _ rfl;have y3:=hc3 3 _ rfl;have y4:=hc3 4 _ rfl;have y5:=hc3 5 _ rfl;have y6:=hc3 6 _ rfl;have y7:=hc3 7 _ rfl;have y8:=hc3 8 _ rfl;have y9:=hc3 9 _ rfl;have y10:=hc3 10 _ rfl;have y11:=hc3 11 _ rfl;have y12:=hc3 12 _ rfl;have y13:=hc3 13 _ rfl;have y14:=hc3 14 _ rfl;simp only[Nat.add_zero] at y0;clear hc3;cases hq:(s.epoch==ep)
   ·rw[hq] at HTk;go_wp2;go_roundw
    case rel=>exact⟨k+1,xs,by omega,by go_num,by rw[HTk.out];simpa using hown,by rw[HTk.out];simpa using HXS.out,hb⟩
    case measure=>simp[intOf];omega
   ·rw[hq] at HTk;have HCk:=ah (HC.out s.frm wr hb);cases hm:iQ g s.frm
    ·rw[hm] at HTk HCk;go_wp2_with fail;refine HCk.out.mono ?_;rintro e w2 ⟨rfl,hw2⟩;subst hw2;go_wp2;go_roundw
     case rel=>exact⟨k+1,xs,by omega,by go_num,by rw[HTk.out];simpa using hown,by rw[HTk.out];simpa using HXS.out,hb⟩
     case measure=>simp[intOf];omega
    ·rw[hm] at HTk HCk;go_wp2_with fail;refine HCk.out.mono ?_;rintro e w2 ⟨rfl,hw2⟩;subst hw2;go_wp2_with (at_builtin;go_loud (refine DR rfl _ _ 60 rfl w.heap.size 68 i0 _ 15 192 Tryz.underlying60 hi hz0 hz1 hz2 rfl (by decide) w2 w2.heap.size rfl _ _ _ (by rfl) hown 1 [I .u8 s.kind,I J s.frm,Y al2 s.lives.length cl2,I J s.epoch,I J s.view,I J s.place,I J s.ent.1,I J s.ent.2.1,Z s.ent.2.2,I J s.commit,I J s.normal,I J s.life,Y ag2 s.grp.length cg2,Y ao2 s.old.length co2,Y aL2 s.log.length cL2] (by rfl) rfl ?c8 (by omega) (by decide) hb.size ?_))
     case c8=>intro u hu;simp at hu;rcases hu with rfl|rfl|rfl|rfl|rfl|rfl|rfl|rfl|rfl|rfl|rfl|rfl|rfl|rfl|rfl <;> rfl
     intro v3 w3 hown3 hg3 hb3 _;have hb03:Below w.heap.size w w3:=hb.trans (hb3.mono (Nat.le_refl _))
     clear y0 y1 y2 y3 y4 y5 y6 y7 y8 y9 y10 y11 y12 y13 y14 hown hb hb3 hg3;go_wp2;go_roundw
     case rel=>exact⟨k+1,_,by omega,by go_num,by rw[HTk.out];simpa using hown3,by rw[HTk.out];exact HXS.out.app (Rws.one HSc.out),hb03⟩
     case measure=>simp[intOf];omega
  ·obtain rfl:k=ms.length:=by omega
   rw[HF.out] at hown HXS;go_wp2;go_ret;exact⟨_,rfl,⟨xs,hown,HXS.out⟩,hb⟩
theorem qO (v vr:Value) (ms:List Pm) (lv:List Int) (W F:List Nat) (w:World) (hv:Pms w W F v ms) (hl:ms.length≤1000000) (hg:Ints w vr lv) (hgl:lv.length≤1000000) (hfr:∀ m∈ms,0≤m.frm∧m.frm<lv.length∧m.lives.length=lv.length) :
  Calls Tryz.prog 22 #[v,vr] w fun e w'=>∃ v',e=Zr v'∧l8 w w' w.heap.size W F v' (gJ ms lv)∧Below w.heap.size w w':=by
 obtain⟨i0,hi,hz0,hz1,hz2⟩:=info_parts Tryz.infoMsg
 obtain⟨a,cap,rfl,hn1,hmx⟩:=hv.shape
 obtain⟨ar,cr,rfl,_,_⟩:=hg.shape
 have HT:Hid (∀ k (hk:k<ms.length),gJ (ms.take (k+1)) lv=gJ (ms.take k) lv++(if lv.getD ms[k].frm.toNat 0≤ms[k].lives.getD ms[k].frm.toNat 0 then [ms[k]] else [])):=fun k hk=>by
  unfold gJ;rw[List.take_succ_eq_append_getElem hk,List.filter_append];congr 1;simp only[List.filter_cons,List.filter_nil,decide_eq_true_eq]
 have HLe:Hid (∀ k,(gJ (ms.take k) lv).length≤1000000):=fun k=>by
  have:=List.length_filter_le (fun m:Pm=>decide (lv.getD m.frm.toNat 0≤m.lives.getD m.frm.toNat 0)) (ms.take k)
  unfold gJ;rw[List.length_take] at this;omega
 have HF:Hid (gJ (ms.take ms.length) lv=gJ ms lv):=by unfold Hid;rw[List.take_length]
 go_enter Tryz.func22,Tryz.ntmps22;go_wp2_with fail;go_loopw [5,6] (fun out i wr=>∃ (k:Nat) (xs:List Value),k≤ms.length∧i=I J k∧wr.ownsRow w.heap.size 68 15 out (gJ (ms.take k) lv).length xs∧Rws (gV w W F) (gJ (ms.take k) lv) xs∧Below w.heap.size w wr) (fun _ i _=>ms.length-(intOf i).toNat)
 case atStart=>exact⟨0,[],Nat.zero_le _,rfl,World.ownsRow_nil _ _ _ _,rfl,Below.refl _ _⟩
 case round =>
  obtain⟨k,xs,hk,rfl,hown,hxs,hb⟩:=hrel
  have HXS:=ah hxs;clear hxs;by_cases hlt:k<ms.length
  ·obtain⟨b,off,al2,cl2,ag2,cg2,ao2,co2,aL2,cL2,rfl,hp2,hc2⟩:=hv.ys k hlt
   have j1:(0:Int)≤(k:Int):=by omega
   have j2:(k:Int)<(ms.length:Int):=by omega
   have hS:gV w W F ms[k] [I .u8 ms[k].kind,I J ms[k].frm,Y al2 ms[k].lives.length cl2,I J ms[k].epoch,I J ms[k].view,I J ms[k].place,I J ms[k].ent.1,I J ms[k].ent.2.1,Z ms[k].ent.2.2,I J ms[k].commit,I J ms[k].normal,I J ms[k].life,Y ag2 ms[k].grp.length cg2,Y ao2 ms[k].old.length co2,Y aL2 ms[k].log.length cL2]:=⟨_,_,_,_,rfl,hp2⟩
   have HSc:=ah hS;have HTk:=ah (HT.out k hlt);have hLk:=HLe.out k;obtain⟨f0,f1,f2⟩:=hfr ms[k] (List.getElem_mem _)
   have hbb:b<w.heap.size:=by
    obtain⟨xs',hrd,_⟩:=hv.rd
    exact hrd.lt b rfl
   have hli:=hp2.lives;clear hS hp2;generalize gJ (ms.take k) lv=lk at *;generalize ms[k]=s at *;obtain⟨fn,hfn⟩:∃ f:Nat,s.frm=f:=⟨s.frm.toNat,by omega⟩
   have g1:fn<lv.length:=by omega
   have g2:fn<s.lives.length:=by omega
   obtain⟨b3,o3,rfl,hb3',z3⟩:=hli.get fn g2
   obtain⟨b4,o4,rfl,hb4',z4⟩:=hg.get fn g1
   have e1:s.lives.getD s.frm.toNat 0=s.lives[fn]:=by rw[hfn];simp[List.getD,g2]
   have e2:lv.getD s.frm.toNat 0=lv[fn]:=by rw[hfn];simp[List.getD,g1]
   rw[e1,e2] at HTk;have z3':=(hb.cell (p:=⟨b3,o3+fn,O⟩) hb3').trans z3
   have z4':=(hb.cell (p:=⟨b4,o4+fn,O⟩) hb4').trans z4
   have y1:wr.cell? ⟨b,off+k*15+1,O⟩=some (I J (fn:Int)):=by rw[← hfn];exact (hb.cell (p:=⟨b,off+k*15+1,O⟩) hbb).trans (hc2 1 _ rfl)
   have y2:=(hb.cell (p:=⟨b,off+k*15+2,O⟩) hbb).trans (hc2 2 _ rfl);have j3:(0:Int)≤(fn:Int):=by omega
   have j4:(fn:Int)<(lv.length:Int):=by omega
   have j5:(fn:Int)<(s.lives.length:Int):=by omega
   clear hfn f2 e1 e2;by_cases hq:lv[fn]≤s.lives[fn]
   focus
    rw[if_pos hq] at HTk
   rotate_left
   focus
    rw[if_neg hq,List.append_nil] at HTk
   rotate_left
   all_goals
    go_wp2_with fail;go_quiet (fail);rename_i nq;have hbq:Below wr.heap.size wr (wr.drewN nq):=below_drewN (Below.refl _ wr) nq
    have hown2:=bU hown hbq;have hb2:=hb.trans (hbq.mono hb.size)
   ·have hc4:∀ j u,(#[I .u8 s.kind,I J s.frm,Y (some ⟨b3,o3,O⟩) s.lives.length cl2,I J s.epoch,I J s.view,I J s.place,I J s.ent.1,I J s.ent.2.1,Z s.ent.2.2,I J s.commit,I J s.normal,I J s.life,Y ag2 s.grp.length cg2,Y ao2 s.old.length co2,Y aL2 s.log.length cL2]:Array Value)[j]? = some u→(wr.drewN nq).cell? ⟨b,off+k*15+j,O⟩=some u:=fun j u q=>(hbq.cell (p:=⟨b,off+k*15+j,O⟩) (Nat.lt_of_lt_of_le hbb hb.size)).trans ((hb.cell (p:=⟨b,off+k*15+j,O⟩) hbb).trans (hc2 j u q))
    clear hc2 hown hb hbq y1 y2 z3 z4 z3' z4';generalize wr.drewN nq=wq at *;have y0:=hc4 0 _ rfl;have y1:=hc4 1 _ rfl;have y2:=hc4 2 _ rfl;have y3:=hc4 3 _ rfl;have y4:=hc4 4 _ rfl;have y5:=hc4 5 _ rfl;have y6:=hc4 6 _ rfl;have y7:=hc4 7 _ rfl;have y8:=hc4 8 _ rfl;have y9:=hc4 9 _ rfl;have y10:=hc4 10 _ rfl;have y11:=hc4 11 _ rfl;have y12:=hc4 12 _ rfl;have y13:=hc4 13 _ rfl;have y14:=hc4 14 _ rfl;simp only[Nat.add_zero] at y0;clear hc4;go_wp2_with (at_builtin;go_loud (refine DR rfl _ _ 60 rfl w.heap.size 68 i0 _ 15 192 Tryz.underlying60 hi hz0 hz1 hz2 rfl (by decide) wq wq.heap.size rfl _ _ _ (by rfl) hown2 1 [I .u8 s.kind,I J s.frm,Y (some ⟨b3,o3,O⟩) s.lives.length cl2,I J s.epoch,I J s.view,I J s.place,I J s.ent.1,I J s.ent.2.1,Z s.ent.2.2,I J s.commit,I J s.normal,I J s.life,Y ag2 s.grp.length cg2,Y ao2 s.old.length co2,Y aL2 s.log.length cL2] (by rfl) rfl ?c8 (by omega) (by decide) hb2.size ?_))
    case c8=>intro u hu;simp at hu;rcases hu with rfl|rfl|rfl|rfl|rfl|rfl|rfl|rfl|rfl|rfl|rfl|rfl|rfl|rfl|rfl <;> rfl
    intro v3 w3 hown3 hg3 hb3 _;have hb03:Below w.heap.size w w3:=hb2.trans (hb3.mono (Nat.le_refl _))
    clear y0 y1 y2 y3 y4 y5 y6 y7 y8 y9 y10 y11 y12 y13 y14 hown2 hb2 hb3 hg3;go_wp2;go_roundw
    case rel=>exact⟨k+1,_,by omega,by go_num,by rw[HTk.out];simpa using hown3,by rw[HTk.out];exact HXS.out.app (Rws.one HSc.out),hb03⟩
    case measure=>simp[intOf];omega
   ·go_wp2;go_roundw
    case rel=>exact⟨k+1,xs,by omega,by go_num,by rw[HTk.out];exact hown2,by rw[HTk.out];exact HXS.out,hb2⟩
    case measure=>simp[intOf];omega
  ·obtain rfl:k=ms.length:=by omega
   rw[HF.out] at hown HXS;go_wp2;go_ret;exact⟨_,rfl,⟨xs,hown,HXS.out⟩,hb⟩
theorem MJ (s:ByteArray) (c:Int):1≤(bP s c).length:=by unfold bP;simp
theorem MH (s:ByteArray) (c:Int):(bP s c).length≤s.size+1:=by
 unfold bP;rw[List.length_append];have:=(uh s c s.size).2
 simp;omega
def kN (w w':World) (t:ByteArray) (n:Int) (e:Ending):Prop :=
 Below w.heap.size w w'∧∃ P vl vg vo vL,e=Zr (.tuple #[.agg (pmC P vl vg vo vL),.bool (decide (aZ t n≠[]))])∧xC w' w.heap.size P vl vg vo vL∧(aZ t n≠[]→qp n (aZ t n) P)
theorem Le (t:ByteArray) (n:Int) (w:World) (hn3:3≤n) (hn7:n≤7):Calls Tryz.prog 18 #[Z t,I J n] w fun e w'=>kN w w' t n e:=by
 have hb0:Below w.heap.size w (w.alloc (.cells #[I .u8 0,I J 0,Y O 0 0,I J 0,I J 0,I J 0,I J 0,I J 0,Z ⟨#[]⟩,I J 0,I J 0,I J 0,Y O 0 0,Y O 0 0,Y O 0 0] 68)):=(Below.refl _ w).alloc (Nat.le_refl _) _
 have hz0:dw (w.alloc (.cells #[I .u8 0,I J 0,Y O 0 0,I J 0,I J 0,I J 0,I J 0,I J 0,Z ⟨#[]⟩,I J 0,I J 0,I J 0,Y O 0 0,Y O 0 0,Y O 0 0] 68)) w.heap.size (iK 0):=⟨rfl,heap_alloc_new w _⟩
 by_cases h4:400<t.size
 ·have h4i:(400:Int)<(t.size:Int):=by omega
  have HW:Hid (aZ t n=[]):=by unfold Hid aZ;rw[if_pos h4]
  have HP:Hid (∀ e w',Below w.heap.size w w'→e=Zr (.tuple #[.agg (pmC ⟨0,0,[],0,0,0,(0,0,⟨#[]⟩),0,0,0,[],[],[]⟩ (Y O 0 0) (Y O 0 0) (Y O 0 0) (Y O 0 0)),.bool false])→kN w w' t n e):=fun e w' hb he =>
   ⟨hb,⟨0,0,[],0,0,0,(0,0,⟨#[]⟩),0,0,0,[],[],[]⟩,_,_,_,_,by rw[he,HW.out];simp,⟨World.ownsRow_nil _ _ _ _,World.ownsRow_nil _ _ _ _,World.ownsRow_nil _ _ _ _,World.ownsRow_nil _ _ _ _⟩,fun hc=>absurd HW.out hc⟩
  generalize kN w=RP at *;go_enter Tryz.func18,Tryz.ntmps18;go_upto_region 1 with fail
  generalize w.alloc (.cells #[I .u8 0,I J 0,Y O 0 0,I J 0,I J 0,I J 0,I J 0,I J 0,Z ⟨#[]⟩,I J 0,I J 0,I J 0,Y O 0 0,Y O 0 0,Y O 0 0] 68)=wA at *;have hz1:dw wA w.heap.size #[I .u8 0,I J 0,Y O 0 0,I J 0,I J 0,I J 0,I J 0,I J 0,Z ⟨#[]⟩,I J 0,I J 0,I J 0,Y O 0 0,Y O 0 0,Y O 0 0]:=hz0
  obtain⟨y0,y1,y2,y3,y4,y5,y6,y7,y8,y9,y10,y11,y12,y13,y14,yf⟩:=hz1.all
  clear hz1;have HL:=ah (jQ hz0 (I .u8 0) (I J 0) (Y O 0 0) (I J 0) (I J 0) (I J 0) (I J 0) (I J 0) (Z ⟨#[]⟩) (I J 0) (I J 0) (I J 0) (Y O 0 0) (Y O 0 0) (Y O 0 0));have HB:=ah (fH (Nat.le_refl w.heap.size) [I .u8 0,I J 0,Y O 0 0,I J 0,I J 0,I J 0,I J 0,I J 0,Z ⟨#[]⟩,I J 0,I J 0,I J 0,Y O 0 0,Y O 0 0,Y O 0 0] wA 0 hb0);clear hz0 hb0;go_wp2;exact bodyPost_ret (dJ rfl _ _ _ rfl HL.out) rfl (HP.out _ _ HB.out rfl)
 ·have h4i:¬(400:Int)<(t.size:Int):=by omega
  have HW:Hid (aZ t n=if lU (bP t 32) n=true then bP t 32 else []):=by unfold Hid;rw[qW,if_neg h4]
  have HS:Hid (∀ w,Calls Tryz.prog 40 #[Z t,I .u8 32] w fun e w'=>∃ v,e=Zr v∧w'.ownsRow w.heap.size 9 1 v (bP t 32).length ((bP t 32).map Value.string)∧Below w.heap.size w w'):=fun w=>rM t 32 w (by omega)
  have hws:(bP t 32).length≤100000:=by have:=MH t 32;omega
  have hwz:∀ x∈bP t 32,x.size≤1000:=fun x hx=>by have:=lW t 32 x hx;omega
  have hw1:=MJ t 32;have hwi:((bP t 32).length:Int)≤100000:=by omega
  have HP:Hid (∀ e w',kN w w' t n e=kN w w' t n e):=fun _ _=>rfl
  have HP1:Hid (∀ e w' P vl vg vo vL,Below w.heap.size w w'→lU (bP t 32) n=true→e=Zr (.tuple #[.agg (pmC P vl vg vo vL),.bool true])→xC w' w.heap.size P vl vg vo vL→qp n (bP t 32) P→kN w w' t n e):=fun e w' P vl vg vo vL hb hk he ho hm=>by
   have e1:aZ t n=bP t 32:=by rw[HW.out,if_pos hk]
   have e2:aZ t n≠[]:=by rw[e1];intro hc;rw[hc] at hw1;simp at hw1
   exact⟨hb,P,vl,vg,vo,vL,by rw[he,decide_eq_true e2],ho,fun _=>by rw[e1];exact hm⟩
  have HP2:Hid (∀ e w',Below w.heap.size w w'→lU (bP t 32) n=false→e=Zr (.tuple #[.agg (pmC ⟨0,0,[],0,0,0,(0,0,⟨#[]⟩),0,0,0,[],[],[]⟩ (Y O 0 0) (Y O 0 0) (Y O 0 0) (Y O 0 0)),.bool false])→kN w w' t n e):=fun e w' hb hk he=>by
   have e1:aZ t n=[]:=by rw[HW.out,hk];rfl
   exact⟨hb,⟨0,0,[],0,0,0,(0,0,⟨#[]⟩),0,0,0,[],[],[]⟩,_,_,_,_,by rw[he,e1];simp,⟨World.ownsRow_nil _ _ _ _,World.ownsRow_nil _ _ _ _,World.ownsRow_nil _ _ _ _,World.ownsRow_nil _ _ _ _⟩,fun hc=>absurd e1 hc⟩
  have HRM:Hid (∀ br vw w,aJ w br vw (bP t 32) 0 n false→Calls Tryz.prog 41 #[Zp (some ⟨br,0,O⟩)] w fun e w'=>fJ w w' br vw (bP t 32) n e):=fun br vw w h=>EG br vw (bP t 32) n w h hws hwz hn3 hn7 hw1
  clear hwz hws hw1 HW HP;generalize kN w=RP at *;generalize bP t 32=ws at *;go_enter Tryz.func18,Tryz.ntmps18;go_wp2_with fail;generalize hwA:w.alloc (.cells #[I .u8 0,I J 0,Y O 0 0,I J 0,I J 0,I J 0,I J 0,I J 0,Z ⟨#[]⟩,I J 0,I J 0,I J 0,Y O 0 0,Y O 0 0,Y O 0 0] 68)=wA at *;refine (HS.out _).mono ?_;rintro e w1 ⟨v,rfl,hO1,hb1⟩;obtain⟨av,cv,rfl⟩:=aj hO1
  have hwAs:wA.heap.size=w.heap.size+1:=by rw[← hwA];simp
  clear hwA;have hst1:=Strs.bR hO1;have hsz1:=hb1.size;have hbR:Below w1.heap.size w1 (w1.alloc (.cells #[Y av ws.length cv,I J 0,I J n,.bool false] 91)):=(Below.refl _ w1).alloc (Nat.le_refl _) _
  have hRA:aJ (w1.alloc (.cells #[Y av ws.length cv,I J 0,I J n,.bool false] 91)) w1.heap.size (Y av ws.length cv) ws 0 n false :=
   ⟨heap_alloc_new w1 _,hst1.below hbR,fun k hk hc=>by have:=hst1.lt k hk;simp at hc;omega,Nat.zero_le _⟩
  have hb01:Below w.heap.size w w1:=hb0.trans (hb1.mono hb0.size)
  have hz1:=hz0.kp (Kp.of_below (S:=[]) hb1) (by simp)
  have hz2:=hz1.kp (Kp.of_below (S:=[]) hbR) (by simp)
  have hb02:=hb01.trans (hbR.mono hb01.size);clear hz0 hz1 hO1 hst1 hb0;go_wp2_with fail;generalize hw2:w1.alloc _=w2 at *;have hsz2:w2.heap.size=w1.heap.size+1:=by rw[← hw2];simp
  clear hw2 hbR;refine (HRM.out _ _ _ hRA).mono ?_;rintro e w3 ⟨P,vl,vg,vo,vL,nx',wr',rfl,hO,hR,hI,hM⟩;obtain⟨al,cl,rfl⟩:=aj hO.lives
  obtain⟨ag,cg,rfl⟩:=aj hO.grp
  obtain⟨ao,co,rfl⟩:=aj hO.old
  obtain⟨aL,cL,rfl⟩:=aj hO.log
  have hb03:=qY hb02 hR.2 (by intro x hx;simp at hx;omega)
  have hz3:=hz2.kp hR.2 (by simp;omega)
  have hR3:=hR.1;clear hz2 hRA hR hb02;simp only[pmC];have hbM:Below w3.heap.size w3 (w3.alloc (.cells (pqC P al cl ag cg ao co aL cL) 68)):=(Below.refl _ w3).alloc (Nat.le_refl _) _
  have hM4:dw (w3.alloc (.cells (pqC P al cl ag cg ao co aL cL) 68)) w3.heap.size (pqC P al cl ag cg ao co aL cL):=⟨rfl,heap_alloc_new w3 _⟩
  have hR4:=hR3.below hbM;have hz4:=hz3.kp (Kp.of_below (S:=[]) hbM) (by simp)
  have hb04:=hb03.trans (hbM.mono hb03.size);have hO4:=hO.kp (base':=w.heap.size+1) (Kp.of_below (S:=[]) hbM) (by simp) (by omega)
  have hsz3:=hb03.size;have hlt3:=lt_of_block hz3.2;clear hz3 hb03 hO;have HI:=ah hI;have HM:=ah hM;clear hI hM;go_wp2_with fail;generalize w3.alloc (.cells (pqC P al cl ag cg ao co aL cL) 68)=w4 at *;have c0:=hR4.at 0 (by omega)
  have c1:=hR4.at 1 (by omega)
  have c3:=hR4.at 3 (by omega)
  simp at c0 c1 c3;cases wr'
  ·by_cases hnx:nx'=ws.length
   focus
    have hnx':((nx':Int) != (ws.length:Int))=false:=by rw[hnx];simp
    have HOK:Hid (lU ws n=true):=HI.out.1 ⟨rfl,hnx⟩
    have HNX:=ah hnx;clear hnx;go_quiet (fail);have hq:=below_drewN (Below.refl w4.heap.size w4) nq;have hz5:=hz4.kp (Kp.of_below (S:=[]) hq) (by simp)
    have hM5:=hM4.kp (Kp.of_below (S:=[]) hq) (by simp)
    have hb05:=hb04.trans (hq.mono hb04.size);have hO5:=hO4.kp (base':=w.heap.size+1) (Kp.of_below (S:=[]) hq) (by simp) (Nat.le_refl _)
   rotate_left
   focus
    have hnx':((nx':Int) != (ws.length:Int))=true:=by simp[bne];omega
    have HNX:=ah hnx;clear hnx;go_quiet (fail);have hq:=below_drewN (Below.refl w4.heap.size w4) nq;have hz5:=hz4.kp (Kp.of_below (S:=[]) hq) (by simp)
    have hb05:=hb04.trans (hq.mono hb04.size)
   rotate_left
   all_goals
    generalize w4.drewN nq=w5 at *;have hz6:dw w5 w.heap.size #[I .u8 0,I J 0,Y O 0 0,I J 0,I J 0,I J 0,I J 0,I J 0,Z ⟨#[]⟩,I J 0,I J 0,I J 0,Y O 0 0,Y O 0 0,Y O 0 0]:=hz5
    obtain⟨y0,y1,y2,y3,y4,y5,y6,y7,y8,y9,y10,y11,y12,y13,y14,yf⟩:=hz6.all
   ·obtain⟨x0,x1,x2,x3,x4,x5,x6,x7,x8,x9,x10,x11,x12,x13,x14,xf⟩:=hM5.all
    have HL:=ah (jQ hz5 (I .u8 P.kind) (I J P.frm) (Y al P.lives.length cl) (I J P.epoch) (I J P.view) (I J P.place) (I J P.ent.1) (I J P.ent.2.1) (Z P.ent.2.2) (I J P.commit) (I J P.normal) (I J P.life) (Y ag P.grp.length cg) (Y ao P.old.length co) (Y aL P.log.length cL));have HB:=ah (fH (Nat.le_refl w.heap.size) [I .u8 P.kind,I J P.frm,Y al P.lives.length cl,I J P.epoch,I J P.view,I J P.place,I J P.ent.1,I J P.ent.2.1,Z P.ent.2.2,I J P.commit,I J P.normal,I J P.life,Y ag P.grp.length cg,Y ao P.old.length co,Y aL P.log.length cL] w5 0 hb05);have HO:=ah (hO5.kp (base':=w.heap.size) (nP (g:=w.heap.size) [I .u8 P.kind,I J P.frm,Y al P.lives.length cl,I J P.epoch,I J P.view,I J P.place,I J P.ent.1,I J P.ent.2.1,Z P.ent.2.2,I J P.commit,I J P.normal,I J P.life,Y ag P.grp.length cg,Y ao P.old.length co,Y aL P.log.length cL] w5 0) (fun x hx=>by simp at hx;omega) (by omega))
    clear hz4 hz5 hz6 hb04 hb05 hq c0 c1 c3 hM4 hM5 hO4 hO5;go_wp2;exact bodyPost_ret (dJ rfl _ _ _ rfl HL.out) rfl (HP1.out _ _ P _ _ _ _ HB.out HOK.out rfl HO.out (HM.out HOK.out))
   ·have HL:=ah (jQ hz5 (I .u8 0) (I J 0) (Y O 0 0) (I J 0) (I J 0) (I J 0) (I J 0) (I J 0) (Z ⟨#[]⟩) (I J 0) (I J 0) (I J 0) (Y O 0 0) (Y O 0 0) (Y O 0 0));have HB:=ah (fH (Nat.le_refl w.heap.size) [I .u8 0,I J 0,Y O 0 0,I J 0,I J 0,I J 0,I J 0,I J 0,Z ⟨#[]⟩,I J 0,I J 0,I J 0,Y O 0 0,Y O 0 0,Y O 0 0] w5 0 hb05);clear hz4 hz5 hz6 hb04 hb05 hq c0 c1 c3;go_wp2;exact bodyPost_ret (dJ rfl _ _ _ rfl HL.out) rfl (HP2.out _ _ HB.out (by cases hk:lU ws n;rfl;exact absurd (HI.out.2 hk).2 HNX.out) rfl)
  ·go_quiet (fail);have hq:=below_drewN (Below.refl w4.heap.size w4) nq;have hz5:=hz4.kp (Kp.of_below (S:=[]) hq) (by simp)
   have hb05:=hb04.trans (hq.mono hb04.size);generalize w4.drewN nq=w5 at *;have hz6:dw w5 w.heap.size #[I .u8 0,I J 0,Y O 0 0,I J 0,I J 0,I J 0,I J 0,I J 0,Z ⟨#[]⟩,I J 0,I J 0,I J 0,Y O 0 0,Y O 0 0,Y O 0 0]:=hz5
   obtain⟨y0,y1,y2,y3,y4,y5,y6,y7,y8,y9,y10,y11,y12,y13,y14,yf⟩:=hz6.all
   have HL:=ah (jQ hz5 (I .u8 0) (I J 0) (Y O 0 0) (I J 0) (I J 0) (I J 0) (I J 0) (I J 0) (Z ⟨#[]⟩) (I J 0) (I J 0) (I J 0) (Y O 0 0) (Y O 0 0) (Y O 0 0));have HB:=ah (fH (Nat.le_refl w.heap.size) [I .u8 0,I J 0,Y O 0 0,I J 0,I J 0,I J 0,I J 0,I J 0,Z ⟨#[]⟩,I J 0,I J 0,I J 0,Y O 0 0,Y O 0 0,Y O 0 0] w5 0 hb05);clear hz4 hz5 hz6 hb04 hb05 hq c0 c1 c3;go_wp2;exact bodyPost_ret (dJ rfl _ _ _ rfl HL.out) rfl (HP2.out _ _ HB.out (by cases hk:lU ws n;rfl;exact absurd (HI.out.2 hk).1 (by simp)) rfl)
end Go.Proofs.YtbnihoahhomooaaGreatDoor
