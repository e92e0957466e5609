/- Several texts in one: DFewC, DFewX, DChgL, DLawA, DLawB. By an AI agent. -/
import Derived.Test.YtnccdnfkhohobaaGreatDoorDV
import Derived.Test.YtnccdnfkhohobaaGreatDoorEY
import Derived.Test.YtnccdnfkhohobaaGreatDoorDM
import Derived.Test.YtnccdnfkhohobaaGreatDoorEX
import Derived.Test.YtnccdnfkhohobaaGreatDoorDY
import Derived.Test.YtnccdnfkhohobaaGreatDoorOpenEnts
set_option linter.unusedSimpArgs false
set_option linter.unusedVariables false
set_option maxRecDepth 100000
set_option maxHeartbeats 32000000
namespace Go.Proofs.YtnccdnfkhohobaaGreatDoor
open Go Go.RowKit
open Go Go.RowKit Go.Proofs.YtnccdnfkhohobaaGreatDoor.Opens
theorem zJj {n v:List UInt8} (h:(valV n v).2=0):v.length<=200:=by
 cases vway n v with
 | other _ e=>
  rw[e] at h;unfold norm at h;split at h
  ·simp at h
  ·split at h
   ·simp at h
   ·split at h
    ·simp at h
    ·rename_i hn;omega
 | short _ hv e=>omega
 | long _ _ hw e=>rw[e] at h;simp at h
 | none _ _ hw _ e=>omega
 | name _ _ hw _ _ e=>omega
theorem zEw {nm:List UInt8} {L:List EA} (h:FormedE nm L):L.length<=14/\nm.length<=1000/\∀a∈L,a.2.length<=1000000/\∀u∈a.2,u.length<=1000000:=by
 have hl:=h.loose;have hn:=(zA3 (l:=nm) (by rw[hl.norm])).2;rw[hl.norm] at hn;refine⟨hl.attrs.le,hn,fun a ha=>?_⟩;have hf:=hl.attrs.each a ha;exact⟨by have:=hf.hi;omega,fun u hu=>by have:=zJj (hf.ok u hu);omega⟩
theorem cnt_w (L:List EA):cntE L<=(L.map aW).sum:=by
 unfold cntE
 induction L with
 | nil=>simp
 | cons a L ih=>
  simp only[List.map_cons,List.sum_cons];unfold aW;unfold aW at ih;omega
theorem zCb (w:World) (hT:TM w):Calls Tryz.prog 4 #[] w fun e w'=>e=.returned (.bool true)/\Below w.heap.size w w':=by
 have hb1:=below1 w (.cells #[.string ⟨#[65]⟩] 9);have hX1:Blk (w.alloc (.cells #[.string ⟨#[65]⟩] 9)) w.heap.size [.string ⟨#[65]⟩]:=Blk.new w [.string ⟨#[65]⟩] 9;obtain⟨w1,hw1⟩:∃w1,w.alloc (.cells #[.string ⟨#[65]⟩] 9)=w1:=⟨_,rfl⟩;have hs1:w1.heap.size=w.heap.size+1:=by rw[<-hw1];simp
 rw[hw1] at hb1 hX1;have hb2:=below1 w1 (.cells #[.string ⟨#[112,101,114,115,111,110]⟩] 9);have hX2:Blk (w1.alloc (.cells #[.string ⟨#[112,101,114,115,111,110]⟩] 9)) w1.heap.size [.string ⟨#[112,101,114,115,111,110]⟩]:=Blk.new w1 [.string ⟨#[112,101,114,115,111,110]⟩] 9;obtain⟨w2,hw2⟩:∃w2,w1.alloc (.cells #[.string ⟨#[112,101,114,115,111,110]⟩] 9)=w2:=⟨_,rfl⟩;have hs2:w2.heap.size=w.heap.size+2:=by rw[<-hw2];simp[hs1]
 rw[hw2] at hb2 hX2;rw[hs1] at hX2;obtain⟨us,hus⟩:∃us:List Value,[.string ⟨#[99,110]⟩,.slice (some ⟨w.heap.size,0,none⟩) 1 1,.string ⟨#[111,98,106,101,99,116,99,108,97,115,115]⟩,.slice (some ⟨w.heap.size+1,0,none⟩) 1 1]=us:=⟨_,rfl⟩;have hb3:=below1 w2 (.cells us.toArray 35);have hX3:Blk (w2.alloc (.cells us.toArray 35)) w2.heap.size us:=Blk.new w2 us 35;obtain⟨w3,hw3⟩:∃w3,w2.alloc (.cells us.toArray 35)=w3:=⟨_,rfl⟩;rw[hw3] at hb3 hX3;rw[hs2] at hX3;have hY1:=(hX1.grow hb2).grow hb3;have hY2:=hX2.grow hb3;have hbb:Below w.heap.size w w3:=(hb1.trans (hb2.mono (by omega))).trans (hb3.mono (by omega));have blkH:∀{w:World} {h:Nat} {us:List Value} (t:Blk w h us) (size n:Nat) (hl:us.length=n*size),Has w w.heap.size size (some ⟨h,0,none⟩) n us:=fun {w h us} t size n hl=>⟨hl,.inr ⟨_,rfl,t.lt,fun j u hu=>by
  have:=t.cells j u hu
  rwa [show (⟨h,0,none⟩:Addr).add j=⟨h,j,none⟩ by unfold Addr.add;split<;>simp_all]⟩⟩
 have h1:=blkH hY1 1 1 rfl;have h2:=blkH hY2 1 1 rfl;have h3:=blkH hX3 2 2 (by rw[<-hus];rfl);have hE:EAs w3 w3.heap.size us awA:=by
  rw[<-hus];refine⟨rfl,fun i a ha=>?_⟩
  match i,ha with
  | 0,ha=>obtain rfl:=Option.some.inj ha;exact⟨_,1,rfl,rfl,by decide,by unfold maxLen;omega,h1⟩
  | 1,ha=>obtain rfl:=Option.some.inj ha;exact⟨_,1,rfl,rfl,by decide,by unfold maxLen;omega,h2⟩
  | k+2,ha=>cases ha
 have hM:=zO4 awN awA w3 _ 2 2 us h3 hE (hT.below hbb) (by decide) (by decide) (fun a ha=>by
  rcases List.mem_cons.1 ha with rfl | ha
  ·decide
  ·obtain rfl:=List.mem_singleton.1 ha;decide) (fun a ha v hv=>by
  rcases List.mem_cons.1 ha with rfl | ha
  ·obtain rfl:=List.mem_singleton.1 hv;decide
  ·obtain rfl:=List.mem_singleton.1 ha
   obtain rfl:=List.mem_singleton.1 hv
   decide) (by decide)
 have hfm:FormedE awM awB:=by
  rcases zKk awN awA with h | h
  ·rw [zKh] at h;exact h.2
  ·rw [zKh] at h;exact absurd rfl h.1
 rw[zKh] at hM;change Calls Tryz.prog 10 #[.string ⟨#[67,78,61,97,44,100,99,61,120]⟩,.slice (some ⟨w.heap.size+2,0,none⟩) 2 2] w3 (MadePost awM awB 0 w3) at hM;have hF:∀(w:World) (A:Option Addr) (c:Nat) (xs:List Value),Has w w.heap.size 2 A 2 xs->EAs w w.heap.size xs awB->TM w->Calls Tryz.prog 9 #[.agg #[.string (txt awM),.slice A 2 c]] w fun e w'=>e=.returned (.bool true)/\Below w.heap.size w w':=fun w A c xs hA hL hT=>by
  have hsm:=zEw hfm;have:=zCx awM awB w A 2 c xs hA hL (by decide) (by omega) hsm.2.2 hT;rw[zAm hfm] at this;exact this
 have q:((txt awM).toList==[99,110,61,97,44,100,99,61,120])=true:=by rw[zAc];decide
 have hTw:=hT.below hbb;subst hus;have HM:=hide hM;have HF:=hide hF;have HB:=hide hbb;have HTw:=hide hTw;have Hw:=hide (And.intro hw1 (And.intro hw2 hw3));have Hs:=hide (And.intro hs1 hs2);clear hM hF hbb hE h1 h2 h3 hY1 hY2 hX1 hX2 hX3 hb1 hb2 hb3 hw1 hw2 hw3 hs1 hs2 hT hfm hTw blkH;generalize hMN:txt awM=MN at *;have HMN:=hide hMN;clear hMN;go_enter Tryz.func4,Tryz.ntmps4;go_wp2_with (go_at_call 10;fail);rw[Hw.out.1];(try rw[Hs.out.1]);rw[Hw.out.2.1];(try rw[Hs.out.2]);rw[Hw.out.2.2];refine HM.out.mono ?_;rintro e w5 hpost;obtain⟨A5,c5,ys5,rfl,_,_,hh5,he5,hb5⟩:=hpost.out;rw[HMN.out];have hl:awB.length=2:=rfl;rw[hl] at hh5 ⊢;have h5:=hh5.has (B:=w5.heap.size) fun b hb=>hb.2
 have e5:=he5.eas (B:=w5.heap.size) fun b hb=>hb.2
 have HB5:=hTz HB hb5;have HT5:=hide (HTw.out.below hb5);have hbx:=below1 w5 (.cells #[.string MN,.slice A5 2 c5] 24);have hX:=BoxE.new w5 MN A5 2 c5 24;have x0:=hX.c0;have x1:=hX.c1;have HFc:=hide (HF.out _ A5 c5 ys5 ((h5.below hbx).upto hbx.size) (e5.grow hbx) (HT5.out.below hbx));have HB6:=hTz HB5 hbx;clear hpost hh5 he5 hb5 h5 e5 HB5 HT5 hbx hX HM HF HB HTw Hw Hs hl;go_wp2_with (go_at_call 9;fail);refine HFc.out.mono ?_;rintro e w7 ⟨rfl,hb7⟩;have HB7:=hTz HB6 hb7;clear hb7 HFc HB6 x0 x1;go_wp2;go_ret;exact⟨rfl,HB7.out⟩
theorem few1_any (s:List UInt8) (L:List EA) (w:World) (A:Option Addr) (c:Nat) (xs:List Value) (hA:Has w w.heap.size 2 A 1 xs) (hL:ENs w w.heap.size xs [(s,L)]) (hb:BulkN (s,L)) (k:Nat):
  Calls Tryz.prog 5 #[.slice A 1 c] w fun e w'=>e=.returned (.bool (decide (nW [(s,L)]<=3000)))/\w'=w:=by
 have hS:=zLw [(s,L)] w A 1 c xs hA hL (by omega) (fun e he=>by obtain rfl:=List.mem_singleton.1 he;exact hb);generalize decide (nW [(s,L)]<=3000)=b at *;have HS:=hide hS;clear hS hA hL hb;go_enter Tryz.func5,Tryz.ntmps5;go_wp2_with (go_at_call 11;fail);refine HS.out.mono ?_;rintro e w2 ⟨rfl,hw2⟩;obtain rfl:=hw2.symm;clear hw2 HS;go_wp2;go_ret;exact⟨rfl,rfl⟩
structure LW (w0 w:World):Prop where
 base:Below w0.heap.size w0 w
 tm:TM w
theorem LW.grow {w0 w w':World} (h:LW w0 w) (hb:Below w.heap.size w w'):LW w0 w':=⟨h.base.trans (hb.mono h.base.size),h.tm.below hb⟩
structure TB (w:World) (q:Nat) (S:ByteArray) (A:Option Addr) (n c:Nat) (xs:List Value) (L:List EA):Prop where
 box:BoxE w q S A n c
 has:Has w w.heap.size 2 A n xs
 attrs:EAs w w.heap.size xs L
theorem TB.grow {w w':World} {q:Nat} {S:ByteArray} {A:Option Addr} {n c:Nat} {xs:List Value} {L:List EA} (h:TB w q S A n c xs L) (hb:Below w.heap.size w w'):TB w' q S A n c xs L:=
 ⟨h.box.grow hb,(h.has.below hb).upto hb.size,h.attrs.grow hb⟩
section
variable {w w':World} {h lo n:Nat} {A:Option Addr} {ys:List Value} {L:List EA}
end
structure FitE (nm:List UInt8) (L:List EA):Prop where
 nm:nm.length<=1000000
 len:L.length<=1000000
 typ:∀a∈L,a.1.length<=1048576
 val:∀a∈L,a.2.length<=1000000/\∀u∈a.2,u.length<=1000000
 cnt:cntE L<=900000
theorem zQn {s:List UInt8} {L:List EA} (h:nW [(s,L)]<=3000) (ht:∀a∈L,a.1.length<=1048576):FitE s L:=by
 have hsm:=zOw h;have h1:=hsm.name (s,L) (by simp);have h2:=hsm.attrs (s,L) (by simp);have h3:=hsm.each (s,L) (by simp);simp only at h1 h2 h3;have h4:=cnt_w L;unfold nW eW at h;simp only[List.map_cons,List.map_nil,List.sum_cons,List.sum_nil] at h;exact⟨by omega,by omega,ht,fun a ha=>⟨by have:=(h3 a ha).1;omega,fun u hu=>by have:=(h3 a ha).2 u hu;omega⟩,by omega⟩
theorem zOm {s:List UInt8} {L:List EA} (h:FormedE s L):FitE s L:=by
 have hsm:=zEw h;refine⟨by omega,by omega,fun a ha=>?_,hsm.2.2,?_⟩
 ·have:=zCw (h.loose.attrs.each a ha).name;omega
 ·have:=zCs (fun a:EA=>a.2.length) L 20 fun a ha=>(h.loose.attrs.each a ha).hi
  unfold cntE;omega
theorem bulk_e {N:Nat} {e:EN} (hN:N<=1048576) (h1:e.1.length<=N) (h2:SmE N e.2):BulkN e/\∀a∈e.2,a.1.length<=1048576:=
 ⟨⟨Nat.le_trans h1 hN,Nat.le_trans h2.len hN,fun a ha=>⟨Nat.le_trans (h2.each a ha).vals hN,fun u hu=>Nat.le_trans ((h2.each a ha).each u hu) hN⟩⟩,fun a ha=>Nat.le_trans (h2.each a ha).name hN⟩
theorem zN9 (nm:List UInt8) (G:List EA) (hG:FitE nm G):∀(w:World) (B B':Option Addr) (cB cB':Nat) (zs zs':List Value),Has w w.heap.size 2 B G.length zs->EAs w w.heap.size zs G->Has w w.heap.size 2 B' G.length zs'->EAs w w.heap.size zs' G->Calls Tryz.prog 8 #[.agg #[.string (txt nm),.slice B G.length cB],.agg #[.string (txt nm),.slice B' G.length cB']] w fun e w'=>e=.returned (.bool true)/\Below w.heap.size w w':=fun w B B' cB cB' zs zs' h1 h2 h3 h4=>by
 have hl:=hG.len;have:=zK4 (nm,G) (nm,G) w B B' cB cB' zs zs' h1 h2 h3 h4 (by unfold maxLen;simp only;omega) (by unfold maxLen;simp only;omega);rw[zAm rfl] at this;exact this
end Go.Proofs.YtnccdnfkhohobaaGreatDoor
