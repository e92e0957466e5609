/- Several texts in one: LListH, LChange, LMsg, LModName, LResult. By an AI agent. -/
import Derived.Test.YtcpjmgfloimfhaaGreatM04
import Derived.Test.YtcpjmgfloimfhaaGreatM05
import Derived.Test.YtcpjmgfloimfhaaGreatM09
set_option linter.unusedSimpArgs false
set_option linter.unusedVariables false
set_option maxRecDepth 100000
set_option maxHeartbeats 32000000
namespace Go.Proofs.YtcpjmgfloimfhaaGreat
open Go.RowKit
theorem infoH8:(Tryz.prog.info? 61).map (fun i=>(i.zero,i.size,i.bytes))=some (some (.agg #[.int .i64 0,.string .empty,.slice none 0 0]),3,48):=by kernel_rfl
def ReadsH (p:Rdr (Int × Atr)) (w:World) (b:Nat):Prop:=∀(W:World) (lo g:Nat) (F:List Fd) (φ:Bool),w.heap.size<=W.heap.size->RdS W lo g b F φ->Calls Tryz.prog 155 #[.pointer (some ⟨g,0,none⟩)] W (RdPost (repE elH) p W (own2 g b) lo g b F φ)
theorem lclH_any (p:Rdr (Int × Atr)) (he:Eats p) (w:World) (b bl bx lo2:Nat) (hbl:bl<lo2) (hlo:lo2<=w.heap.size) (hbb:b≠bl) (hbx:bx<lo2) (hxb:bx≠b) (hxl:bx≠bl)
  (hc:w.cell? ⟨bl,0,none⟩=some (.slice none 0 0)) (hfz:∀i,w.frozen? ⟨bl,i,none⟩=false) (hf:w.cell? ⟨bx,0,none⟩=some (.func (.func 155) #[] #[])) (hrd:ReadsH p w b):
  ClosedBy (LstS elH 61 bl lo2) (fun k=>k=bl) (Rd.manyR p) w b 174 #[.pointer (some ⟨bl,0,none⟩),.pointer (some ⟨bx,0,none⟩)]:=by
 intro W lo g F φ hfr hwl hr
 have hgl:=hr.log
 have hlt:=hr.lt
 have hsm:=hr.small.1
 have hcW:W.cell? ⟨bl,0,none⟩=some (.slice none 0 0):=(hfr.cell (p:=⟨bl,0,none⟩) (by simp only;omega) (fun e=>hbb e.symm)).trans hc
 have hfW:W.cell? ⟨bx,0,none⟩=some (.func (.func 155) #[] #[]):=(hfr.cell (p:=⟨bx,0,none⟩) (by simp only;omega) hxb).trans hf
 have hzW:∀i,W.frozen? ⟨bl,i,none⟩=false:=fun i=>(hfr.frozen (p:=⟨bl,i,none⟩) (by simp only;omega) (fun e=>hbb e.symm)).trans (hfz i)
 have hL0:LstS elH 61 bl W.heap.size [] W:=⟨by omega,by omega,hzW,⟨_,[],hcW,World.ownsRow_nil _ _ _ _,rfl⟩,by simp⟩
 have Hrd:=hide (fun (W':World) (h:W.heap.size<=W'.heap.size) (lo' g':Nat) (F1:List Fd) (φ1:Bool) (h1:RdS W' lo' g' b F1 φ1)=>hrd W' lo' g' F1 φ1 (Nat.le_trans hfr.size h) h1)
 have Hn:=hide (And.intro hbl (And.intro hlo (And.intro hbb (And.intro hbx (And.intro hxb (And.intro hxl (And.intro hwl (And.intro hgl (And.intro hlt hr.blo)))))))))
 have HM:=hide (Many.start p F φ hsm)
 have HL:=hide hL0
 have HR:=hide hr
 have HfW:=hide hfW
 have He:=hide he
 try simp only[List.append_toArray,List.cons_append,List.nil_append]
 clear hfr hwl hr hgl hlt hsm hcW hfW hzW hL0 hrd hbl hlo hbb hbx hxb hxl hc hfz hf he
 go_enter Tryz.func174,Tryz.ntmps174
 go_wp2
 go_loopg [] (if φ then 0 else F.length+1) (fun k wx=>∃(F':List Fd) (φ':Bool) (acc:List (Int × Atr)),Hid (RdS wx lo g b F' φ')/\Hid (LstS elH 61 bl W.heap.size acc wx)/\Hid (Fr (own3 (fun k=>k=bl) g b) W wx)/\Hid (wx.cell? ⟨bx,0,none⟩=some (.func (.func 155) #[] #[]))/\Hid (Many p F φ F' φ' acc)/\Hid ((if φ' then 0 else F'.length+1)<=k))
 case atStart=>exact⟨F,φ,[],HR,HL,hide (Fr.refl _ _),HfW,HM,hide (Nat.le_refl _)⟩
 case round=>
  obtain⟨F',φ',acc,hR,hL,hF,hX,hM,hK⟩:=hrel
  clear HR HL HfW HM
  have hmore:=zA6 wr lo g b F' φ' hR.out
  cases hmb:moreB F' φ' with
  | false=>
   rw[hmb] at hmore
   have hd:=hM.out.done hmb
   have Hd:=hide hd
   clear hmb hd
   go_wp2_with (go_at_call 79;fail)
   refine hmore.mono ?_
   rintro e w1 ⟨rfl,hw1⟩
   obtain rfl:=hw1
   clear hmore
   go_wp2
   go_returns
   refine⟨⟨acc,F',rfl,hL.out.low (by have:=Hn.out;omega) Hn.out.1,?_,hF.out,Hd.out.2⟩⟩
   rw[<-Hd.out.1]
   exact hR.out
  | true=>
   rw[hmb] at hmore
   obtain⟨rfl,hne⟩:φ'=false/\F'≠[]:=by
    cases φ' with
    | true=>cases hmb
    | false=>exact⟨rfl,fun e=>by subst e;cases hmb⟩
   have Hne:=hide hne
   obtain⟨v,xs,hv,hown,hrow⟩:=hL.out.row
   obtain⟨Av,cv,rfl,_,_⟩:=own_form hown
   have Hv:=hide hv
   have Hown:=hide hown
   have Hrow:=hide hrow
   clear hmb hne hv hown hrow
   go_wp2_with (go_at_call 79;fail)
   refine hmore.mono ?_
   rintro e w1 ⟨rfl,hw1⟩
   obtain rfl:=hw1
   clear hmore
   go_wp2_with fail
   refine zAp (wayCC ⟨bl,0,none⟩ (.slice Av acc.length cv) ⟨bx,0,none⟩ (.func (.func 155) #[] #[])) [6] (by kernel_rfl) ?_
   have Hd:=hide (hR.out.fr (Fr.drew (fun _=>False) w1) id id (fun _ _ _=>id))
   have Hfd:=hide (hF.out.trans (Fr.drew _ w1))
   replace Hv:Hid (w1.drew.cell? ⟨bl,0,none⟩=some (.slice Av acc.length cv)):=hide Hv.out
   replace Hown:=hide (own_fr Hown.out (Fr.drew (fun _=>False) w1) (fun _ _=>id))
   replace Hrow:=hide (Hrow.out.move (w:=w1) (w':=w1.drew) (P':=fun k=>W.heap.size<=k/\k<w1.drew.heap.size/\(Value.slice Av acc.length cv).ownBlock≠some k) (fun _ _=>rfl) (fun _ h=>h))
   replace hL:=hide (hL.out.fr (X:=fun _=>False) (Fr.drew _ w1) id (fun _ _=>id))
   replace hX:Hid (w1.drew.cell? ⟨bx,0,none⟩=some (.func (.func 155) #[] #[])):=hide hX.out
   clear hR hF
   generalize w1.drew=wd at *
   refine zAm 0 (some 6) (v:=?vl0) rfl rfl (by kernel_rfl) rfl (by kernel_rfl) (by rfl) (fun Wq hW=>?yl0) ?_
   case yl0=>
    have vW:Wq.cell? ⟨bl,0,none⟩=some (.slice Av acc.length cv):=hW.1 Hv.out
    go_simp<;>with_reducible rfl
   try simp only[pU]
   refine zAm 1 (some 7) (v:=?vl1) rfl rfl (by kernel_rfl) rfl (by kernel_rfl) (by rfl) (fun Wq hW=>?yl1) ?_
   case yl1=>
    have xW:Wq.cell? ⟨bx,0,none⟩=some (.func (.func 155) #[] #[]):=hW.2 hX.out
    go_simp<;>with_reducible rfl
   try simp only[pU]
   refine zAe 2 (some 8) rfl rfl (by kernel_rfl) rfl (by rfl) (fun Wq=>by go_simp<;>with_reducible rfl) ?_
   try simp only[pU]
   refine zAf 3 rfl (by kernel_rfl) (fun K hK2=>?_)
   go_simp
   refine (Hrd.out wd (Hfd.out.size) lo g F' false Hd.out).mono ?_
   rintro e w2 hpost
   obtain⟨x,v9,F2,rfl,hrep,hr2,hf2,hq⟩:=hpost.out
   clear hpost
   rw[Bool.false_or] at hr2
   obtain⟨cs,rfl,hE⟩:=hrep
   have hE2:=hE
   unfold elH at hE2
   simp only at hE2
   obtain⟨Ax,cx,rfl,_,_⟩:=hE2
   have hs2:=hf2.size
   have hlW:=(Hfd.out.size)
   have hv2:w2.cell? ⟨bl,0,none⟩=some (.slice Av acc.length cv):=(hf2.cell (p:=⟨bl,0,none⟩) (by simp only;have:=Hn.out;omega) (by rintro (h | h)<;>(simp only at h;have:=Hn.out;omega))).trans Hv.out
   have hx2:w2.cell? ⟨bx,0,none⟩=some (.func (.func 155) #[] #[]):=(hf2.cell (p:=⟨bx,0,none⟩) (by simp only;have:=Hn.out;omega) (by rintro (h | h)<;>(simp only at h;have:=Hn.out;omega))).trans hX.out
   have hz2:∀i,w2.frozen? ⟨bl,i,none⟩=false:=fun i=>(hf2.frozen (p:=⟨bl,i,none⟩) (by simp only;have:=Hn.out;omega) (by rintro (h | h)<;>(simp only at h;have:=Hn.out;omega))).trans (hL.out.fz i)
   have hown2:=own_fr Hown.out hf2 (fun k hk h=>by rcases h with h | h<;>(have:=Hn.out;omega))
   have hrow2:=Hrow.out.move (P':=fun k=>W.heap.size<=k/\k<w2.heap.size/\(Value.slice Av acc.length cv).ownBlock≠some k) (fun q hq=>hf2.cell hq.2.1 (by rintro (h | h)<;>(have:=Hn.out;have:=hq.1;omega))) (fun k hk=>⟨hk.1,Nat.lt_of_lt_of_le hk.2.1 hs2,hk.2.2⟩)
   have hE':=elH.move (w:=w2) (w':=w2) (P':=fun k=>W.heap.size<=k/\k<w2.heap.size/\(Value.slice Av acc.length cv).ownBlock≠some k) (fun _ _=>rfl) (fun k hk=>⟨by omega,hk.2,zBu Hown.out k hk.1⟩) hE
   have Hr2:=hide hr2
   have Hf2:=hide hf2
   have Hq:=hide hq
   have Hz2:=hide hz2
   have Hown2:=hide hown2
   have Hrow2:=hide hrow2
   have HE:=hide hE'
   have Hs2:=hide (And.intro hs2 hlW)
   have Hv2:=hide hv2
   have Hx2:=hide hx2
   refine hK2.out _ _ (fun _=>⟨fun _=>Hv2.out,fun _=>Hx2.out⟩) ?_
   clear hK2 K hr2 hf2 hq hz2 hown2 hrow2 hE hE' hs2 hlW hv2 hx2
   try simp only[pU]
   refine zAf 4 rfl (by kernel_rfl) (fun K hK2=>?_)
   go_simp
   have hfa:Fr (fun _=>False) w2 (w2.alloc (.cells #[.int .i64 x.1,.string (txt x.2.1),.slice Ax x.2.2.length cx] 61)):=Fr.alloc _ _ _
   refine hK2.out _ _ (fun _=>⟨fun h=>(hfa.cell (p:=⟨bl,0,none⟩) (by simp only;have:=Hn.out;have:=Hs2.out;omega) id).trans h,fun h=>(hfa.cell (p:=⟨bx,0,none⟩) (by simp only;have:=Hn.out;have:=Hs2.out;omega) id).trans h⟩) ?_
   clear hK2 K hfa
   have hlit:=World.ownsRow_lit (e:=61) (size:=3) w2 #[.int .i64 x.1,.string (txt x.2.1),.slice Ax x.2.2.length cx] 1 (Nat.le_refl _) (by unfold maxLen;omega) rfl
   have hown3:=own_fr Hown2.out (Fr.alloc (fun _=>False) w2 (.cells #[.int .i64 x.1,.string (txt x.2.1),.slice Ax x.2.2.length cx] 61)) (fun _ _=>id)
   try simp only[pU]
   refine zAf 5 rfl (by kernel_rfl) (fun K hK2=>?_)
   have h1c:∀u∈([.int .i64 x.1,.string (txt x.2.1),.slice Ax x.2.2.length cx]:List Value),u.oneCell'=true:=elH.one HE.out
   refine stepA _ 27 61 _ 3 48 Tryz.underlying27 infoH8 rfl (by omega) (by omega) (some 11) rfl rfl (.tmp 6) (.tmp 10) rfl W.heap.size _ acc.length xs rfl hown3 _ _ 1 1 [.int .i64 x.1,.string (txt x.2.1),.slice Ax x.2.2.length cx] rfl (Has.own hlit) h1c (by have:=hM.out.all;omega) (by have:=Hs2.out;simp;omega) ?_
   intro v4 w4 h4 hb4 hg4 ht4
   have hn4:acc.length+1<=20000:=by have:=hM.out.all;omega
   have hls:=LstS.snoc (E:=elH) (ety:=61) (bl:=bl) (lo:=W.heap.size) (L:=acc) (x:=x) (by have:=Hn.out;omega) (by have:=Hs2.out;omega) Hz2.out Hv2.out Hown2.out Hrow2.out HE.out h4 hg4 ht4 hn4
   have hfg:Fr (fun k=>(Value.slice Av acc.length cv).ownBlock=some k) w2 w4:=(Fr.alloc _ w2 (.cells #[.int .i64 x.1,.string (txt x.2.1),.slice Ax x.2.2.length cx] 61)).trans (Fr.grown hg4 fun k hk=>hk)
   have hro:∀k,(Value.slice Av acc.length cv).ownBlock=some k->W.heap.size<=k:=fun k hk=>(Hown2.out.lt k hk).1
   have hfs:Fr (fun k=>k=bl\/W.heap.size<=k) w2 (w4.setCell ⟨bl,0,none⟩ v4):=(hfg.mono fun k _ hk=>.inr (hro k hk)).trans ((Fr.setCell (X:=fun k=>k=bl) _ _ _ rfl).mono fun k _ hk=>.inl hk)
   have hr4:=Hr2.out.fr hfs (by rintro (h | h)<;>(have:=Hn.out;omega)) (by rintro (h | h)<;>(have:=Hn.out;have:=Hr2.out.back;omega)) (fun k h1 h2=>by rintro (h | h)<;>(have:=Hn.out;omega))
   have hx4:(w4.setCell ⟨bl,0,none⟩ v4).cell? ⟨bx,0,none⟩=some (.func (.func 155) #[] #[]):=(hfs.cell (p:=⟨bx,0,none⟩) (by simp only;have:=Hn.out;have:=Hs2.out;omega) (by rintro (h | h)<;>(simp only at h;have:=Hn.out;omega))).trans Hx2.out
   have hF4:Fr (own3 (fun k=>k=bl) g b) W (w4.setCell ⟨bl,0,none⟩ v4):=(Hfd.out.trans (Hf2.out.mono (Y:=own3 (fun k=>k=bl) g b) fun k _ h=>by rcases h with h | h;exact .inl h;exact .inr (.inl h))).trans' hfs fun k hk h=>by rcases h with h | h;exact .inr (.inr h);omega
   have hst:=hM.out.step (x:=x) (G:=F2) He.out Hne.out (fun x0 F0 h0=>Hq.out rfl x0 F0 h0)
   have Hls:=hide hls
   have Hr4:=hide hr4
   have Hx4:=hide hx4
   have HF4:=hide hF4
   have Hst:=hide hst
   have hc4:w4.cell? ⟨bl,0,none⟩=some (.slice Av acc.length cv):=(hfg.cell (p:=⟨bl,0,none⟩) (by simp only;have:=Hn.out;have:=Hs2.out;omega) (fun e=>by have:=hro bl e;have:=Hn.out;omega)).trans Hv2.out
   have hz4:∀i,w4.frozen? ⟨bl,i,none⟩=false:=fun i=>(hfg.frozen (p:=⟨bl,i,none⟩) (by simp only;have:=Hn.out;have:=Hs2.out;omega) (fun e=>by have:=hro bl e;have:=Hn.out;omega)).trans (Hz2.out i)
   have hx4':w4.cell? ⟨bx,0,none⟩=some (.func (.func 155) #[] #[]):=(hfg.cell (p:=⟨bx,0,none⟩) (by simp only;have:=Hn.out;have:=Hs2.out;omega) (fun e=>by have:=hro bx e;have:=Hn.out;omega)).trans Hx2.out
   obtain⟨A4,c4,rfl,_,_⟩:=own_form h4
   refine hK2.out _ _ (fun _=>⟨fun _=>hc4,fun _=>hx4'⟩) ?_
   clear hK2 K h4 hb4 hg4 ht4 hls hfg hro hfs hr4 hx4 hF4 hst h1c hown3 hlit hx4' hn4
   try simp only[pU]
   refine zAf 6 rfl (by kernel_rfl) (fun K hK2=>?_)
   go_simp
   refine hK2.out _ _ (fun h=>absurd (by decide) h) ?_
   clear hK2 K
   try simp only[pU]
   refine zAj (by kernel_rfl) ?_ _
   go_wp2
   go_roundg (if (p F').isNone then 0 else F2.length+1)
   case measure=>have h1:=Hst.out.2;have h2:=hK.out;simp only[Bool.false_eq_true,if_false] at h2;omega
   case rel=>exact⟨F2,(p F').isNone,acc++[x],Hr4,Hls,HF4,Hx4,hide Hst.out.1,hide (Nat.le_refl _)⟩
theorem listH_any (p:Rdr (Int × Atr)) (he:Eats p) (w:World) (lo g b:Nat) (F:List Fd) (φ:Bool) (t:UInt8) (h:RdS w lo g b F φ) (hrd:ReadsH p w b):
  Calls Tryz.prog 154 #[.pointer (some ⟨g,0,none⟩),c8 t,(.func (.func 155) #[] #[])] w (RdPost (repL elH) (Rd.listR t p) w (own2 g b) lo g b F φ):=by
 have hgl:=h.log
 have hlt:=h.lt
 have hbk:=h.back
 have hblo:=h.blo
 have hfa:Fr (fun _=>False) w (w.alloc (.cells #[(.func (.func 155) #[] #[])] 178)):=Fr.alloc _ _ _
 have hcx:(w.alloc (.cells #[(.func (.func 155) #[] #[])] 178)).cell? ⟨w.heap.size,0,none⟩=some (.func (.func 155) #[] #[]):=by rw[World.cell?_alloc_at (hn:=by simp)];rfl
 obtain⟨w1,hw1⟩:∃w1,w.alloc (.cells #[(.func (.func 155) #[] #[])] 178)=w1:=⟨_,rfl⟩
 have hs1:w1.heap.size=w.heap.size+1:=by rw[<-hw1];simp
 rw[hw1] at hfa hcx
 have hfb:Fr (fun _=>False) w1 (w1.alloc (.cells #[.slice none 0 0] 27)):=Fr.alloc _ _ _
 have hcl:(w1.alloc (.cells #[.slice none 0 0] 27)).cell? ⟨w1.heap.size,0,none⟩=some (.slice none 0 0):=by rw[World.cell?_alloc_at (hn:=by simp)];rfl
 have hzl:∀i,(w1.alloc (.cells #[.slice none 0 0] 27)).frozen? ⟨w1.heap.size,i,none⟩=false:=fun i=>World.frozen?_alloc_at _ _ _ _ rfl
 obtain⟨w2,hw2⟩:∃w2,w1.alloc (.cells #[.slice none 0 0] 27)=w2:=⟨_,rfl⟩
 have hs2:w2.heap.size=w.heap.size+2:=by rw[<-hw2];simp[hs1]
 rw[hw2] at hfb hcl hzl
 rw[hs1] at hcl hzl
 have hcx2:=(hfb.cell (p:=⟨w.heap.size,0,none⟩) (by simp only;omega) id).trans hcx
 have hf2:=hfa.trans hfb
 have hr2:=h.fr hf2 id id (fun _ _ _=>id)
 obtain⟨bx,hbx⟩:∃bx,w.heap.size=bx:=⟨_,rfl⟩
 obtain⟨bl,hbl⟩:∃bl,w.heap.size+1=bl:=⟨_,rfl⟩
 rw[hbx] at hcx2
 rw[hbl] at hcl hzl
 have hC:∀W,Fr (own2 g b) w2 W->ClosedBy (LstS elH 61 bl (bl+1)) (fun k=>k=bl) (Rd.manyR p) W b 174 #[.pointer (some ⟨bl,0,none⟩),.pointer (some ⟨bx,0,none⟩)]:=fun W hW=>
  lclH_any p he W b bl bx (bl+1) (by omega) (by have:=hW.size;omega) (by omega) (by omega) (by omega) (by omega)
   ((hW.cell (p:=⟨bl,0,none⟩) (by simp only;omega) (by rintro (q | q)<;>(simp only at q;omega))).trans hcl) (fun i=>(hW.frozen (p:=⟨bl,i,none⟩) (by simp only;omega) (by rintro (q | q)<;>(simp only at q;omega))).trans (hzl i))
   ((hW.cell (p:=⟨bx,0,none⟩) (by simp only;omega) (by rintro (q | q)<;>(simp only at q;omega))).trans hcx2) (fun W' lo' g' F1 φ1 q1 q2=>hrd W' lo' g' F1 φ1 (by have:=hW.size;omega) q2)
 have hin:=zBk (LstS elH 61 bl (bl+1)) (fun k=>k=bl) (Rd.manyR p) w2 lo g b F φ t 174 #[.pointer (some ⟨bl,0,none⟩),.pointer (some ⟨bx,0,none⟩)] (fun args w=>by go_simp) hr2 hC
  (fun x W W' q1 q2=>q1.fr q2 (by omega) (fun k hk=>by omega)) (fun k hk=>by subst hk;exact⟨by omega,by omega,by omega⟩)
 have Hin:=hide hin
 have Hw1:=hide hw1
 have Hw2:=hide hw2
 have Hbb:=hide (And.intro hbx hbl)
 have Hf2:=hide hf2
 have Hs:=hide (And.intro hs1 hs2)
 clear hin hC hr2 hf2 hcx2 hs2 hs1 hzl hcl hfb hcx hfa h hrd he hw1 hw2 hbx hbl hgl hlt hbk hblo
 go_enter Tryz.func154,Tryz.ntmps154
 go_upto_region 2 with fail
 rw[Hw1.out,Hw2.out]
 try rw[Hs.out.1]
 rw[Hbb.out.2,Hbb.out.1]
 go_wp2_with (go_at_call 28;fail)
 refine Hin.out.mono ?_
 rintro e w3 hpost
 obtain⟨L,F',rfl,hl,hr3,hf3,hq⟩:=hpost.out
 obtain⟨v,xs,hv,hown,hrow⟩:=hl.row
 have hl2:=hl.len
 obtain⟨A,c,rfl,hLc,hHP⟩:=zA5 hown
 have HR:=hide hr3
 have HQ:=hide hq
 have HF:Hid (Fr (own2 g b) w w3):=hide ((Hf2.out.mono (Y:=own2 g b) fun _ _ q=>q.elim).trans' hf3 fun k hk q=>by rcases q with q | q | q;exact .inl q;exact .inr q;(have:=Hbb.out;omega))
 have HRep:Hid (repL elH w3 (fun k=>w.heap.size<=k/\k<w3.heap.size) L (.slice A L.length c)):=hide ⟨A,c,xs,rfl,hl2,hHP.move (fun _ _=>rfl) (fun k hk=>⟨by have:=Hbb.out;omega,hk.2⟩),hrow.move (fun _ _=>rfl) (fun k hk=>⟨by have:=Hbb.out;omega,hk.2.1⟩)⟩
 clear hpost Hin hq hr3 hf3 hl hown hrow hHP hLc Hf2 Hs Hw1 Hw2
 go_wp2
 go_ret
 exact⟨⟨L,_,F',rfl,HRep.out,HR.out,HF.out,HQ.out⟩⟩
namespace Rd
def changeB:Rdr (Int × Atr):=andR (numR 0x0a 3) attrR Prod.mk
end Rd
theorem change_eats:Eats Rd.changeR:=inner_eats 48 Rd.changeB
theorem changeCl (w:World) (b ab lo2:Nat) (u0 u1 u2:Value) (hab:ab<lo2) (hlo:lo2<=w.heap.size) (hba:b≠ab) (hbl:b<lo2) (hB:Blk w ab [u0,u1,u2]):
  ClosedBy (StE elH ab lo2) (fun k=>k=ab) Rd.changeB w b 175 #[.pointer (some ⟨ab,0,none⟩)]:=by
 intro W lo g F φ hfr hwl hr
 have hgl:=hr.log
 have hlt:=hr.lt
 have hbo:=hr.blo
 have HB0:=hide (hB.fr hfr (fun e=>hba e.symm))
 have Hn:=hide (And.intro hab (And.intro hlo (And.intro hba (And.intro hbl (And.intro hwl (And.intro hgl (And.intro hlt (And.intro hbo hfr.size))))))))
 have HR0:=hide hr
 have HF0:Hid (Fr (own3 (fun k=>k=ab) g b) W W):=hide (Fr.refl _ _)
 try simp only[List.append_toArray,List.cons_append,List.nil_append]
 clear hfr hwl hr hgl hlt hbo hB hab hlo hba hbl
 go_enter Tryz.func175,Tryz.ntmps175
 go_wp2_with (go_at_call 81;fail)
 refine (zBr W lo g b F φ 10 3 HR0.out).mono ?_
 rintro e w1 hpost1
 obtain⟨x1,v1,F1,rfl,hrep1,hr1,hf1,hq1⟩:=hpost1.out
 clear hpost1
 unfold repI at hrep1
 subst hrep1
 have hB1:=HB0.out.fr hf1 (by rintro (q | q)<;>(have:=Hn.out;omega))
 have hs1:=hf1.size
 have HB1:=hide (hB1.set 0 (.int .i64 x1) (by simp))
 have HR1:=hide (hr1.fr (Fr.setCell (X:=fun k=>k=ab) w1 ⟨ab,0,none⟩ (.int .i64 x1) rfl) (by have:=Hn.out;omega) (by have:=Hn.out;omega) (fun k h1 h2=>by have:=Hn.out;omega))
 have HF1:=hide ((HF0.out.trans (hf1.mono (Y:=own3 (fun k=>k=ab) g b) fun k _ q=>by rcases q with q | q;exact .inl q;exact .inr (.inl q))).trans (Fr.setCell (X:=own3 (fun k=>k=ab) g b) w1 ⟨ab,0,none⟩ (.int .i64 x1) (.inr (.inr rfl))))
 have HQ1:=hide hq1
 have k1:=hB1.cells 0 _ rfl
 have z1:=hB1.fz
 have Hs1:=hide hs1
 clear hr1 hf1 hq1 hB1 hs1
 go_wp2_with (go_at_call 157;fail)
 refine (attr_any (w1.setCell ⟨ab,0,none⟩ (.int .i64 x1)) lo g b F1 _ HR1.out).mono ?_
 rintro e w2 hpost2
 obtain⟨x2,v2,F2,rfl,hrep2,hr2,hf2,hq2⟩:=hpost2.out
 clear hpost2
 obtain⟨cs,rfl,hE⟩:=hrep2
 have h1c:∀u∈cs,u.oneCell'=true:=elA.one hE
 obtain⟨Ax,cx,rfl,e2,e3⟩:=hE
 have hB2:=HB1.out.fr hf2 (by rintro (q | q)<;>(have:=Hn.out;omega))
 have H1c:=hide h1c
 have hs2:=hf2.size
 have hBs:=hB2.sets 1 [.string (txt x2.1),.slice Ax x2.2.length cx] (by simp) [.int .i64 x1,.string (txt x2.1),.slice Ax x2.2.length cx] (by simp)
 have hfs:Fr (fun k=>k=ab) w2 (w2.setCells ab 1 [.string (txt x2.1),.slice Ax x2.2.length cx]):=Fr.setCells w2 ab 1 [.string (txt x2.1),.slice Ax x2.2.length cx] rfl
 have hrs:=hr2.fr hfs (by have:=Hn.out;omega) (by have:=Hn.out;omega) (fun k h1 h2=>by have:=Hn.out;omega)
 have hFF:Fr (own3 (fun k=>k=ab) g b) W _:=(HF1.out.trans (hf2.mono (Y:=own3 (fun k=>k=ab) g b) fun k _ q=>by rcases q with q | q;exact .inl q;exact .inr (.inl q))).trans (hfs.mono fun _ _ q=>.inr (.inr q))
 have hz1:(w1.setCell ⟨ab,0,none⟩ (.int .i64 x1)).heap.size=w1.heap.size:=by simp[World.setCell]
 have e3s:=e3.fr hfs (P':=fun k=>lo2<=k/\k<(w2.setCells ab 1 [.string (txt x2.1),.slice Ax x2.2.length cx]).heap.size) (fun k hk=>by
  have hz2:=hfs.size
  have:=Hn.out
  have:=Hs1.out
  rw[hz1] at hk
  exact⟨hk.2,by omega,by omega,by omega⟩)
 have hap:=zA4 (p:=Rd.numR 0x0a 3) (q:=Rd.attrR) (f:=Prod.mk) HQ1.out hq2
 rw[hap.1] at hrs
 have HB2:=hide hB2
 have HBs:=hide hBs
 have HRs:=hide hrs
 have HFF:=hide hFF
 have HE:=hide (And.intro e2 e3s)
 have HQ:=hide hap.2
 clear k1 z1 hap hrs hFF e2 e3 e3s hz1 hfs hBs hB2 h1c hr2 hf2 hq2 hs2
 go_wp2_with (refine storeB w2 rfl 59 (.tmp 8) (.tmp 7) rfl ab 1 _ [.string (txt x2.1),.slice Ax x2.2.length cx] rfl rfl HB2.out (by simp) (by kernel_rfl) H1c.out ?_)
 go_returns
 exact⟨⟨(x1,x2),F2,rfl,⟨[.int .i64 x1,.string (txt x2.1),.slice Ax x2.2.length cx],⟨Ax,cx,rfl,HE.out.1,HE.out.2⟩,HBs.out⟩,HRs.out,HFF.out,HQ.out⟩⟩
theorem change_any (w:World) (lo g b:Nat) (F:List Fd) (φ:Bool) (h:RdS w lo g b F φ):
  Calls Tryz.prog 155 #[.pointer (some ⟨g,0,none⟩)] w (RdPost (repE elH) Rd.changeR w (own2 g b) lo g b F φ):=by
 have hgl:=h.log
 have hlt:=h.lt
 have hbk:=h.back
 have hblo:=h.blo
 have hfa:Fr (fun _=>False) w (w.alloc (.cells #[.int .i64 0,.string ⟨#[]⟩,.slice none 0 0] 61)):=Fr.alloc _ _ _
 have hB1:Blk (w.alloc (.cells #[.int .i64 0,.string ⟨#[]⟩,.slice none 0 0] 61)) w.heap.size [.int .i64 0,.string ⟨#[]⟩,.slice none 0 0]:=Blk.new w [.int .i64 0,.string ⟨#[]⟩,.slice none 0 0] 61
 obtain⟨w1,hw1⟩:∃w1,w.alloc (.cells #[.int .i64 0,.string ⟨#[]⟩,.slice none 0 0] 61)=w1:=⟨_,rfl⟩
 have hs1:w1.heap.size=w.heap.size+1:=by rw[<-hw1];simp
 rw[hw1] at hfa hB1
 have hfb:Fr (fun _=>False) w1 (w1.alloc (.cells #[.int .i64 0,.string ⟨#[]⟩,.slice none 0 0] 61)):=Fr.alloc _ _ _
 have hB2:Blk (w1.alloc (.cells #[.int .i64 0,.string ⟨#[]⟩,.slice none 0 0] 61)) w1.heap.size [.int .i64 0,.string ⟨#[]⟩,.slice none 0 0]:=Blk.new w1 [.int .i64 0,.string ⟨#[]⟩,.slice none 0 0] 61
 obtain⟨w2,hw2⟩:∃w2,w1.alloc (.cells #[.int .i64 0,.string ⟨#[]⟩,.slice none 0 0] 61)=w2:=⟨_,rfl⟩
 have hs2:w2.heap.size=w.heap.size+2:=by rw[<-hw2];simp[hs1]
 rw[hw2] at hfb hB2
 rw[hs1] at hB2
 have hB1':=hB1.fr hfb id
 have hf2:=hfa.trans hfb
 have hr2:=h.fr hf2 id id (fun _ _ _=>id)
 obtain⟨rb,hrb⟩:∃rb,w.heap.size=rb:=⟨_,rfl⟩
 obtain⟨ab,hab⟩:∃ab,w.heap.size+1=ab:=⟨_,rfl⟩
 rw[hrb] at hB1'
 rw[hab] at hB2
 have hC:∀W,Fr (own2 g b) w2 W->ClosedBy (StE elH ab (ab+1)) (fun k=>k=ab) Rd.changeB W b 175 #[.pointer (some ⟨ab,0,none⟩)]:=fun W hW=>
  changeCl W b ab (ab+1) _ _ _ (by omega) (by have:=hW.size;omega) (by omega) (by omega) (hB2.fr hW (by rintro (q | q)<;>omega))
 have hin:=zBk (StE elH ab (ab+1)) (fun k=>k=ab) Rd.changeB w2 lo g b F φ 48 175 #[.pointer (some ⟨ab,0,none⟩)] (fun args w=>by go_simp) hr2 hC
  (fun x W W' q1 q2=>q1.fr q2 (by omega) (fun k hk=>by omega)) (fun k hk=>by subst hk;exact⟨by omega,by omega,by omega⟩)
 rw[show c8 48=.int .u8 48 from rfl] at hin
 have Hin:=hide hin
 have Hw1:=hide hw1
 have Hw2:=hide hw2
 have Hn:=hide (And.intro hrb (And.intro hab (And.intro hs1 hs2)))
 have Hf2:=hide hf2
 have HBr:=hide hB1'
 have Hlt:=hide (And.intro hlt hbk)
 clear hin hC hr2 hf2 hB1' hB2 hB1 hs2 hs1 hfb hfa h hw1 hw2 hrb hab hgl hlt hbk hblo
 go_enter Tryz.func155,Tryz.ntmps155
 go_upto_region 2 with fail
 rw[Hw1.out,Hw2.out]
 try rw[Hn.out.2.2.1]
 rw[Hn.out.2.1,Hn.out.1]
 go_wp2_with (go_at_call 28;fail)
 refine Hin.out.mono ?_
 rintro e w3 hpost
 obtain⟨x,F',rfl,hst,hr3,hf3,hq⟩:=hpost.out
 obtain⟨cs,hrep,hB3⟩:=hst.out
 obtain⟨Ax,cx,rfl,e2,e3⟩:=hrep
 have hBr3:=HBr.out.fr hf3 (by rintro (q | q | q)<;>(have:=Hn.out;have:=Hlt.out;omega))
 have h1c:∀u∈([.int .i64 x.1,.string (txt x.2.1),.slice Ax x.2.2.length cx]:List Value),u.oneCell'=true:=elH.one (w:=w3) (P:=fun k=>ab+1<=k/\k<w3.heap.size) (x:=x) ⟨Ax,cx,rfl,e2,e3⟩
 have HRg:=hide (hB3.range)
 have HBr3:=hide hBr3
 have HR:=hide hr3
 have HQ:=hide hq
 have H1:=hide h1c
 have HF:Hid (Fr (own2 g b) w w3):=hide ((Hf2.out.mono (Y:=own2 g b) fun _ _ q=>q.elim).trans' hf3 fun k hk q=>by rcases q with q | q | q;exact .inl q;exact .inr q;(have:=Hn.out;omega))
 have HE:=hide (And.intro e2 e3)
 clear hpost Hin hq hr3 hf3 hst hB3 hBr3 h1c Hf2 Hw1 Hw2 HBr e2 e3
 go_wp2_with (first | (refine wpList_load_mid rfl 61 (.tmp 3) rfl ab 0 rfl [.int .i64 x.1,.string (txt x.2.1),.slice Ax x.2.2.length cx] _ HRg.out Tryz.underlying61 rfl (by kernel_rfl) ?_) | (refine storeB w3 rfl 61 (.tmp 2) (.tmp 7) rfl rb 0 _ [.int .i64 x.1,.string (txt x.2.1),.slice Ax x.2.2.length cx] rfl rfl HBr3.out (by simp) (by kernel_rfl) H1.out ?_))
 have hBz:=HBr3.out.sets 0 [.int .i64 x.1,.string (txt x.2.1),.slice Ax x.2.2.length cx] (by simp) [.int .i64 x.1,.string (txt x.2.1),.slice Ax x.2.2.length cx] (by simp)
 have hfz:Fr (fun k=>k=rb) w3 (w3.setCells rb 0 [.int .i64 x.1,.string (txt x.2.1),.slice Ax x.2.2.length cx]):=Fr.setCells w3 rb 0 [.int .i64 x.1,.string (txt x.2.1),.slice Ax x.2.2.length cx] rfl
 have HBz:=hide hBz
 have Hfz:=hide hfz
 clear hBz hfz HRg HBr3
 generalize w3.setCells rb 0 [.int .i64 x.1,.string (txt x.2.1),.slice Ax x.2.2.length cx]=wz at *
 refine bodyPost_ret (v:=.agg #[.int .i64 x.1,.string (txt x.2.1),.slice Ax x.2.2.length cx]) ?_ rfl ?_
 ·exact zAy rfl _ wz rb [.int .i64 x.1,.string (txt x.2.1),.slice Ax x.2.2.length cx] _ rfl HBz.out.range Tryz.underlying61 rfl (by kernel_rfl)
 ·have hsz:=Hfz.out.size
  refine⟨⟨x,_,F',rfl,⟨[.int .i64 x.1,.string (txt x.2.1),.slice Ax x.2.2.length cx],rfl,?_⟩,HR.out.fr Hfz.out (by have:=Hn.out;have:=Hlt.out;omega) (by have:=Hn.out;have:=Hlt.out;omega) (fun k h1 h2=>by have:=Hn.out;have:=Hlt.out;omega),HF.out.trans' Hfz.out fun k hk q=>by have:=Hn.out;omega,HQ.out⟩⟩
  exact⟨Ax,cx,rfl,HE.out.1,HE.out.2.fr Hfz.out (fun k hk=>⟨hk.2,by have:=Hn.out;omega,by have:=Hn.out;omega,by omega⟩)⟩
theorem readsH (w:World) (b:Nat):ReadsH Rd.changeR w b:=fun W lo g F φ _ h=>change_any W lo g b F φ h
def mcells (m:MT) (f0 f1 f2 f3 f4 f5 f6 va vl vc vr vk:Value):List Value:=
 [.int .i64 m.id,.int .i64 m.kind,.string (txt m.name),.string (txt m.pw),.int .i64 m.ver,.int .i64 m.scope,.int .i64 m.deref,.int .i64 m.size,.int .i64 m.time,.bool m.tonly,f0,f1,f2,f3,f4,f5,f6,va,vl,vc,.string (txt m.nrdn),.bool m.delold,.bool m.hassup,.string (txt m.sup),.string (txt m.attr),.string (txt m.value),.int .i64 m.target,.int .i64 m.code,.string (txt m.matched),.string (txt m.text),vr,vk]
structure MReps (W:World) (P:Nat->Prop) (m:MT) (f0 f1 f2 f3 f4 f5 f6 va vl vc vr vk:Value):Prop where
 filt:FInP W P m.filt [f0,f1,f2,f3,f4,f5,f6]
 attrs:repL elT W P m.attrs va
 lst:repL elA W P m.lst vl
 chs:repL elH W P m.chs vc
 refs:repL elT W P m.refs vr
 ctls:repL elC W P m.ctls vk
structure MtIn (mb lo3:Nat) (m:MT) (W:World):Prop where
 out:∃f0 f1 f2 f3 f4 f5 f6 va vl vc vr vk,Blk W mb (mcells m f0 f1 f2 f3 f4 f5 f6 va vl vc vr vk)/\MReps W (fun k=>lo3<=k/\k<W.heap.size) m f0 f1 f2 f3 f4 f5 f6 va vl vc vr vk
section
variable {w w' W W':World} {P P' X:Nat->Prop} {m m':MT} {mb lo3:Nat} {f0 f1 f2 f3 f4 f5 f6 va vl vc vr vk:Value}
theorem zA7 {α:Type} {E:Elem α} {L:List α} {v:Value} (hc:∀p:Addr,P p.block->W'.cell? p=W.cell? p) (hP:∀b,P b->P' b) (h:repL E W P L v):repL E W' P' L v:=by
 obtain⟨A,c,xs,e,h1,h2,h3⟩:=h
 exact⟨A,c,xs,e,h1,h2.move hc hP,h3.move hc hP⟩
theorem MReps.move (h:MReps W P m f0 f1 f2 f3 f4 f5 f6 va vl vc vr vk) (hc:∀p:Addr,P p.block->W'.cell? p=W.cell? p) (hP:∀b,P b->P' b):MReps W' P' m f0 f1 f2 f3 f4 f5 f6 va vl vc vr vk:=
 ⟨h.filt.move hc hP,zA7 hc hP h.attrs,zA7 hc hP h.lst,zA7 hc hP h.chs,zA7 hc hP h.refs,zA7 hc hP h.ctls⟩
theorem MtIn.fr (h:MtIn mb lo3 m W) (hf:Fr X W W') (hm:¬X mb) (hx:∀k,lo3<=k->¬X k):MtIn mb lo3 m W':=by
 obtain⟨f0,f1,f2,f3,f4,f5,f6,va,vl,vc,vr,vk,hB,hr⟩:=h.out
 exact⟨_,_,_,_,_,_,_,_,_,_,_,_,hB.fr hf hm,hr.move (fun p hp=>hf.cell hp.2 (hx _ hp.1)) fun k hk=>⟨hk.1,Nat.lt_of_lt_of_le hk.2 hf.size⟩⟩
theorem MtIn.put (h:MtIn mb lo3 m W) (hml:mb<lo3) (i:Nat) (hi:i<32) (v:Value) (hs:m'.filt=m.filt/\m'.attrs=m.attrs/\m'.lst=m.lst/\m'.chs=m.chs/\m'.refs=m.refs/\m'.ctls=m.ctls)
  (hc:∀f0 f1 f2 f3 f4 f5 f6 va vl vc vr vk,mcells m' f0 f1 f2 f3 f4 f5 f6 va vl vc vr vk=(mcells m f0 f1 f2 f3 f4 f5 f6 va vl vc vr vk).set i v):MtIn mb lo3 m' (W.setCell ⟨mb,i,none⟩ v):=by
 obtain⟨f0,f1,f2,f3,f4,f5,f6,va,vl,vc,vr,vk,hB,hr⟩:=h.out
 have hf:Fr (fun k=>k=mb) W (W.setCell ⟨mb,i,none⟩ v):=Fr.setCell _ _ _ rfl
 have hr2:=hr.move (W':=W.setCell ⟨mb,i,none⟩ v) (P':=fun k=>lo3<=k/\k<(W.setCell ⟨mb,i,none⟩ v).heap.size) (fun p hp=>hf.cell hp.2 (by have:=hp.1;omega)) (fun k hk=>⟨hk.1,Nat.lt_of_lt_of_le hk.2 hf.size⟩)
 refine⟨f0,f1,f2,f3,f4,f5,f6,va,vl,vc,vr,vk,by rw[hc];exact hB.set i v hi,?_⟩
 obtain⟨s1,s2,s3,s4,s5,s6⟩:=hs
 exact⟨by rw[s1];exact hr2.filt,by rw[s2];exact hr2.attrs,by rw[s3];exact hr2.lst,by rw[s4];exact hr2.chs,by rw[s5];exact hr2.refs,by rw[s6];exact hr2.ctls⟩
theorem MReps.put (hr:MReps W (fun k=>lo3<=k/\k<W.heap.size) m f0 f1 f2 f3 f4 f5 f6 va vl vc vr vk) (hml:mb<lo3) (i:Nat) (v:Value):MReps (W.setCell ⟨mb,i,none⟩ v) (fun k=>lo3<=k/\k<(W.setCell ⟨mb,i,none⟩ v).heap.size) m f0 f1 f2 f3 f4 f5 f6 va vl vc vr vk:=by
 have hf:Fr (fun k=>k=mb) W (W.setCell ⟨mb,i,none⟩ v):=Fr.setCell _ _ _ rfl
 exact hr.move (fun p hp=>hf.cell hp.2 (by have:=hp.1;omega)) (fun k hk=>⟨hk.1,Nat.lt_of_lt_of_le hk.2 hf.size⟩)
theorem MtIn.putRefs {L:List (List UInt8)} {v:Value} (h:MtIn mb lo3 m W) (hml:mb<lo3) (hv:repL elT W (fun k=>lo3<=k/\k<W.heap.size) L v):MtIn mb lo3 { m with refs:=L } (W.setCell ⟨mb,30,none⟩ v):=by
 obtain⟨f0,f1,f2,f3,f4,f5,f6,va,vl,vc,vr,vk,hB,hr⟩:=h.out
 have hr2:=hr.put (mb:=mb) hml 30 v
 have hf:Fr (fun k=>k=mb) W (W.setCell ⟨mb,30,none⟩ v):=Fr.setCell _ _ _ rfl
 exact⟨f0,f1,f2,f3,f4,f5,f6,va,vl,vc,v,vk,hB.set 30 v (by simp[mcells]),⟨hr2.filt,hr2.attrs,hr2.lst,hr2.chs,zA7 (fun p hp=>hf.cell hp.2 (by have:=hp.1;omega)) (fun k hk=>⟨hk.1,Nat.lt_of_lt_of_le hk.2 hf.size⟩) hv,hr2.ctls⟩⟩
theorem MtIn.putAttrs {L:List (List UInt8)} {v:Value} (h:MtIn mb lo3 m W) (hml:mb<lo3) (hv:repL elT W (fun k=>lo3<=k/\k<W.heap.size) L v):MtIn mb lo3 { m with attrs:=L } (W.setCell ⟨mb,17,none⟩ v):=by
 obtain⟨f0,f1,f2,f3,f4,f5,f6,va,vl,vc,vr,vk,hB,hr⟩:=h.out
 have hr2:=hr.put (mb:=mb) hml 17 v
 have hf:Fr (fun k=>k=mb) W (W.setCell ⟨mb,17,none⟩ v):=Fr.setCell _ _ _ rfl
 exact⟨f0,f1,f2,f3,f4,f5,f6,v,vl,vc,vr,vk,hB.set 17 v (by simp[mcells]),⟨hr2.filt,zA7 (fun p hp=>hf.cell hp.2 (by have:=hp.1;omega)) (fun k hk=>⟨hk.1,Nat.lt_of_lt_of_le hk.2 hf.size⟩) hv,hr2.lst,hr2.chs,hr2.refs,hr2.ctls⟩⟩
theorem MtIn.putLst {L:List Atr} {v:Value} (h:MtIn mb lo3 m W) (hml:mb<lo3) (hv:repL elA W (fun k=>lo3<=k/\k<W.heap.size) L v):MtIn mb lo3 { m with lst:=L } (W.setCell ⟨mb,18,none⟩ v):=by
 obtain⟨f0,f1,f2,f3,f4,f5,f6,va,vl,vc,vr,vk,hB,hr⟩:=h.out
 have hr2:=hr.put (mb:=mb) hml 18 v
 have hf:Fr (fun k=>k=mb) W (W.setCell ⟨mb,18,none⟩ v):=Fr.setCell _ _ _ rfl
 exact⟨f0,f1,f2,f3,f4,f5,f6,va,v,vc,vr,vk,hB.set 18 v (by simp[mcells]),⟨hr2.filt,hr2.attrs,zA7 (fun p hp=>hf.cell hp.2 (by have:=hp.1;omega)) (fun k hk=>⟨hk.1,Nat.lt_of_lt_of_le hk.2 hf.size⟩) hv,hr2.chs,hr2.refs,hr2.ctls⟩⟩
theorem MtIn.putChs {L:List (Int × Atr)} {v:Value} (h:MtIn mb lo3 m W) (hml:mb<lo3) (hv:repL elH W (fun k=>lo3<=k/\k<W.heap.size) L v):MtIn mb lo3 { m with chs:=L } (W.setCell ⟨mb,19,none⟩ v):=by
 obtain⟨f0,f1,f2,f3,f4,f5,f6,va,vl,vc,vr,vk,hB,hr⟩:=h.out
 have hr2:=hr.put (mb:=mb) hml 19 v
 have hf:Fr (fun k=>k=mb) W (W.setCell ⟨mb,19,none⟩ v):=Fr.setCell _ _ _ rfl
 exact⟨f0,f1,f2,f3,f4,f5,f6,va,vl,v,vr,vk,hB.set 19 v (by simp[mcells]),⟨hr2.filt,hr2.attrs,hr2.lst,zA7 (fun p hp=>hf.cell hp.2 (by have:=hp.1;omega)) (fun k hk=>⟨hk.1,Nat.lt_of_lt_of_le hk.2 hf.size⟩) hv,hr2.refs,hr2.ctls⟩⟩
theorem MtIn.putCtls {L:List Ct} {v:Value} (h:MtIn mb lo3 m W) (hml:mb<lo3) (hv:repL elC W (fun k=>lo3<=k/\k<W.heap.size) L v):MtIn mb lo3 { m with ctls:=L } (W.setCell ⟨mb,31,none⟩ v):=by
 obtain⟨f0,f1,f2,f3,f4,f5,f6,va,vl,vc,vr,vk,hB,hr⟩:=h.out
 have hr2:=hr.put (mb:=mb) hml 31 v
 have hf:Fr (fun k=>k=mb) W (W.setCell ⟨mb,31,none⟩ v):=Fr.setCell _ _ _ rfl
 exact⟨f0,f1,f2,f3,f4,f5,f6,va,vl,vc,vr,v,hB.set 31 v (by simp[mcells]),⟨hr2.filt,hr2.attrs,hr2.lst,hr2.chs,hr2.refs,zA7 (fun p hp=>hf.cell hp.2 (by have:=hp.1;omega)) (fun k hk=>⟨hk.1,Nat.lt_of_lt_of_le hk.2 hf.size⟩) hv⟩⟩
end
namespace Rd
abbrev MR:=MT->Rdr MT
def updR {α:Type} (p:Rdr α) (u:MT->α->MT):MR:=fun m F=>(p F).map fun q=>(u m q.1,q.2)
def thenR (a b:MR):MR:=fun m F=>match a m F with
 | none=>none
 | some (m',G)=>b m' G
def doneR:MR:=fun m F=>some (m,F)
def nameR:MR:=updR textR fun m x=>{ m with name:=x }
def supR:MR:=fun m F=>if F=[] then some (m,F) else (taggedR 0x80 F).map fun q=>({ m with hassup:=true,sup:=q.1 },q.2)
def modNameR:MR:=thenR (thenR (thenR nameR (updR textR fun m x=>{ m with nrdn:=x })) (updR flagR fun m x=>{ m with delold:=x })) supR
def refsR:MR:=fun m F=>if F=[] then some (m,F) else (someR 0xa3 textR F).map fun q=>({ m with refs:=q.1 },q.2)
def resultR:MR:=thenR (thenR (thenR (updR (numR 0x0a 2147483647) fun m x=>{ m with code:=x }) (updR textR fun m x=>{ m with matched:=x })) (updR textR fun m x=>{ m with text:=x })) refsR
end Rd
theorem zAr {α:Type} {p:Rdr α} {u:MT->α->MT} {m:MT} {F F1:List Fd} {φ:Bool} {x:α} (h:φ=false->∀x0 F0,p F=some (x0,F0)->x=x0/\F1=F0):
  (φ||(p F).isNone)=(φ||(Rd.updR p u m F).isNone)/\(φ=false->∀m0 F0,Rd.updR p u m F=some (m0,F0)->u m x=m0/\F1=F0):=by
 unfold Rd.updR
 cases hp:p F with
 | none=>exact⟨rfl,fun _ m0 F0 h0=>by cases h0⟩
 | some q=>
  obtain⟨y,G⟩:=q
  refine⟨rfl,fun hf m0 F0 h0=>?_⟩
  obtain⟨rfl,rfl⟩:=h hf _ _ hp
  simpa using h0
theorem zAu {a b:Rd.MR} {m m1 m2:MT} {F F1 F2:List Fd} {φ:Bool} (h1:φ=false->∀m0 F0,a m F=some (m0,F0)->m1=m0/\F1=F0) (h2:(φ||(a m F).isNone)=false->∀m0 F0,b m1 F1=some (m0,F0)->m2=m0/\F2=F0):
  ((φ||(a m F).isNone)||(b m1 F1).isNone)=(φ||(Rd.thenR a b m F).isNone)/\(φ=false->∀m0 F0,Rd.thenR a b m F=some (m0,F0)->m2=m0/\F2=F0):=by
 unfold Rd.thenR
 cases φ with
 | true=>exact⟨rfl,fun h=>by cases h⟩
 | false=>
  cases hp:a m F with
  | none=>exact⟨rfl,fun _ x0 F0 h0=>by cases h0⟩
  | some z=>
   obtain⟨y,G⟩:=z
   obtain⟨rfl,rfl⟩:=h1 rfl _ _ hp
   rw[hp] at h2
   exact⟨by simp,fun _ x0 F0 h0=>h2 (by simp) x0 F0 (by simpa using h0)⟩
theorem if_no {m:MT} {F:List Fd} {φ:Bool} {X:Option (MT × List Fd)} (h:moreB F φ=false):φ=(φ||(if F=[] then some (m,F) else X).isNone)/\(φ=false->∀m0 F0,(if F=[] then some (m,F) else X)=some (m0,F0)->m=m0/\F=F0):=by
 cases φ with
 | true=>exact⟨rfl,fun h=>by cases h⟩
 | false=>
  cases F with
  | nil=>exact⟨rfl,fun _ m0 F0 h0=>by simpa using h0⟩
  | cons f r=>cases h
theorem more_yes {F:List Fd} {φ:Bool} (h:moreB F φ=true):φ=false/\F≠[]:=by
 cases φ with
 | true=>cases h
 | false=>exact⟨rfl,fun e=>by subst e;cases h⟩
theorem modName_any (w:World) (lo g b:Nat) (F:List Fd) (φ:Bool) (mb lo3:Nat) (m:MT) (h:RdS w lo g b F φ) (hm:MtIn mb lo3 m w) (hml:mb<lo3) (hg3:g<lo3) (hlo3:lo3<=w.heap.size) (hmb:mb≠g/\mb≠b/\(mb<lo\/g<mb)):
  Calls Tryz.prog 158 #[.pointer (some ⟨g,0,none⟩),.pointer (some ⟨mb,0,none⟩)] w (InPost (MtIn mb lo3) (Rd.modNameR m) w (own3 (fun k=>k=mb) g b) lo g b F φ):=by
 have hgl:=h.log
 have hlt:=h.lt
 have hbo:=h.blo
 have HM0:=hide hm
 have Hn:=hide (And.intro hml (And.intro hg3 (And.intro hlo3 (And.intro hmb (And.intro hgl (And.intro hlt hbo))))))
 have HR0:=hide h
 have HF0:Hid (Fr (own3 (fun k=>k=mb) g b) w w):=hide (Fr.refl _ _)
 clear h hm hml hg3 hlo3 hmb hgl hlt hbo
 go_enter Tryz.func158,Tryz.ntmps158
 go_wp2_with (go_at_call 130;fail)
 refine (zA3 w lo g b F φ HR0.out).mono ?_
 rintro e w1 hpost1
 obtain⟨x1,v1,F1,rfl,hrep1,hr1,hf1,hq1⟩:=hpost1.out
 clear hpost1
 unfold repT at hrep1
 subst hrep1
 have hm1:=HM0.out.fr hf1 (by rintro (q | q)<;>(have:=Hn.out;omega)) (fun k hk=>(by rintro (q | q)<;>(have:=Hn.out;omega)))
 obtain⟨f0,f1,f2,f3,f4,f5,f6,va,vl,vc,vr,vk,hB1,hz1⟩:=hm1.out
 have k1:w1.cell? ⟨mb,2,none⟩=some (.string (txt m.name)):=hB1.cells 2 _ rfl
 have z1:=hB1.fz
 have hs1:=hf1.size
 have HM1:=hide (hm1.put (m':=({ m with name:=x1 }:MT)) (by have:=Hn.out;omega) 2 (by omega) (.string (txt x1)) ⟨rfl,rfl,rfl,rfl,rfl,rfl⟩ (fun _ _ _ _ _ _ _ _ _ _ _ _=>rfl))
 have HR1:=hide (hr1.fr (Fr.setCell (X:=fun k=>k=mb) w1 ⟨mb,2,none⟩ (.string (txt x1)) rfl) (by have:=Hn.out;omega) (by have:=Hn.out;omega) (fun k h1 h2=>by have:=Hn.out;omega))
 have HF1:=hide ((HF0.out.trans (hf1.mono (Y:=own3 (fun k=>k=mb) g b) fun k _ q=>by rcases q with q | q;exact .inl q;exact .inr (.inl q))).trans (Fr.setCell (X:=own3 (fun k=>k=mb) g b) w1 ⟨mb,2,none⟩ (.string (txt x1)) (.inr (.inr rfl))))
 have HQ1:=hide hq1
 clear hr1 hf1 hq1 hB1 hz1 hm1 hs1 f0 f1 f2 f3 f4 f5 f6 vl vc vk va vr
 go_wp2_with (go_at_call 130;fail)
 refine (zA3 (w1.setCell ⟨mb,2,none⟩ (.string (txt x1))) lo g b F1 _ HR1.out).mono ?_
 rintro e w2 hpost2
 obtain⟨x2,v2,F2,rfl,hrep2,hr2,hf2,hq2⟩:=hpost2.out
 clear hpost2
 unfold repT at hrep2
 subst hrep2
 have hm2:=HM1.out.fr hf2 (by rintro (q | q)<;>(have:=Hn.out;omega)) (fun k hk=>(by rintro (q | q)<;>(have:=Hn.out;omega)))
 obtain⟨f0,f1,f2,f3,f4,f5,f6,va,vl,vc,vr,vk,hB2,hz2⟩:=hm2.out
 have k2:w2.cell? ⟨mb,20,none⟩=some (.string (txt m.nrdn)):=hB2.cells 20 _ rfl
 have z2:=hB2.fz
 have hs2:=hf2.size
 have HM2:=hide (hm2.put (m':=({ ({ m with name:=x1 }:MT) with nrdn:=x2 }:MT)) (by have:=Hn.out;omega) 20 (by omega) (.string (txt x2)) ⟨rfl,rfl,rfl,rfl,rfl,rfl⟩ (fun _ _ _ _ _ _ _ _ _ _ _ _=>rfl))
 have HR2:=hide (hr2.fr (Fr.setCell (X:=fun k=>k=mb) w2 ⟨mb,20,none⟩ (.string (txt x2)) rfl) (by have:=Hn.out;omega) (by have:=Hn.out;omega) (fun k h1 h2=>by have:=Hn.out;omega))
 have HF2:=hide ((HF1.out.trans (hf2.mono (Y:=own3 (fun k=>k=mb) g b) fun k _ q=>by rcases q with q | q;exact .inl q;exact .inr (.inl q))).trans (Fr.setCell (X:=own3 (fun k=>k=mb) g b) w2 ⟨mb,20,none⟩ (.string (txt x2)) (.inr (.inr rfl))))
 have HQ2:=hide hq2
 clear hr2 hf2 hq2 hB2 hz2 hm2 hs2 f0 f1 f2 f3 f4 f5 f6 vl vc vk va vr
 go_wp2_with (go_at_call 135;fail)
 refine (flag_any (w2.setCell ⟨mb,20,none⟩ (.string (txt x2))) lo g b F2 _ HR2.out).mono ?_
 rintro e w3 hpost3
 obtain⟨x3,v3,F3,rfl,hrep3,hr3,hf3,hq3⟩:=hpost3.out
 clear hpost3
 unfold repB at hrep3
 subst hrep3
 have hm3:=HM2.out.fr hf3 (by rintro (q | q)<;>(have:=Hn.out;omega)) (fun k hk=>(by rintro (q | q)<;>(have:=Hn.out;omega)))
 obtain⟨f0,f1,f2,f3,f4,f5,f6,va,vl,vc,vr,vk,hB3,hz3⟩:=hm3.out
 have k3:w3.cell? ⟨mb,21,none⟩=some (.bool m.delold):=hB3.cells 21 _ rfl
 have z3:=hB3.fz
 have hs3:=hf3.size
 have HM3:=hide (hm3.put (m':=({ ({ ({ m with name:=x1 }:MT) with nrdn:=x2 }:MT) with delold:=x3 }:MT)) (by have:=Hn.out;omega) 21 (by omega) (.bool x3) ⟨rfl,rfl,rfl,rfl,rfl,rfl⟩ (fun _ _ _ _ _ _ _ _ _ _ _ _=>rfl))
 have HR3:=hide (hr3.fr (Fr.setCell (X:=fun k=>k=mb) w3 ⟨mb,21,none⟩ (.bool x3) rfl) (by have:=Hn.out;omega) (by have:=Hn.out;omega) (fun k h1 h2=>by have:=Hn.out;omega))
 have HF3:=hide ((HF2.out.trans (hf3.mono (Y:=own3 (fun k=>k=mb) g b) fun k _ q=>by rcases q with q | q;exact .inl q;exact .inr (.inl q))).trans (Fr.setCell (X:=own3 (fun k=>k=mb) g b) w3 ⟨mb,21,none⟩ (.bool x3) (.inr (.inr rfl))))
 have HQ3:=hide hq3
 clear hr3 hf3 hq3 hB3 hz3 hm3 hs3 f0 f1 f2 f3 f4 f5 f6 vl vc vk va vr
 go_wp2_with (go_at_call 79;fail)
 refine (zA6 (w3.setCell ⟨mb,21,none⟩ (.bool x3)) lo g b F3 _ HR3.out).mono ?_
 rintro e w9 ⟨rfl,hw9⟩
 obtain rfl:=hw9.symm
 cases hmb:moreB F3 _ with
 | false=>
  go_wp2
  go_returns
  have q1:=HQ1.out
  have p1:=zAr (u:=fun m x=>{ m with name:=x }) (m:=m) q1
  have t1:=p1
  have q2:=HQ2.out
  rw[p1.1] at q2
  have p2:=zAr (u:=fun m x=>{ m with nrdn:=x }) (m:=({ m with name:=x1 }:MT)) q2
  have t2:=zAu t1.2 p2.2
  have q3:=HQ3.out
  rw[p1.1,p2.1,t2.1] at q3
  have p3:=zAr (u:=fun m x=>{ m with delold:=x }) (m:=({ ({ m with name:=x1 }:MT) with nrdn:=x2 }:MT)) q3
  have t3:=zAu t2.2 p3.2
  have hr:=HR3.out
  rw[p1.1,p2.1,t2.1,p3.1,t3.1] at hr hmb
  have hno:=if_no (m:=({ ({ ({ m with name:=x1 }:MT) with nrdn:=x2 }:MT) with delold:=x3 }:MT)) (X:=(Rd.taggedR 0x80 F3).map fun q=>({ ({ ({ ({ m with name:=x1 }:MT) with nrdn:=x2 }:MT) with delold:=x3 }:MT) with hassup:=true,sup:=q.1 },q.2)) hmb
  have tt:=zAu (b:=Rd.supR) t3.2 hno.2
  rw[hno.1] at hr
  rw[show ∀a:Bool,(a||(if F3=[] then some (({ ({ ({ m with name:=x1 }:MT) with nrdn:=x2 }:MT) with delold:=x3 }:MT),F3) else (Rd.taggedR 0x80 F3).map fun q=>({ ({ ({ ({ m with name:=x1 }:MT) with nrdn:=x2 }:MT) with delold:=x3 }:MT) with hassup:=true,sup:=q.1 },q.2)).isNone)=(a||(Rd.supR ({ ({ ({ m with name:=x1 }:MT) with nrdn:=x2 }:MT) with delold:=x3 }:MT) F3).isNone) from fun _=>rfl,tt.1] at hr
  exact⟨⟨({ ({ ({ m with name:=x1 }:MT) with nrdn:=x2 }:MT) with delold:=x3 }:MT),F3,rfl,HM3.out,hr,HF3.out,tt.2⟩⟩
 | true=>
  obtain⟨f0,f1,f2,f3,f4,f5,f6,va,vl,vc,vr,vk,hB4,hz4⟩:=HM3.out.out
  have k4:(w3.setCell ⟨mb,21,none⟩ (.bool x3)).cell? ⟨mb,22,none⟩=some (.bool m.hassup):=hB4.cells 22 _ rfl
  have z4:=hB4.fz
  have HM4:=hide (HM3.out.put (m':=({ ({ ({ ({ m with name:=x1 }:MT) with nrdn:=x2 }:MT) with delold:=x3 }:MT) with hassup:=true }:MT)) (by have:=Hn.out;omega) 22 (by omega) (.bool true) ⟨rfl,rfl,rfl,rfl,rfl,rfl⟩ (fun _ _ _ _ _ _ _ _ _ _ _ _=>rfl))
  have HR4:=hide (HR3.out.fr (Fr.setCell (X:=fun k=>k=mb) (w3.setCell ⟨mb,21,none⟩ (.bool x3)) ⟨mb,22,none⟩ (.bool true) rfl) (by have:=Hn.out;omega) (by have:=Hn.out;omega) (fun k h1 h2=>by have:=Hn.out;omega))
  have HF4:=hide (HF3.out.trans (Fr.setCell (X:=own3 (fun k=>k=mb) g b) (w3.setCell ⟨mb,21,none⟩ (.bool x3)) ⟨mb,22,none⟩ (.bool true) (.inr (.inr rfl))))
  clear hB4 hz4 f0 f1 f2 f3 f4 f5 f6 va vl vc vr vk
  go_wp2_with (go_at_call 128;fail)
  refine (tagged_any ((w3.setCell ⟨mb,21,none⟩ (.bool x3)).setCell ⟨mb,22,none⟩ (.bool true)) lo g b F3 _ 128 HR4.out).mono ?_
  rintro e w5 hpost5
  obtain⟨x5,v5,F5,rfl,hrep5,hr5,hf5,hq5⟩:=hpost5.out
  clear hpost5
  unfold repT at hrep5
  subst hrep5
  have hm5:=HM4.out.fr hf5 (by rintro (q | q)<;>(have:=Hn.out;omega)) (fun k hk=>(by rintro (q | q)<;>(have:=Hn.out;omega)))
  obtain⟨f0,f1,f2,f3,f4,f5,f6,va,vl,vc,vr,vk,hB5,hz5⟩:=hm5.out
  have k5:w5.cell? ⟨mb,23,none⟩=some (.string (txt m.sup)):=hB5.cells 23 _ rfl
  have z5:=hB5.fz
  have hs5:=hf5.size
  have HM5:=hide (hm5.put (m':=({ ({ ({ ({ ({ m with name:=x1 }:MT) with nrdn:=x2 }:MT) with delold:=x3 }:MT) with hassup:=true }:MT) with sup:=x5 }:MT)) (by have:=Hn.out;omega) 23 (by omega) (.string (txt x5)) ⟨rfl,rfl,rfl,rfl,rfl,rfl⟩ (fun _ _ _ _ _ _ _ _ _ _ _ _=>rfl))
  have HR5:=hide (hr5.fr (Fr.setCell (X:=fun k=>k=mb) w5 ⟨mb,23,none⟩ (.string (txt x5)) rfl) (by have:=Hn.out;omega) (by have:=Hn.out;omega) (fun k h1 h2=>by have:=Hn.out;omega))
  have HF5:=hide ((HF4.out.trans (hf5.mono (Y:=own3 (fun k=>k=mb) g b) fun k _ q=>by rcases q with q | q;exact .inl q;exact .inr (.inl q))).trans (Fr.setCell (X:=own3 (fun k=>k=mb) g b) w5 ⟨mb,23,none⟩ (.string (txt x5)) (.inr (.inr rfl))))
  have HQ5:=hide hq5
  clear hr5 hf5 hq5 hB5 hz5 hm5 hs5 f0 f1 f2 f3 f4 f5 f6 vl vc vk va vr
  go_wp2
  go_returns
  have q1:=HQ1.out
  have p1:=zAr (u:=fun m x=>{ m with name:=x }) (m:=m) q1
  have t1:=p1
  have q2:=HQ2.out
  rw[p1.1] at q2
  have p2:=zAr (u:=fun m x=>{ m with nrdn:=x }) (m:=({ m with name:=x1 }:MT)) q2
  have t2:=zAu t1.2 p2.2
  have q3:=HQ3.out
  rw[p1.1,p2.1,t2.1] at q3
  have p3:=zAr (u:=fun m x=>{ m with delold:=x }) (m:=({ ({ m with name:=x1 }:MT) with nrdn:=x2 }:MT)) q3
  have t3:=zAu t2.2 p3.2
  have hr:=HR5.out
  have q5:=HQ5.out
  rw[p1.1,p2.1,t2.1,p3.1,t3.1] at hr hmb q5
  obtain⟨hp0,hne⟩:=more_yes hmb
  have p5:=zAr (u:=fun m x=>{ m with hassup:=true,sup:=x }) (m:=({ ({ ({ m with name:=x1 }:MT) with nrdn:=x2 }:MT) with delold:=x3 }:MT)) q5
  rw[p5.1] at hr
  have he:Rd.updR (Rd.taggedR 128) (fun m x=>{ m with hassup:=true,sup:=x }) ({ ({ ({ m with name:=x1 }:MT) with nrdn:=x2 }:MT) with delold:=x3 }:MT) F3=Rd.supR ({ ({ ({ m with name:=x1 }:MT) with nrdn:=x2 }:MT) with delold:=x3 }:MT) F3:=by unfold Rd.supR;rw[if_neg hne];rfl
  rw[he] at hr p5
  have tt:=zAu (b:=Rd.supR) t3.2 p5.2
  rw[tt.1] at hr
  exact⟨⟨({ ({ ({ ({ ({ m with name:=x1 }:MT) with nrdn:=x2 }:MT) with delold:=x3 }:MT) with hassup:=true }:MT) with sup:=x5 }:MT),F5,rfl,HM5.out,hr,HF5.out,tt.2⟩⟩
theorem result_any (w:World) (lo g b:Nat) (F:List Fd) (φ:Bool) (mb lo3:Nat) (m:MT) (h:RdS w lo g b F φ) (hm:MtIn mb lo3 m w) (hml:mb<lo3) (hg3:g<lo3) (hlo3:lo3<=w.heap.size) (hmb:mb≠g/\mb≠b/\(mb<lo\/g<mb)):
  Calls Tryz.prog 160 #[.pointer (some ⟨g,0,none⟩),.pointer (some ⟨mb,0,none⟩)] w (InPost (MtIn mb lo3) (Rd.resultR m) w (own3 (fun k=>k=mb) g b) lo g b F φ):=by
 have hgl:=h.log
 have hlt:=h.lt
 have hbo:=h.blo
 have HM0:=hide hm
 have Hn:=hide (And.intro hml (And.intro hg3 (And.intro hlo3 (And.intro hmb (And.intro hgl (And.intro hlt hbo))))))
 have HR0:=hide h
 have HF0:Hid (Fr (own3 (fun k=>k=mb) g b) w w):=hide (Fr.refl _ _)
 clear h hm hml hg3 hlo3 hmb hgl hlt hbo
 go_enter Tryz.func160,Tryz.ntmps160
 go_wp2_with (go_at_call 81;fail)
 refine (zBr w lo g b F φ 10 2147483647 HR0.out).mono ?_
 rintro e w1 hpost1
 obtain⟨x1,v1,F1,rfl,hrep1,hr1,hf1,hq1⟩:=hpost1.out
 clear hpost1
 unfold repI at hrep1
 subst hrep1
 have hm1:=HM0.out.fr hf1 (by rintro (q | q)<;>(have:=Hn.out;omega)) (fun k hk=>(by rintro (q | q)<;>(have:=Hn.out;omega)))
 obtain⟨f0,f1,f2,f3,f4,f5,f6,va,vl,vc,vr,vk,hB1,hz1⟩:=hm1.out
 have k1:w1.cell? ⟨mb,27,none⟩=some (.int .i64 m.code):=hB1.cells 27 _ rfl
 have z1:=hB1.fz
 have hs1:=hf1.size
 have HM1:=hide (hm1.put (m':=({ m with code:=x1 }:MT)) (by have:=Hn.out;omega) 27 (by omega) (.int .i64 x1) ⟨rfl,rfl,rfl,rfl,rfl,rfl⟩ (fun _ _ _ _ _ _ _ _ _ _ _ _=>rfl))
 have HR1:=hide (hr1.fr (Fr.setCell (X:=fun k=>k=mb) w1 ⟨mb,27,none⟩ (.int .i64 x1) rfl) (by have:=Hn.out;omega) (by have:=Hn.out;omega) (fun k h1 h2=>by have:=Hn.out;omega))
 have HF1:=hide ((HF0.out.trans (hf1.mono (Y:=own3 (fun k=>k=mb) g b) fun k _ q=>by rcases q with q | q;exact .inl q;exact .inr (.inl q))).trans (Fr.setCell (X:=own3 (fun k=>k=mb) g b) w1 ⟨mb,27,none⟩ (.int .i64 x1) (.inr (.inr rfl))))
 have HQ1:=hide hq1
 clear hr1 hf1 hq1 hB1 hz1 hm1 hs1 f0 f1 f2 f3 f4 f5 f6 vl vc vk va vr
 go_wp2_with (go_at_call 130;fail)
 refine (zA3 (w1.setCell ⟨mb,27,none⟩ (.int .i64 x1)) lo g b F1 _ HR1.out).mono ?_
 rintro e w2 hpost2
 obtain⟨x2,v2,F2,rfl,hrep2,hr2,hf2,hq2⟩:=hpost2.out
 clear hpost2
 unfold repT at hrep2
 subst hrep2
 have hm2:=HM1.out.fr hf2 (by rintro (q | q)<;>(have:=Hn.out;omega)) (fun k hk=>(by rintro (q | q)<;>(have:=Hn.out;omega)))
 obtain⟨f0,f1,f2,f3,f4,f5,f6,va,vl,vc,vr,vk,hB2,hz2⟩:=hm2.out
 have k2:w2.cell? ⟨mb,28,none⟩=some (.string (txt m.matched)):=hB2.cells 28 _ rfl
 have z2:=hB2.fz
 have hs2:=hf2.size
 have HM2:=hide (hm2.put (m':=({ ({ m with code:=x1 }:MT) with matched:=x2 }:MT)) (by have:=Hn.out;omega) 28 (by omega) (.string (txt x2)) ⟨rfl,rfl,rfl,rfl,rfl,rfl⟩ (fun _ _ _ _ _ _ _ _ _ _ _ _=>rfl))
 have HR2:=hide (hr2.fr (Fr.setCell (X:=fun k=>k=mb) w2 ⟨mb,28,none⟩ (.string (txt x2)) rfl) (by have:=Hn.out;omega) (by have:=Hn.out;omega) (fun k h1 h2=>by have:=Hn.out;omega))
 have HF2:=hide ((HF1.out.trans (hf2.mono (Y:=own3 (fun k=>k=mb) g b) fun k _ q=>by rcases q with q | q;exact .inl q;exact .inr (.inl q))).trans (Fr.setCell (X:=own3 (fun k=>k=mb) g b) w2 ⟨mb,28,none⟩ (.string (txt x2)) (.inr (.inr rfl))))
 have HQ2:=hide hq2
 clear hr2 hf2 hq2 hB2 hz2 hm2 hs2 f0 f1 f2 f3 f4 f5 f6 vl vc vk va vr
 go_wp2_with (go_at_call 130;fail)
 refine (zA3 (w2.setCell ⟨mb,28,none⟩ (.string (txt x2))) lo g b F2 _ HR2.out).mono ?_
 rintro e w3 hpost3
 obtain⟨x3,v3,F3,rfl,hrep3,hr3,hf3,hq3⟩:=hpost3.out
 clear hpost3
 unfold repT at hrep3
 subst hrep3
 have hm3:=HM2.out.fr hf3 (by rintro (q | q)<;>(have:=Hn.out;omega)) (fun k hk=>(by rintro (q | q)<;>(have:=Hn.out;omega)))
 obtain⟨f0,f1,f2,f3,f4,f5,f6,va,vl,vc,vr,vk,hB3,hz3⟩:=hm3.out
 have k3:w3.cell? ⟨mb,29,none⟩=some (.string (txt m.text)):=hB3.cells 29 _ rfl
 have z3:=hB3.fz
 have hs3:=hf3.size
 have HM3:=hide (hm3.put (m':=({ ({ ({ m with code:=x1 }:MT) with matched:=x2 }:MT) with text:=x3 }:MT)) (by have:=Hn.out;omega) 29 (by omega) (.string (txt x3)) ⟨rfl,rfl,rfl,rfl,rfl,rfl⟩ (fun _ _ _ _ _ _ _ _ _ _ _ _=>rfl))
 have HR3:=hide (hr3.fr (Fr.setCell (X:=fun k=>k=mb) w3 ⟨mb,29,none⟩ (.string (txt x3)) rfl) (by have:=Hn.out;omega) (by have:=Hn.out;omega) (fun k h1 h2=>by have:=Hn.out;omega))
 have HF3:=hide ((HF2.out.trans (hf3.mono (Y:=own3 (fun k=>k=mb) g b) fun k _ q=>by rcases q with q | q;exact .inl q;exact .inr (.inl q))).trans (Fr.setCell (X:=own3 (fun k=>k=mb) g b) w3 ⟨mb,29,none⟩ (.string (txt x3)) (.inr (.inr rfl))))
 have HQ3:=hide hq3
 clear hr3 hf3 hq3 hB3 hz3 hm3 hs3 f0 f1 f2 f3 f4 f5 f6 vl vc vk va vr
 go_wp2_with (go_at_call 79;fail)
 refine (zA6 (w3.setCell ⟨mb,29,none⟩ (.string (txt x3))) lo g b F3 _ HR3.out).mono ?_
 rintro e w9 ⟨rfl,hw9⟩
 obtain rfl:=hw9.symm
 cases hmb:moreB F3 _ with
 | false=>
  go_wp2
  go_returns
  have q1:=HQ1.out
  have p1:=zAr (u:=fun m x=>{ m with code:=x }) (m:=m) q1
  have t1:=p1
  have q2:=HQ2.out
  rw[p1.1] at q2
  have p2:=zAr (u:=fun m x=>{ m with matched:=x }) (m:=({ m with code:=x1 }:MT)) q2
  have t2:=zAu t1.2 p2.2
  have q3:=HQ3.out
  rw[p1.1,p2.1,t2.1] at q3
  have p3:=zAr (u:=fun m x=>{ m with text:=x }) (m:=({ ({ m with code:=x1 }:MT) with matched:=x2 }:MT)) q3
  have t3:=zAu t2.2 p3.2
  have hr:=HR3.out
  rw[p1.1,p2.1,t2.1,p3.1,t3.1] at hr hmb
  have hno:=if_no (m:=({ ({ ({ m with code:=x1 }:MT) with matched:=x2 }:MT) with text:=x3 }:MT)) (X:=(Rd.someR 0xa3 Rd.textR F3).map fun q=>({ ({ ({ ({ m with code:=x1 }:MT) with matched:=x2 }:MT) with text:=x3 }:MT) with refs:=q.1 },q.2)) hmb
  have tt:=zAu (b:=Rd.refsR) t3.2 hno.2
  rw[hno.1] at hr
  rw[show ∀a:Bool,(a||(if F3=[] then some (({ ({ ({ m with code:=x1 }:MT) with matched:=x2 }:MT) with text:=x3 }:MT),F3) else (Rd.someR 0xa3 Rd.textR F3).map fun q=>({ ({ ({ ({ m with code:=x1 }:MT) with matched:=x2 }:MT) with text:=x3 }:MT) with refs:=q.1 },q.2)).isNone)=(a||(Rd.refsR ({ ({ ({ m with code:=x1 }:MT) with matched:=x2 }:MT) with text:=x3 }:MT) F3).isNone) from fun _=>rfl,tt.1] at hr
  exact⟨⟨({ ({ ({ m with code:=x1 }:MT) with matched:=x2 }:MT) with text:=x3 }:MT),F3,rfl,HM3.out,hr,HF3.out,tt.2⟩⟩
 | true=>
  go_wp2_with (go_at_call 129;fail)
  refine (someT_any Rd.textR text_eats (w3.setCell ⟨mb,29,none⟩ (.string (txt x3))) lo g b F3 _ 163 HR3.out (readsT _ b)).mono ?_
  rintro e w4 hpost4
  obtain⟨x4,v4,F4,rfl,hrep4,hr4,hf4,hq4⟩:=hpost4.out
  clear hpost4
  have hrep4x:=hrep4
  obtain⟨A4,c4,xs4,rfl,-⟩:=hrep4x
  have hm4:=HM3.out.fr hf4 (by rintro (q | q)<;>(have:=Hn.out;omega)) (fun k hk=>(by rintro (q | q)<;>(have:=Hn.out;omega)))
  obtain⟨f0,f1,f2,f3,f4,f5,f6,va,vl,vc,vr,vk,hB4,hz4⟩:=hm4.out
  have k4:w4.cell? ⟨mb,30,none⟩=some (vr):=hB4.cells 30 _ rfl
  have z4:=hB4.fz
  have hs4:=hf4.size
  have HM4:=hide (hm4.putRefs (by have:=Hn.out;omega) (zA7 (fun _ _=>rfl) (fun k hk=>⟨by have:=Hn.out;have:=HF3.out.size;omega,hk.2⟩) hrep4))
  have HR4:=hide (hr4.fr (Fr.setCell (X:=fun k=>k=mb) w4 ⟨mb,30,none⟩ (.slice A4 x4.length c4) rfl) (by have:=Hn.out;omega) (by have:=Hn.out;omega) (fun k h1 h2=>by have:=Hn.out;omega))
  have HF4:=hide ((HF3.out.trans (hf4.mono (Y:=own3 (fun k=>k=mb) g b) fun k _ q=>by rcases q with q | q;exact .inl q;exact .inr (.inl q))).trans (Fr.setCell (X:=own3 (fun k=>k=mb) g b) w4 ⟨mb,30,none⟩ (.slice A4 x4.length c4) (.inr (.inr rfl))))
  have HQ4:=hide hq4
  clear hr4 hf4 hq4 hB4 hz4 hm4 hs4 f0 f1 f2 f3 f4 f5 f6 vl vc vk hrep4
  go_wp2
  go_returns
  have q1:=HQ1.out
  have p1:=zAr (u:=fun m x=>{ m with code:=x }) (m:=m) q1
  have t1:=p1
  have q2:=HQ2.out
  rw[p1.1] at q2
  have p2:=zAr (u:=fun m x=>{ m with matched:=x }) (m:=({ m with code:=x1 }:MT)) q2
  have t2:=zAu t1.2 p2.2
  have q3:=HQ3.out
  rw[p1.1,p2.1,t2.1] at q3
  have p3:=zAr (u:=fun m x=>{ m with text:=x }) (m:=({ ({ m with code:=x1 }:MT) with matched:=x2 }:MT)) q3
  have t3:=zAu t2.2 p3.2
  have hr:=HR4.out
  have q4:=HQ4.out
  rw[p1.1,p2.1,t2.1,p3.1,t3.1] at hr hmb q4
  obtain⟨hp0,hne⟩:=more_yes hmb
  have p4:=zAr (u:=fun m x=>{ m with refs:=x }) (m:=({ ({ ({ m with code:=x1 }:MT) with matched:=x2 }:MT) with text:=x3 }:MT)) q4
  rw[p4.1] at hr
  have he:Rd.updR (Rd.someR 0xa3 Rd.textR) (fun m x=>{ m with refs:=x }) ({ ({ ({ m with code:=x1 }:MT) with matched:=x2 }:MT) with text:=x3 }:MT) F3=Rd.refsR ({ ({ ({ m with code:=x1 }:MT) with matched:=x2 }:MT) with text:=x3 }:MT) F3:=by unfold Rd.refsR;rw[if_neg hne];rfl
  rw[he] at hr p4
  have tt:=zAu (b:=Rd.refsR) t3.2 p4.2
  rw[tt.1] at hr
  exact⟨⟨({ ({ ({ ({ m with code:=x1 }:MT) with matched:=x2 }:MT) with text:=x3 }:MT) with refs:=x4 }:MT),F4,rfl,HM4.out,hr,HF4.out,tt.2⟩⟩
end Go.Proofs.YtcpjmgfloimfhaaGreat
