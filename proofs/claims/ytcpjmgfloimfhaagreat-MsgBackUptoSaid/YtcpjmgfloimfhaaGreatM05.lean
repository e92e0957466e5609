/- Several texts in one: LListT, LBlk, LOwn, LListA, LAttr. By an AI agent. -/
import Derived.Test.YtcpjmgfloimfhaaGreatM04
import Derived.Deep.MidRow
set_option linter.unusedSimpArgs false
set_option linter.unusedVariables false
set_option maxRecDepth 100000
set_option maxHeartbeats 32000000
namespace Go.Proofs.YtcpjmgfloimfhaaGreat
open Go.RowKit
theorem infoT8:(Tryz.prog.info? 9).map (fun i=>(i.zero,i.size,i.bytes))=some (some (.string .empty),1,16):=by kernel_rfl
def ReadsT (p:Rdr (List UInt8)) (w:World) (b:Nat):Prop:=∀(W:World) (lo g:Nat) (F:List Fd) (φ:Bool),w.heap.size<=W.heap.size->RdS W lo g b F φ->Calls Tryz.prog 130 #[.pointer (some ⟨g,0,none⟩)] W (RdPost repT p W (own2 g b) lo g b F φ)
theorem lclT_any (p:Rdr (List UInt8)) (he:Eats p) (w:World) (b bl bx lo2:Nat) (hbl:bl<lo2) (hlo:lo2<=w.heap.size) (hbb:b≠bl) (hbx:bx<lo2) (hxb:bx≠b) (hxl:bx≠bl)
  (hc:w.cell? ⟨bl,0,none⟩=some (.slice none 0 0)) (hfz:∀i,w.frozen? ⟨bl,i,none⟩=false) (hf:w.cell? ⟨bx,0,none⟩=some (.func (.func 130) #[] #[])) (hrd:ReadsT p w b):
  ClosedBy (LstS elT 9 bl lo2) (fun k=>k=bl) (Rd.manyR p) w b 172 #[.pointer (some ⟨bl,0,none⟩),.pointer (some ⟨bx,0,none⟩)]:=by
 intro W lo g F φ hfr hwl hr
 have hgl:=hr.log
 have hlt:=hr.lt
 have hsm:=hr.small.1
 have hcW:W.cell? ⟨bl,0,none⟩=some (.slice none 0 0):=(hfr.cell (p:=⟨bl,0,none⟩) (by simp only;omega) (fun e=>hbb e.symm)).trans hc
 have hfW:W.cell? ⟨bx,0,none⟩=some (.func (.func 130) #[] #[]):=(hfr.cell (p:=⟨bx,0,none⟩) (by simp only;omega) hxb).trans hf
 have hzW:∀i,W.frozen? ⟨bl,i,none⟩=false:=fun i=>(hfr.frozen (p:=⟨bl,i,none⟩) (by simp only;omega) (fun e=>hbb e.symm)).trans (hfz i)
 have hL0:LstS elT 9 bl W.heap.size [] W:=⟨by omega,by omega,hzW,⟨_,[],hcW,World.ownsRow_nil _ _ _ _,rfl⟩,by simp⟩
 have Hrd:=hide (fun (W':World) (h:W.heap.size<=W'.heap.size) (lo' g':Nat) (F1:List Fd) (φ1:Bool) (h1:RdS W' lo' g' b F1 φ1)=>hrd W' lo' g' F1 φ1 (Nat.le_trans hfr.size h) h1)
 have Hn:=hide (And.intro hbl (And.intro hlo (And.intro hbb (And.intro hbx (And.intro hxb (And.intro hxl (And.intro hwl (And.intro hgl (And.intro hlt hr.blo)))))))))
 have HM:=hide (Many.start p F φ hsm)
 have HL:=hide hL0
 have HR:=hide hr
 have HfW:=hide hfW
 have He:=hide he
 try simp only[List.append_toArray,List.cons_append,List.nil_append]
 clear hfr hwl hr hgl hlt hsm hcW hfW hzW hL0 hrd hbl hlo hbb hbx hxb hxl hc hfz hf he
 go_enter Tryz.func172,Tryz.ntmps172
 go_wp2
 go_loopg [] (if φ then 0 else F.length+1) (fun k wx=>∃(F':List Fd) (φ':Bool) (acc:List (List UInt8)),Hid (RdS wx lo g b F' φ')/\Hid (LstS elT 9 bl W.heap.size acc wx)/\Hid (Fr (own3 (fun k=>k=bl) g b) W wx)/\Hid (wx.cell? ⟨bx,0,none⟩=some (.func (.func 130) #[] #[]))/\Hid (Many p F φ F' φ' acc)/\Hid ((if φ' then 0 else F'.length+1)<=k))
 case atStart=>exact⟨F,φ,[],HR,HL,hide (Fr.refl _ _),HfW,HM,hide (Nat.le_refl _)⟩
 case round=>
  obtain⟨F',φ',acc,hR,hL,hF,hX,hM,hK⟩:=hrel
  clear HR HL HfW HM
  have hmore:=zA6 wr lo g b F' φ' hR.out
  cases hmb:moreB F' φ' with
  | false=>
   rw[hmb] at hmore
   have hd:=hM.out.done hmb
   have Hd:=hide hd
   clear hmb hd
   go_wp2_with (go_at_call 79;fail)
   refine hmore.mono ?_
   rintro e w1 ⟨rfl,hw1⟩
   obtain rfl:=hw1
   clear hmore
   go_wp2
   go_returns
   refine⟨⟨acc,F',rfl,hL.out.low (by have:=Hn.out;omega) Hn.out.1,?_,hF.out,Hd.out.2⟩⟩
   rw[<-Hd.out.1]
   exact hR.out
  | true=>
   rw[hmb] at hmore
   obtain⟨rfl,hne⟩:φ'=false/\F'≠[]:=by
    cases φ' with
    | true=>cases hmb
    | false=>exact⟨rfl,fun e=>by subst e;cases hmb⟩
   have Hne:=hide hne
   obtain⟨v,xs,hv,hown,hrow⟩:=hL.out.row
   obtain⟨Av,cv,rfl,_,_⟩:=own_form hown
   have Hv:=hide hv
   have Hown:=hide hown
   have Hrow:=hide hrow
   clear hmb hne hv hown hrow
   go_wp2_with (go_at_call 79;fail)
   refine hmore.mono ?_
   rintro e w1 ⟨rfl,hw1⟩
   obtain rfl:=hw1
   clear hmore
   go_wp2_with fail
   refine zAp (wayCC ⟨bl,0,none⟩ (.slice Av acc.length cv) ⟨bx,0,none⟩ (.func (.func 130) #[] #[])) [6] (by kernel_rfl) ?_
   have Hd:=hide (hR.out.fr (Fr.drew (fun _=>False) w1) id id (fun _ _ _=>id))
   have Hfd:=hide (hF.out.trans (Fr.drew _ w1))
   replace Hv:Hid (w1.drew.cell? ⟨bl,0,none⟩=some (.slice Av acc.length cv)):=hide Hv.out
   replace Hown:=hide (own_fr Hown.out (Fr.drew (fun _=>False) w1) (fun _ _=>id))
   replace Hrow:=hide (Hrow.out.move (w:=w1) (w':=w1.drew) (P':=fun k=>W.heap.size<=k/\k<w1.drew.heap.size/\(Value.slice Av acc.length cv).ownBlock≠some k) (fun _ _=>rfl) (fun _ h=>h))
   replace hL:=hide (hL.out.fr (X:=fun _=>False) (Fr.drew _ w1) id (fun _ _=>id))
   replace hX:Hid (w1.drew.cell? ⟨bx,0,none⟩=some (.func (.func 130) #[] #[])):=hide hX.out
   clear hR hF
   generalize w1.drew=wd at *
   refine zAm 0 (some 6) (v:=?vl0) rfl rfl (by kernel_rfl) rfl (by kernel_rfl) (by rfl) (fun Wq hW=>?yl0) ?_
   case yl0=>
    have vW:Wq.cell? ⟨bl,0,none⟩=some (.slice Av acc.length cv):=hW.1 Hv.out
    go_simp<;>with_reducible rfl
   try simp only[pU]
   refine zAm 1 (some 7) (v:=?vl1) rfl rfl (by kernel_rfl) rfl (by kernel_rfl) (by rfl) (fun Wq hW=>?yl1) ?_
   case yl1=>
    have xW:Wq.cell? ⟨bx,0,none⟩=some (.func (.func 130) #[] #[]):=hW.2 hX.out
    go_simp<;>with_reducible rfl
   try simp only[pU]
   refine zAe 2 (some 8) rfl rfl (by kernel_rfl) rfl (by rfl) (fun Wq=>by go_simp<;>with_reducible rfl) ?_
   try simp only[pU]
   refine zAf 3 rfl (by kernel_rfl) (fun K hK2=>?_)
   go_simp
   refine (Hrd.out wd (Hfd.out.size) lo g F' false Hd.out).mono ?_
   rintro e w2 hpost
   obtain⟨x,v9,F2,rfl,hrep,hr2,hf2,hq⟩:=hpost.out
   clear hpost
   rw[Bool.false_or] at hr2
   unfold repT at hrep
   subst hrep
   have hE:elT.rep w2 (fun k=>wd.heap.size<=k/\k<w2.heap.size) x [.string (txt x)]:=rfl
   have hs2:=hf2.size
   have hlW:=(Hfd.out.size)
   have hv2:w2.cell? ⟨bl,0,none⟩=some (.slice Av acc.length cv):=(hf2.cell (p:=⟨bl,0,none⟩) (by simp only;have:=Hn.out;omega) (by rintro (h | h)<;>(simp only at h;have:=Hn.out;omega))).trans Hv.out
   have hx2:w2.cell? ⟨bx,0,none⟩=some (.func (.func 130) #[] #[]):=(hf2.cell (p:=⟨bx,0,none⟩) (by simp only;have:=Hn.out;omega) (by rintro (h | h)<;>(simp only at h;have:=Hn.out;omega))).trans hX.out
   have hz2:∀i,w2.frozen? ⟨bl,i,none⟩=false:=fun i=>(hf2.frozen (p:=⟨bl,i,none⟩) (by simp only;have:=Hn.out;omega) (by rintro (h | h)<;>(simp only at h;have:=Hn.out;omega))).trans (hL.out.fz i)
   have hown2:=own_fr Hown.out hf2 (fun k hk h=>by rcases h with h | h<;>(have:=Hn.out;omega))
   have hrow2:=Hrow.out.move (P':=fun k=>W.heap.size<=k/\k<w2.heap.size/\(Value.slice Av acc.length cv).ownBlock≠some k) (fun q hq=>hf2.cell hq.2.1 (by rintro (h | h)<;>(have:=Hn.out;have:=hq.1;omega))) (fun k hk=>⟨hk.1,Nat.lt_of_lt_of_le hk.2.1 hs2,hk.2.2⟩)
   have hE':=elT.move (w:=w2) (w':=w2) (P':=fun k=>W.heap.size<=k/\k<w2.heap.size/\(Value.slice Av acc.length cv).ownBlock≠some k) (fun _ _=>rfl) (fun k hk=>⟨by omega,hk.2,zBu Hown.out k hk.1⟩) hE
   have Hr2:=hide hr2
   have Hf2:=hide hf2
   have Hq:=hide hq
   have Hz2:=hide hz2
   have Hown2:=hide hown2
   have Hrow2:=hide hrow2
   have HE:=hide hE'
   have Hs2:=hide (And.intro hs2 hlW)
   have Hv2:=hide hv2
   have Hx2:=hide hx2
   refine hK2.out _ _ (fun _=>⟨fun _=>Hv2.out,fun _=>Hx2.out⟩) ?_
   clear hK2 K hr2 hf2 hq hz2 hown2 hrow2 hE hE' hs2 hlW hv2 hx2
   try simp only[pU]
   refine zAf 4 rfl (by kernel_rfl) (fun K hK2=>?_)
   go_simp
   have hfa:Fr (fun _=>False) w2 (w2.alloc (.cells #[.string (txt x)] 9)):=Fr.alloc _ _ _
   refine hK2.out _ _ (fun _=>⟨fun h=>(hfa.cell (p:=⟨bl,0,none⟩) (by simp only;have:=Hn.out;have:=Hs2.out;omega) id).trans h,fun h=>(hfa.cell (p:=⟨bx,0,none⟩) (by simp only;have:=Hn.out;have:=Hs2.out;omega) id).trans h⟩) ?_
   clear hK2 K hfa
   have hlit:=World.ownsRow_lit (e:=9) (size:=1) w2 #[.string (txt x)] 1 (Nat.le_refl _) (by unfold maxLen;omega) rfl
   have hown3:=own_fr Hown2.out (Fr.alloc (fun _=>False) w2 (.cells #[.string (txt x)] 9)) (fun _ _=>id)
   try simp only[pU]
   refine zAf 5 rfl (by kernel_rfl) (fun K hK2=>?_)
   have h1c:∀u∈([.string (txt x)]:List Value),u.oneCell'=true:=elT.one HE.out
   refine stepA _ 22 9 _ 1 16 Tryz.underlying22 infoT8 rfl (by omega) (by omega) (some 11) rfl rfl (.tmp 6) (.tmp 10) rfl W.heap.size _ acc.length xs rfl hown3 _ _ 1 1 [.string (txt x)] rfl (Has.own hlit) h1c (by have:=hM.out.all;omega) (by have:=Hs2.out;simp;omega) ?_
   intro v4 w4 h4 hb4 hg4 ht4
   have hn4:acc.length+1<=20000:=by have:=hM.out.all;omega
   have hls:=LstS.snoc (E:=elT) (ety:=9) (bl:=bl) (lo:=W.heap.size) (L:=acc) (x:=x) (by have:=Hn.out;omega) (by have:=Hs2.out;omega) Hz2.out Hv2.out Hown2.out Hrow2.out HE.out h4 hg4 ht4 hn4
   have hfg:Fr (fun k=>(Value.slice Av acc.length cv).ownBlock=some k) w2 w4:=(Fr.alloc _ w2 (.cells #[.string (txt x)] 9)).trans (Fr.grown hg4 fun k hk=>hk)
   have hro:∀k,(Value.slice Av acc.length cv).ownBlock=some k->W.heap.size<=k:=fun k hk=>(Hown2.out.lt k hk).1
   have hfs:Fr (fun k=>k=bl\/W.heap.size<=k) w2 (w4.setCell ⟨bl,0,none⟩ v4):=(hfg.mono fun k _ hk=>.inr (hro k hk)).trans ((Fr.setCell (X:=fun k=>k=bl) _ _ _ rfl).mono fun k _ hk=>.inl hk)
   have hr4:=Hr2.out.fr hfs (by rintro (h | h)<;>(have:=Hn.out;omega)) (by rintro (h | h)<;>(have:=Hn.out;have:=Hr2.out.back;omega)) (fun k h1 h2=>by rintro (h | h)<;>(have:=Hn.out;omega))
   have hx4:(w4.setCell ⟨bl,0,none⟩ v4).cell? ⟨bx,0,none⟩=some (.func (.func 130) #[] #[]):=(hfs.cell (p:=⟨bx,0,none⟩) (by simp only;have:=Hn.out;have:=Hs2.out;omega) (by rintro (h | h)<;>(simp only at h;have:=Hn.out;omega))).trans Hx2.out
   have hF4:Fr (own3 (fun k=>k=bl) g b) W (w4.setCell ⟨bl,0,none⟩ v4):=(Hfd.out.trans (Hf2.out.mono (Y:=own3 (fun k=>k=bl) g b) fun k _ h=>by rcases h with h | h;exact .inl h;exact .inr (.inl h))).trans' hfs fun k hk h=>by rcases h with h | h;exact .inr (.inr h);omega
   have hst:=hM.out.step (x:=x) (G:=F2) He.out Hne.out (fun x0 F0 h0=>Hq.out rfl x0 F0 h0)
   have Hls:=hide hls
   have Hr4:=hide hr4
   have Hx4:=hide hx4
   have HF4:=hide hF4
   have Hst:=hide hst
   have hc4:w4.cell? ⟨bl,0,none⟩=some (.slice Av acc.length cv):=(hfg.cell (p:=⟨bl,0,none⟩) (by simp only;have:=Hn.out;have:=Hs2.out;omega) (fun e=>by have:=hro bl e;have:=Hn.out;omega)).trans Hv2.out
   have hz4:∀i,w4.frozen? ⟨bl,i,none⟩=false:=fun i=>(hfg.frozen (p:=⟨bl,i,none⟩) (by simp only;have:=Hn.out;have:=Hs2.out;omega) (fun e=>by have:=hro bl e;have:=Hn.out;omega)).trans (Hz2.out i)
   have hx4':w4.cell? ⟨bx,0,none⟩=some (.func (.func 130) #[] #[]):=(hfg.cell (p:=⟨bx,0,none⟩) (by simp only;have:=Hn.out;have:=Hs2.out;omega) (fun e=>by have:=hro bx e;have:=Hn.out;omega)).trans Hx2.out
   obtain⟨A4,c4,rfl,_,_⟩:=own_form h4
   refine hK2.out _ _ (fun _=>⟨fun _=>hc4,fun _=>hx4'⟩) ?_
   clear hK2 K h4 hb4 hg4 ht4 hls hfg hro hfs hr4 hx4 hF4 hst h1c hown3 hlit hx4' hn4
   try simp only[pU]
   refine zAf 6 rfl (by kernel_rfl) (fun K hK2=>?_)
   go_simp
   refine hK2.out _ _ (fun h=>absurd (by decide) h) ?_
   clear hK2 K
   try simp only[pU]
   refine zAj (by kernel_rfl) ?_ _
   go_wp2
   go_roundg (if (p F').isNone then 0 else F2.length+1)
   case measure=>have h1:=Hst.out.2;have h2:=hK.out;simp only[Bool.false_eq_true,if_false] at h2;omega
   case rel=>exact⟨F2,(p F').isNone,acc++[x],Hr4,Hls,HF4,Hx4,hide Hst.out.1,hide (Nat.le_refl _)⟩
theorem listT_any (p:Rdr (List UInt8)) (he:Eats p) (w:World) (lo g b:Nat) (F:List Fd) (φ:Bool) (t:UInt8) (h:RdS w lo g b F φ) (hrd:ReadsT p w b):
  Calls Tryz.prog 152 #[.pointer (some ⟨g,0,none⟩),c8 t,(.func (.func 130) #[] #[])] w (RdPost (repL elT) (Rd.listR t p) w (own2 g b) lo g b F φ):=by
 have hgl:=h.log
 have hlt:=h.lt
 have hbk:=h.back
 have hblo:=h.blo
 have hfa:Fr (fun _=>False) w (w.alloc (.cells #[(.func (.func 130) #[] #[])] 164)):=Fr.alloc _ _ _
 have hcx:(w.alloc (.cells #[(.func (.func 130) #[] #[])] 164)).cell? ⟨w.heap.size,0,none⟩=some (.func (.func 130) #[] #[]):=by rw[World.cell?_alloc_at (hn:=by simp)];rfl
 obtain⟨w1,hw1⟩:∃w1,w.alloc (.cells #[(.func (.func 130) #[] #[])] 164)=w1:=⟨_,rfl⟩
 have hs1:w1.heap.size=w.heap.size+1:=by rw[<-hw1];simp
 rw[hw1] at hfa hcx
 have hfb:Fr (fun _=>False) w1 (w1.alloc (.cells #[.slice none 0 0] 22)):=Fr.alloc _ _ _
 have hcl:(w1.alloc (.cells #[.slice none 0 0] 22)).cell? ⟨w1.heap.size,0,none⟩=some (.slice none 0 0):=by rw[World.cell?_alloc_at (hn:=by simp)];rfl
 have hzl:∀i,(w1.alloc (.cells #[.slice none 0 0] 22)).frozen? ⟨w1.heap.size,i,none⟩=false:=fun i=>World.frozen?_alloc_at _ _ _ _ rfl
 obtain⟨w2,hw2⟩:∃w2,w1.alloc (.cells #[.slice none 0 0] 22)=w2:=⟨_,rfl⟩
 have hs2:w2.heap.size=w.heap.size+2:=by rw[<-hw2];simp[hs1]
 rw[hw2] at hfb hcl hzl
 rw[hs1] at hcl hzl
 have hcx2:=(hfb.cell (p:=⟨w.heap.size,0,none⟩) (by simp only;omega) id).trans hcx
 have hf2:=hfa.trans hfb
 have hr2:=h.fr hf2 id id (fun _ _ _=>id)
 obtain⟨bx,hbx⟩:∃bx,w.heap.size=bx:=⟨_,rfl⟩
 obtain⟨bl,hbl⟩:∃bl,w.heap.size+1=bl:=⟨_,rfl⟩
 rw[hbx] at hcx2
 rw[hbl] at hcl hzl
 have hC:∀W,Fr (own2 g b) w2 W->ClosedBy (LstS elT 9 bl (bl+1)) (fun k=>k=bl) (Rd.manyR p) W b 172 #[.pointer (some ⟨bl,0,none⟩),.pointer (some ⟨bx,0,none⟩)]:=fun W hW=>
  lclT_any p he W b bl bx (bl+1) (by omega) (by have:=hW.size;omega) (by omega) (by omega) (by omega) (by omega)
   ((hW.cell (p:=⟨bl,0,none⟩) (by simp only;omega) (by rintro (q | q)<;>(simp only at q;omega))).trans hcl) (fun i=>(hW.frozen (p:=⟨bl,i,none⟩) (by simp only;omega) (by rintro (q | q)<;>(simp only at q;omega))).trans (hzl i))
   ((hW.cell (p:=⟨bx,0,none⟩) (by simp only;omega) (by rintro (q | q)<;>(simp only at q;omega))).trans hcx2) (fun W' lo' g' F1 φ1 q1 q2=>hrd W' lo' g' F1 φ1 (by have:=hW.size;omega) q2)
 have hin:=zBk (LstS elT 9 bl (bl+1)) (fun k=>k=bl) (Rd.manyR p) w2 lo g b F φ t 172 #[.pointer (some ⟨bl,0,none⟩),.pointer (some ⟨bx,0,none⟩)] (fun args w=>by go_simp) hr2 hC
  (fun x W W' q1 q2=>q1.fr q2 (by omega) (fun k hk=>by omega)) (fun k hk=>by subst hk;exact⟨by omega,by omega,by omega⟩)
 have Hin:=hide hin
 have Hw1:=hide hw1
 have Hw2:=hide hw2
 have Hbb:=hide (And.intro hbx hbl)
 have Hf2:=hide hf2
 have Hs:=hide (And.intro hs1 hs2)
 clear hin hC hr2 hf2 hcx2 hs2 hs1 hzl hcl hfb hcx hfa h hrd he hw1 hw2 hbx hbl hgl hlt hbk hblo
 go_enter Tryz.func152,Tryz.ntmps152
 go_upto_region 2 with fail
 rw[Hw1.out,Hw2.out]
 try rw[Hs.out.1]
 rw[Hbb.out.2,Hbb.out.1]
 go_wp2_with (go_at_call 28;fail)
 refine Hin.out.mono ?_
 rintro e w3 hpost
 obtain⟨L,F',rfl,hl,hr3,hf3,hq⟩:=hpost.out
 obtain⟨v,xs,hv,hown,hrow⟩:=hl.row
 have hl2:=hl.len
 obtain⟨A,c,rfl,hLc,hHP⟩:=zA5 hown
 have HR:=hide hr3
 have HQ:=hide hq
 have HF:Hid (Fr (own2 g b) w w3):=hide ((Hf2.out.mono (Y:=own2 g b) fun _ _ q=>q.elim).trans' hf3 fun k hk q=>by rcases q with q | q | q;exact .inl q;exact .inr q;(have:=Hbb.out;omega))
 have HRep:Hid (repL elT w3 (fun k=>w.heap.size<=k/\k<w3.heap.size) L (.slice A L.length c)):=hide ⟨A,c,xs,rfl,hl2,hHP.move (fun _ _=>rfl) (fun k hk=>⟨by have:=Hbb.out;omega,hk.2⟩),hrow.move (fun _ _=>rfl) (fun k hk=>⟨by have:=Hbb.out;omega,hk.2.1⟩)⟩
 clear hpost Hin hq hr3 hf3 hl hown hrow hHP hLc Hf2 Hs Hw1 Hw2
 go_wp2
 go_ret
 exact⟨⟨L,_,F',rfl,HRep.out,HR.out,HF.out,HQ.out⟩⟩
theorem someT_any (p:Rdr (List UInt8)) (he:Eats p) (w:World) (lo g b:Nat) (F:List Fd) (φ:Bool) (t:UInt8) (h:RdS w lo g b F φ) (hrd:ReadsT p w b):
  Calls Tryz.prog 129 #[.pointer (some ⟨g,0,none⟩),c8 t,(.func (.func 130) #[] #[])] w (RdPost (repL elT) (Rd.someR t p) w (own2 g b) lo g b F φ):=by
 have hl:=listT_any p he w lo g b F φ t h hrd
 clear h hrd
 go_enter Tryz.func129,Tryz.ntmps129
 go_wp2_with (go_at_call 152;fail)
 refine hl.mono ?_
 rintro e w1 hpost
 obtain⟨L,v,F',rfl,hrep,hr,hf,hq⟩:=hpost.out
 have hrep2:=hrep
 obtain⟨A,c,xs,rfl,hl2,_,_⟩:=hrep2
 have hfl:=zBi w1 lo g b F' _ hr
 have HRep:=hide hrep
 have HF:=hide hf
 have Hl2:=hide hl2
 clear hpost hl hrep hf hl2
 cases L with
 | nil=>
  have hfin:(φ||(Rd.someR t p F).isNone)=true/\(φ=false->∀x0 F0,Rd.someR t p F=some (x0,F0)->([]:List (List UInt8))=x0/\F'=F0):=by
   cases φ with
   | true=>exact⟨rfl,fun h=>by cases h⟩
   | false=>
    have hn:Rd.someR t p F=none:=by
     unfold Rd.someR
     cases hp:Rd.listR t p F with
     | none=>rfl
     | some q=>
      obtain⟨y,G⟩:=q
      obtain⟨rfl,rfl⟩:=hq rfl _ _ hp
      rfl
    rw[hn]
    exact⟨rfl,fun _ x0 F0 h0=>by cases h0⟩
  have Hfin:=hide hfin
  simp only[List.length_nil] at HRep ⊢
  clear hq hfin hr
  go_wp2_with (go_at_call 78;fail)
  refine hfl.mono ?_
  rintro e w2 ⟨rfl,hr2,hf2⟩
  clear hfl
  go_wp2
  go_ret
  exact⟨⟨[],_,F',rfl,⟨A,c,[],rfl,by simp,⟨by simp,.inl rfl⟩,rfl⟩,by rw[Hfin.out.1];exact hr2,HF.out.trans hf2,Hfin.out.2⟩⟩
 | cons y L=>
  have hfin:(φ||(Rd.someR t p F).isNone)=(φ||(Rd.listR t p F).isNone)/\(φ=false->∀x0 F0,Rd.someR t p F=some (x0,F0)->(y::L)=x0/\F'=F0):=by
   cases φ with
   | true=>exact⟨rfl,fun h=>by cases h⟩
   | false=>
    unfold Rd.someR
    cases hp:Rd.listR t p F with
    | none=>exact⟨rfl,fun _ x0 F0 h0=>by cases h0⟩
    | some q=>
     obtain⟨z,G⟩:=q
     obtain⟨rfl,rfl⟩:=hq rfl _ _ hp
     exact⟨rfl,fun _ x0 F0 h0=>by simpa using h0⟩
  rw[<-hfin.1] at hr
  have Hfin:=hide hfin.2
  have HR:=hide hr
  obtain⟨n,hn⟩:∃n,(y::L).length=n:=⟨_,rfl⟩
  have hn0:1<=n:=by rw[<-hn];simp
  have z:((n:Int)==0)=false:=beq_false_of_ne (by omega)
  rw[hn] at HRep ⊢
  have hn1:n<=20000:=by have:=Hl2.out;omega
  clear hq hfin hr hfl hn hn0
  go_wp2
  go_ret
  exact⟨⟨y::L,_,F',rfl,HRep.out,HR.out,HF.out,Hfin.out⟩⟩
structure Blk (w:World) (h:Nat) (us:List Value):Prop where
 lt:h<w.heap.size
 cells:∀(i:Nat) (u:Value),us[i]?=some u->w.cell? ⟨h,i,none⟩=some u
 fz:∀i,w.frozen? ⟨h,i,none⟩=false
section
variable {w w':World} {h:Nat} {us:List Value} {X:Nat->Prop}
theorem Blk.new (w:World) (us:List Value) (e:TypeId):Blk (w.alloc (.cells us.toArray e)) w.heap.size us:=
 ⟨by simp,fun i u hu=>by
  have hi:=(List.getElem?_eq_some_iff.1 hu).1
  rw[World.cell?_alloc_at (hn:=by simp)]
  simp[hu],fun i=>World.frozen?_alloc_at _ _ _ _ rfl⟩
theorem Blk.fr (t:Blk w h us) (hf:Fr X w w') (hx:¬X h):Blk w' h us:=
 ⟨Nat.lt_of_lt_of_le t.lt hf.size,fun i u hu=>(hf.cell (p:=⟨h,i,none⟩) t.lt hx).trans (t.cells i u hu),fun i=>(hf.frozen (p:=⟨h,i,none⟩) t.lt hx).trans (t.fz i)⟩
theorem Blk.set (t:Blk w h us) (i:Nat) (u:Value) (hi:i<us.length):Blk (w.setCell ⟨h,i,none⟩ u) h (us.set i u):=by
 refine⟨by simpa[World.setCell] using t.lt,fun j v hv=>?_,fun j=>by rw[World.frozen?_setCell];exact t.fz j⟩
 rw[List.getElem?_set] at hv
 split at hv
 ·rename_i hij
  subst hij
  try rw[if_pos hi] at hv
  cases hv
  exact World.cell?_setCell_same _ _ _ (t.cells i us[i] (List.getElem?_eq_getElem hi))
 ·rename_i hij
  rw[World.cell?_setCell_other _ _ _ _ (by simp;try omega)]
  exact t.cells j v hv
theorem Blk.there (t:Blk w h us) (o n:Nat) (hn:o+n<=us.length):w.there h o n:=fun j hj=>
 ⟨by rw[t.cells (o+j) us[o+j] (List.getElem?_eq_getElem (by omega))];rfl,t.fz _⟩
theorem Blk.range (t:Blk w h us):w.rangeAt h 0 us:=fun j u hu=>by rw[Nat.zero_add];exact t.cells j u hu
theorem Blk.part (t:Blk w h us) (o:Nat) (cs:List Value) (hc:∀(j:Nat) (u:Value),cs[j]?=some u->us[o+j]?=some u):w.rangeAt h o cs:=fun j u hu=>t.cells _ u (hc j u hu)
theorem setCells_size (h:Nat):∀(vs:List Value) (o:Nat) (w:World),(w.setCells h o vs).heap.size=w.heap.size
 | [],o,w=>rfl
 | v::r,o,w=>by rw[World.setCells,setCells_size h r];simp[World.setCell]
theorem setCells_out (h j:Nat):∀(vs:List Value) (o:Nat) (w:World),(j<o\/o+vs.length<=j)->(w.setCells h o vs).cell? ⟨h,j,none⟩=w.cell? ⟨h,j,none⟩
 | [],o,w,_=>rfl
 | v::r,o,w,hj=>by
  simp only[List.length_cons] at hj
  rw[World.setCells,setCells_out h j r (o+1) _ (by omega),World.cell?_setCell_other _ _ _ _ (by simp;try omega)]
theorem Blk.sets (t:Blk w h us) (o:Nat) (cs:List Value) (ho:o+cs.length<=us.length) (vs:List Value) (hv:vs=us.take o++cs++us.drop (o+cs.length)):Blk (w.setCells h o cs) h vs:=by
 subst hv
 refine⟨by rw[setCells_size];exact t.lt,fun j v hj=>?_,fun j=>by rw[World.frozen?_setCells];exact t.fz j⟩
 have hs:∀j,j<cs.length->(w.cell? ⟨h,o+j,none⟩).isSome=true:=fun j hj=>(t.there o cs.length ho j hj).1
 rw[List.append_assoc] at hj
 rcases Nat.lt_or_ge j o with h1 | h1
 ·rw [setCells_out h j cs o w (.inl h1)]
  rw[List.getElem?_append_left (by simp;omega),List.getElem?_take] at hj
  rw[if_pos h1] at hj
  exact t.cells j v hj
 ·rw [List.getElem?_append_right (by simp;omega)] at hj
  rw[show j-(us.take o).length=j-o by simp;omega] at hj
  rcases Nat.lt_or_ge (j-o) cs.length with h2 | h2
  ·rw [List.getElem?_append_left h2] at hj
   have:=World.cell?_setCells_in h cs o w hs (j-o) h2
   rw[show o+(j-o)=j by omega] at this
   rw[this,<-hj,List.getElem?_eq_getElem h2]
  ·rw [List.getElem?_append_right h2,List.getElem?_drop] at hj
   rw[setCells_out h j cs o w (.inr (by omega))]
   exact t.cells j v (by rw[<-hj];congr 1;omega)
theorem Fr.setCells (w:World) (h o:Nat) (cs:List Value) (hX:X h):Fr X w (w.setCells h o cs):=Fr.grown (zAx h cs o w) fun k hk=>by cases hk;exact hX
end
theorem storeB {ops:Array Oper} {rest:List Oper} {o:Oper} {a:Act} {Q:Exit->Act->World->Prop} (w:World) (hgd:o.guard=none) (ty:TypeId) (x y:Operand) (ho:o.op=.store ty x y)
  (h off:Nat) (us:List Value) (cs:List Value) (hx:a.eval x=.pointer (some ⟨h,off,none⟩)) (hy:a.eval y=.agg cs.toArray) (hB:Blk w h us) (hl:off+cs.length<=us.length) (hi:(Tryz.prog.info? ty).map (·.size)=some cs.length) (h1:∀u∈cs,u.oneCell'=true)
  (H:∀wz,wz=w.setCells h off cs->wpList Tryz.prog ops Q rest (a.put o.dst undef) wz):wpList Tryz.prog ops Q (o::rest) a w:=by
 refine wpList_store_mid hgd ty x y ho h off cs.toArray hx hy (by simpa using hB.there off cs.length hl) (by simpa using hi) (all_oneCell_toArray h1) ?_
 exact H _ (by simp)
theorem zA4 {α β γ:Type} {p:Rdr α} {q:Rdr β} {f:α->β->γ} {F F1 F2:List Fd} {φ:Bool} {x1:α} {x2:β} (h1:φ=false->∀x0 F0,p F=some (x0,F0)->x1=x0/\F1=F0)
  (h2:(φ||(p F).isNone)=false->∀x0 F0,q F1=some (x0,F0)->x2=x0/\F2=F0):
  ((φ||(p F).isNone)||(q F1).isNone)=(φ||(Rd.andR p q f F).isNone)/\(φ=false->∀x0 F0,Rd.andR p q f F=some (x0,F0)->f x1 x2=x0/\F2=F0):=by
 unfold Rd.andR
 cases φ with
 | true=>exact⟨rfl,fun h=>by cases h⟩
 | false=>
  cases hp:p F with
  | none=>exact⟨rfl,fun _ x0 F0 h0=>by cases h0⟩
  | some z=>
   obtain⟨y,G⟩:=z
   obtain⟨rfl,rfl⟩:=h1 rfl _ _ hp
   rw[hp] at h2
   cases hq:q F1 with
   | none=>exact⟨by simp[hq],fun _ x0 F0 h0=>by simp[hq] at h0⟩
   | some z=>
    obtain⟨y2,G2⟩:=z
    obtain⟨rfl,rfl⟩:=h2 rfl _ _ hq
    exact⟨by simp[hq],fun _ x0 F0 h0=>by simpa[hq] using h0⟩
structure StE {α:Type} (E:Elem α) (ab lo2:Nat) (x:α) (W:World):Prop where
 out:∃cs,E.rep W (fun k=>lo2<=k/\k<W.heap.size) x cs/\Blk W ab cs
theorem StE.fr {α:Type} {E:Elem α} {ab lo2:Nat} {x:α} {W W':World} {X:Nat->Prop} (h:StE E ab lo2 x W) (hf:Fr X W W') (ha:¬X ab) (hx:∀k,lo2<=k->¬X k):StE E ab lo2 x W':=by
 obtain⟨cs,h1,h2⟩:=h.out
 exact⟨cs,E.move (fun p hp=>hf.cell hp.2 (hx _ hp.1)) (fun k hk=>⟨hk.1,Nat.lt_of_lt_of_le hk.2 hf.size⟩) h1,h2.fr hf ha⟩
theorem take_eats {t:UInt8} {F:List Fd} {c:List UInt8} {G:List Fd} (h:Rd.takeR t F=some (c,G)):G.length<F.length:=by
 cases F with
 | nil=>cases h
 | cons f r=>
  obtain⟨t',x⟩:=f
  by_cases ht:t'=t
  ·rw [show Rd.takeR t ((t',x)::r)=some (x,r) by simp[Rd.takeR,ht]] at h
   cases h;simp
  ·rw [show Rd.takeR t ((t',x)::r)=none by simp[Rd.takeR,ht]] at h
   cases h
theorem tagged_eats (t:UInt8):Eats (Rd.taggedR t):=fun F x G h=>by
 unfold Rd.taggedR at h
 cases ht:Rd.takeR t F with
 | none=>rw[ht] at h;cases h
 | some q=>
  obtain⟨c,r⟩:=q
  rw[ht] at h
  simp only at h
  split at h
  ·cases h;exact take_eats ht
  ·cases h
theorem inner_eats {α:Type} (t:UInt8) (p:Rdr α):Eats (Rd.innerR t p):=fun F x G h=>by
 cases ht:Rd.takeR t F with
 | none=>rw[inner_no ht] at h;cases h
 | some q=>
  obtain⟨c,r⟩:=q
  rw[inner_of ht] at h
  cases hw:Rd.wholeR c p with
  | none=>rw[hw] at h;cases h
  | some y=>rw[hw] at h;cases h;exact take_eats ht
theorem text_eats:Eats Rd.textR:=tagged_eats 4
theorem readsT (w:World) (b:Nat):ReadsT Rd.textR w b:=fun W lo g F φ _ h=>zA3 W lo g b F φ h
def overA (cur:Array Value):Nat->List Value->Array Value
 | _,[]=>cur
 | o,v::r=>overA (cur.setIfInBounds o v) (o+1) r
theorem overA_size:∀(cs:List Value) (o:Nat) (cur:Array Value),(overA cur o cs).size=cur.size
 | [],o,cur=>rfl
 | v::r,o,cur=>by rw[overA,overA_size r];simp
theorem overA_get:∀(cs:List Value) (o:Nat) (cur:Array Value) (j:Nat),o+cs.length<=cur.size->(overA cur o cs)[j]?=if o<=j/\j<o+cs.length then cs[j-o]? else cur[j]?
 | [],o,cur,j,h=>by
  rw[overA,if_neg (by simp)]
 | v::r,o,cur,j,h=>by
  simp only[List.length_cons] at h ⊢
  rw[overA,overA_get r (o+1) _ j (by simp;omega)]
  by_cases h1:o+1<=j/\j<o+1+r.length
  ·rw [if_pos h1,if_pos (by omega),show j-o=(j-(o+1))+1 by omega,List.getElem?_cons_succ]
  ·rw [if_neg h1]
   by_cases h2:j=o
   ·subst h2
    rw[if_pos (by omega)]
    simp[Array.getElem?_setIfInBounds]
    omega
   ·rw [if_neg (by omega),Array.getElem?_setIfInBounds,if_neg (by omega)]
theorem setCells_heap (g:Nat):∀(cs:List Value) (o:Nat) (w:World) (cur:Array Value) (e:TypeId),w.heap[g]?=some (.cells cur e (0,0))->(w.setCells g o cs).heap[g]?=some (.cells (overA cur o cs) e (0,0))
 | [],o,w,cur,e,h=>h
 | v::r,o,w,cur,e,h=>by
  rw[World.setCells,overA]
  refine setCells_heap g r (o+1) _ _ e ?_
  simp only[World.setCell,Array.getElem?_modify,if_pos]
  rw[h]
  rfl
theorem own_sets {W:World} {lo n size g cap:Nat} {e:TypeId} {xs:List Value} (h:W.ownsRow lo e size (.slice (some ⟨g,0,none⟩) n cap) n xs) (o:Nat) (cs:List Value) (ho:o+cs.length<=n*size):
  (W.setCells g o cs).ownsRow lo e size (.slice (some ⟨g,0,none⟩) n cap) n (xs.take o++cs++xs.drop (o+cs.length)):=by
 have hl:=h.1
 refine⟨by simp;omega,?_⟩
 rcases h.2 with⟨h0,_⟩ | ⟨g',cap',cur,hv,hg,hh,hn,hm,hs,ht⟩
 ·cases h0
 ·cases hv
  right
  refine⟨g,cap,overA cur o cs,rfl,hg,setCells_heap g cs o W cur e hh,hn,hm,by rw[overA_size];exact hs,?_⟩
  have hcap:n*size<=cap*size:=Nat.mul_le_mul_right _ hn
  apply List.ext_getElem?
  intro j
  rw[List.getElem?_take]
  have hx:∀j,xs[j]?=if j<n*size then cur[j]? else none:=fun j=>by
   rw[<-ht,List.getElem?_take];split<;>simp
  by_cases hj:j<n*size
  ·rw [if_pos hj]
   simp only[Array.getElem?_toList]
   rw[overA_get cs o cur j (by omega)]
   rw[List.append_assoc]
   by_cases h1:j<o
   ·rw [if_neg (by omega),List.getElem?_append_left (by simp;omega),List.getElem?_take,if_pos h1,hx,if_pos hj]
   ·rw [List.getElem?_append_right (by simp;omega),show j-(xs.take o).length=j-o by simp;omega]
    by_cases h2:j<o+cs.length
    ·rw [if_pos (by omega),List.getElem?_append_left (by omega)]
    ·rw [if_neg (by omega),List.getElem?_append_right (by omega),List.getElem?_drop,hx,if_pos (by omega)]
     congr 1;omega
  ·rw [if_neg hj,List.getElem?_eq_none]
   simp;omega
structure OwnL {α:Type} (E:Elem α) (ety:TypeId) (lo:Nat) (L:List α) (v:Value) (W:World):Prop where
 row:∃xs,W.ownsRow lo ety E.size v L.length xs/\rowIn E W (fun k=>lo<=k/\k<W.heap.size/\v.ownBlock≠some k) L xs
 len:L.length<=20000
section
variable {α:Type} {E:Elem α} {ety:TypeId} {lo:Nat} {L:List α} {v:Value} {W W':World} {X:Nat->Prop}
theorem OwnL.nil (W:World) (lo:Nat):OwnL E ety lo [] (.slice none 0 0) W:=⟨⟨[],World.ownsRow_nil _ _ _ _,rfl⟩,by simp⟩
theorem OwnL.fr (h:OwnL E ety lo L v W) (hf:Fr X W W') (hx:∀k,lo<=k->¬X k):OwnL E ety lo L v W':=by
 obtain⟨xs,h1,h2⟩:=h.row
 exact⟨⟨xs,own_fr h1 hf hx,h2.move (fun p hp=>hf.cell hp.2.1 (hx _ hp.1)) fun k hk=>⟨hk.1,Nat.lt_of_lt_of_le hk.2.1 hf.size,hk.2.2⟩⟩,h.len⟩
theorem OwnL.form (h:OwnL E ety lo L v W):∃A c,v=.slice A L.length c:=by
 obtain⟨xs,h1,_⟩:=h.row
 obtain⟨A,c,e,_⟩:=own_form h1
 exact⟨A,c,e⟩
theorem OwnL.rep (h:OwnL E ety lo L v W):repL E W (fun k=>lo<=k/\k<W.heap.size) L v:=by
 obtain⟨xs,h1,h2⟩:=h.row
 obtain⟨A,c,rfl,_,hP⟩:=zA5 h1
 exact⟨A,c,xs,rfl,h.len,hP,h2.move (fun _ _=>rfl) fun k hk=>⟨hk.1,hk.2.1⟩⟩
theorem OwnL.snoc {w2 w4:World} {v':Value} {xs cs:List Value} {x:α} {o:Obj} (hlo:lo<=w2.heap.size)
  (hown:w2.ownsRow lo ety E.size v L.length xs) (hrow:rowIn E w2 (fun k=>lo<=k/\k<w2.heap.size/\v.ownBlock≠some k) L xs) (hx:E.rep w2 (fun k=>lo<=k/\k<w2.heap.size/\v.ownBlock≠some k) x cs)
  (h4:w4.ownsRow lo ety E.size v' (L.length+1) (xs++cs)) (hg:(w2.alloc o).grownBy w4 v.ownBlock) (ht:v'.ownBlock=v.ownBlock\/v'.ownBlock=some (w2.alloc o).heap.size) (hn:L.length+1<=20000):
  OwnL E ety lo (L++[x]) v' w4:=by
 have hf1:Fr (fun k=>v.ownBlock=some k) w2 w4:=(Fr.alloc _ w2 o).trans (Fr.grown hg fun k hk=>hk)
 have key:∀k,(lo<=k/\k<w2.heap.size/\v.ownBlock≠some k)->v'.ownBlock≠some k:=fun k hk e=>by
  rcases ht with h | h
  ·rw [h] at e;exact hk.2.2 e
  ·rw [h] at e;cases e;have:=hk.2.1;simp at this;omega
 exact⟨⟨xs++cs,by simpa using h4,rowIn.move (fun p hp=>hf1.cell hp.2.1 hp.2.2) (fun k hk=>⟨hk.1,Nat.lt_of_lt_of_le hk.2.1 hf1.size,key k hk⟩) (hrow.snoc hx)⟩,by simpa using hn⟩
end
def elF:Elem FT where
 size:=7
 rep:=fun w P x cs=>FInP w P x cs
 len:=fun h=>h.len
 one:=fun h=>h.one
 move:=fun hc hP h=>h.move hc hP
theorem rowF_fs {w:World} {P:Nat->Prop}:∀{L:List FT} {xs:List Value},rowIn elF w P L xs->FsInP w P L xs
 | [],xs,h=>h
 | p::r,xs,h=>by
  simp only[FsInP]
  exact⟨h.1,rowF_fs h.2⟩
theorem infoA8:(Tryz.prog.info? 59).map (fun i=>(i.zero,i.size,i.bytes))=some (some (.agg #[.string .empty,.slice none 0 0]),2,40):=by kernel_rfl
def ReadsA (p:Rdr Atr) (w:World) (b:Nat):Prop:=∀(W:World) (lo g:Nat) (F:List Fd) (φ:Bool),w.heap.size<=W.heap.size->RdS W lo g b F φ->Calls Tryz.prog 157 #[.pointer (some ⟨g,0,none⟩)] W (RdPost (repE elA) p W (own2 g b) lo g b F φ)
theorem lclA_any (p:Rdr Atr) (he:Eats p) (w:World) (b bl bx lo2:Nat) (hbl:bl<lo2) (hlo:lo2<=w.heap.size) (hbb:b≠bl) (hbx:bx<lo2) (hxb:bx≠b) (hxl:bx≠bl)
  (hc:w.cell? ⟨bl,0,none⟩=some (.slice none 0 0)) (hfz:∀i,w.frozen? ⟨bl,i,none⟩=false) (hf:w.cell? ⟨bx,0,none⟩=some (.func (.func 157) #[] #[])) (hrd:ReadsA p w b):
  ClosedBy (LstS elA 59 bl lo2) (fun k=>k=bl) (Rd.manyR p) w b 176 #[.pointer (some ⟨bl,0,none⟩),.pointer (some ⟨bx,0,none⟩)]:=by
 intro W lo g F φ hfr hwl hr
 have hgl:=hr.log
 have hlt:=hr.lt
 have hsm:=hr.small.1
 have hcW:W.cell? ⟨bl,0,none⟩=some (.slice none 0 0):=(hfr.cell (p:=⟨bl,0,none⟩) (by simp only;omega) (fun e=>hbb e.symm)).trans hc
 have hfW:W.cell? ⟨bx,0,none⟩=some (.func (.func 157) #[] #[]):=(hfr.cell (p:=⟨bx,0,none⟩) (by simp only;omega) hxb).trans hf
 have hzW:∀i,W.frozen? ⟨bl,i,none⟩=false:=fun i=>(hfr.frozen (p:=⟨bl,i,none⟩) (by simp only;omega) (fun e=>hbb e.symm)).trans (hfz i)
 have hL0:LstS elA 59 bl W.heap.size [] W:=⟨by omega,by omega,hzW,⟨_,[],hcW,World.ownsRow_nil _ _ _ _,rfl⟩,by simp⟩
 have Hrd:=hide (fun (W':World) (h:W.heap.size<=W'.heap.size) (lo' g':Nat) (F1:List Fd) (φ1:Bool) (h1:RdS W' lo' g' b F1 φ1)=>hrd W' lo' g' F1 φ1 (Nat.le_trans hfr.size h) h1)
 have Hn:=hide (And.intro hbl (And.intro hlo (And.intro hbb (And.intro hbx (And.intro hxb (And.intro hxl (And.intro hwl (And.intro hgl (And.intro hlt hr.blo)))))))))
 have HM:=hide (Many.start p F φ hsm)
 have HL:=hide hL0
 have HR:=hide hr
 have HfW:=hide hfW
 have He:=hide he
 try simp only[List.append_toArray,List.cons_append,List.nil_append]
 clear hfr hwl hr hgl hlt hsm hcW hfW hzW hL0 hrd hbl hlo hbb hbx hxb hxl hc hfz hf he
 go_enter Tryz.func176,Tryz.ntmps176
 go_wp2
 go_loopg [] (if φ then 0 else F.length+1) (fun k wx=>∃(F':List Fd) (φ':Bool) (acc:List Atr),Hid (RdS wx lo g b F' φ')/\Hid (LstS elA 59 bl W.heap.size acc wx)/\Hid (Fr (own3 (fun k=>k=bl) g b) W wx)/\Hid (wx.cell? ⟨bx,0,none⟩=some (.func (.func 157) #[] #[]))/\Hid (Many p F φ F' φ' acc)/\Hid ((if φ' then 0 else F'.length+1)<=k))
 case atStart=>exact⟨F,φ,[],HR,HL,hide (Fr.refl _ _),HfW,HM,hide (Nat.le_refl _)⟩
 case round=>
  obtain⟨F',φ',acc,hR,hL,hF,hX,hM,hK⟩:=hrel
  clear HR HL HfW HM
  have hmore:=zA6 wr lo g b F' φ' hR.out
  cases hmb:moreB F' φ' with
  | false=>
   rw[hmb] at hmore
   have hd:=hM.out.done hmb
   have Hd:=hide hd
   clear hmb hd
   go_wp2_with (go_at_call 79;fail)
   refine hmore.mono ?_
   rintro e w1 ⟨rfl,hw1⟩
   obtain rfl:=hw1
   clear hmore
   go_wp2
   go_returns
   refine⟨⟨acc,F',rfl,hL.out.low (by have:=Hn.out;omega) Hn.out.1,?_,hF.out,Hd.out.2⟩⟩
   rw[<-Hd.out.1]
   exact hR.out
  | true=>
   rw[hmb] at hmore
   obtain⟨rfl,hne⟩:φ'=false/\F'≠[]:=by
    cases φ' with
    | true=>cases hmb
    | false=>exact⟨rfl,fun e=>by subst e;cases hmb⟩
   have Hne:=hide hne
   obtain⟨v,xs,hv,hown,hrow⟩:=hL.out.row
   obtain⟨Av,cv,rfl,_,_⟩:=own_form hown
   have Hv:=hide hv
   have Hown:=hide hown
   have Hrow:=hide hrow
   clear hmb hne hv hown hrow
   go_wp2_with (go_at_call 79;fail)
   refine hmore.mono ?_
   rintro e w1 ⟨rfl,hw1⟩
   obtain rfl:=hw1
   clear hmore
   go_wp2_with fail
   refine zAp (wayCC ⟨bl,0,none⟩ (.slice Av acc.length cv) ⟨bx,0,none⟩ (.func (.func 157) #[] #[])) [6] (by kernel_rfl) ?_
   have Hd:=hide (hR.out.fr (Fr.drew (fun _=>False) w1) id id (fun _ _ _=>id))
   have Hfd:=hide (hF.out.trans (Fr.drew _ w1))
   replace Hv:Hid (w1.drew.cell? ⟨bl,0,none⟩=some (.slice Av acc.length cv)):=hide Hv.out
   replace Hown:=hide (own_fr Hown.out (Fr.drew (fun _=>False) w1) (fun _ _=>id))
   replace Hrow:=hide (Hrow.out.move (w:=w1) (w':=w1.drew) (P':=fun k=>W.heap.size<=k/\k<w1.drew.heap.size/\(Value.slice Av acc.length cv).ownBlock≠some k) (fun _ _=>rfl) (fun _ h=>h))
   replace hL:=hide (hL.out.fr (X:=fun _=>False) (Fr.drew _ w1) id (fun _ _=>id))
   replace hX:Hid (w1.drew.cell? ⟨bx,0,none⟩=some (.func (.func 157) #[] #[])):=hide hX.out
   clear hR hF
   generalize w1.drew=wd at *
   refine zAm 0 (some 6) (v:=?vl0) rfl rfl (by kernel_rfl) rfl (by kernel_rfl) (by rfl) (fun Wq hW=>?yl0) ?_
   case yl0=>
    have vW:Wq.cell? ⟨bl,0,none⟩=some (.slice Av acc.length cv):=hW.1 Hv.out
    go_simp<;>with_reducible rfl
   try simp only[pU]
   refine zAm 1 (some 7) (v:=?vl1) rfl rfl (by kernel_rfl) rfl (by kernel_rfl) (by rfl) (fun Wq hW=>?yl1) ?_
   case yl1=>
    have xW:Wq.cell? ⟨bx,0,none⟩=some (.func (.func 157) #[] #[]):=hW.2 hX.out
    go_simp<;>with_reducible rfl
   try simp only[pU]
   refine zAe 2 (some 8) rfl rfl (by kernel_rfl) rfl (by rfl) (fun Wq=>by go_simp<;>with_reducible rfl) ?_
   try simp only[pU]
   refine zAf 3 rfl (by kernel_rfl) (fun K hK2=>?_)
   go_simp
   refine (Hrd.out wd (Hfd.out.size) lo g F' false Hd.out).mono ?_
   rintro e w2 hpost
   obtain⟨x,v9,F2,rfl,hrep,hr2,hf2,hq⟩:=hpost.out
   clear hpost
   rw[Bool.false_or] at hr2
   obtain⟨cs,rfl,hE⟩:=hrep
   have hE2:=hE
   unfold elA at hE2
   simp only at hE2
   obtain⟨Ax,cx,rfl,_,_⟩:=hE2
   have hs2:=hf2.size
   have hlW:=(Hfd.out.size)
   have hv2:w2.cell? ⟨bl,0,none⟩=some (.slice Av acc.length cv):=(hf2.cell (p:=⟨bl,0,none⟩) (by simp only;have:=Hn.out;omega) (by rintro (h | h)<;>(simp only at h;have:=Hn.out;omega))).trans Hv.out
   have hx2:w2.cell? ⟨bx,0,none⟩=some (.func (.func 157) #[] #[]):=(hf2.cell (p:=⟨bx,0,none⟩) (by simp only;have:=Hn.out;omega) (by rintro (h | h)<;>(simp only at h;have:=Hn.out;omega))).trans hX.out
   have hz2:∀i,w2.frozen? ⟨bl,i,none⟩=false:=fun i=>(hf2.frozen (p:=⟨bl,i,none⟩) (by simp only;have:=Hn.out;omega) (by rintro (h | h)<;>(simp only at h;have:=Hn.out;omega))).trans (hL.out.fz i)
   have hown2:=own_fr Hown.out hf2 (fun k hk h=>by rcases h with h | h<;>(have:=Hn.out;omega))
   have hrow2:=Hrow.out.move (P':=fun k=>W.heap.size<=k/\k<w2.heap.size/\(Value.slice Av acc.length cv).ownBlock≠some k) (fun q hq=>hf2.cell hq.2.1 (by rintro (h | h)<;>(have:=Hn.out;have:=hq.1;omega))) (fun k hk=>⟨hk.1,Nat.lt_of_lt_of_le hk.2.1 hs2,hk.2.2⟩)
   have hE':=elA.move (w:=w2) (w':=w2) (P':=fun k=>W.heap.size<=k/\k<w2.heap.size/\(Value.slice Av acc.length cv).ownBlock≠some k) (fun _ _=>rfl) (fun k hk=>⟨by omega,hk.2,zBu Hown.out k hk.1⟩) hE
   have Hr2:=hide hr2
   have Hf2:=hide hf2
   have Hq:=hide hq
   have Hz2:=hide hz2
   have Hown2:=hide hown2
   have Hrow2:=hide hrow2
   have HE:=hide hE'
   have Hs2:=hide (And.intro hs2 hlW)
   have Hv2:=hide hv2
   have Hx2:=hide hx2
   refine hK2.out _ _ (fun _=>⟨fun _=>Hv2.out,fun _=>Hx2.out⟩) ?_
   clear hK2 K hr2 hf2 hq hz2 hown2 hrow2 hE hE' hs2 hlW hv2 hx2
   try simp only[pU]
   refine zAf 4 rfl (by kernel_rfl) (fun K hK2=>?_)
   go_simp
   have hfa:Fr (fun _=>False) w2 (w2.alloc (.cells #[.string (txt x.1),.slice Ax x.2.length cx] 59)):=Fr.alloc _ _ _
   refine hK2.out _ _ (fun _=>⟨fun h=>(hfa.cell (p:=⟨bl,0,none⟩) (by simp only;have:=Hn.out;have:=Hs2.out;omega) id).trans h,fun h=>(hfa.cell (p:=⟨bx,0,none⟩) (by simp only;have:=Hn.out;have:=Hs2.out;omega) id).trans h⟩) ?_
   clear hK2 K hfa
   have hlit:=World.ownsRow_lit (e:=59) (size:=2) w2 #[.string (txt x.1),.slice Ax x.2.length cx] 1 (Nat.le_refl _) (by unfold maxLen;omega) rfl
   have hown3:=own_fr Hown2.out (Fr.alloc (fun _=>False) w2 (.cells #[.string (txt x.1),.slice Ax x.2.length cx] 59)) (fun _ _=>id)
   try simp only[pU]
   refine zAf 5 rfl (by kernel_rfl) (fun K hK2=>?_)
   have h1c:∀u∈([.string (txt x.1),.slice Ax x.2.length cx]:List Value),u.oneCell'=true:=elA.one HE.out
   refine stepA _ 26 59 _ 2 40 Tryz.underlying26 infoA8 rfl (by omega) (by omega) (some 11) rfl rfl (.tmp 6) (.tmp 10) rfl W.heap.size _ acc.length xs rfl hown3 _ _ 1 1 [.string (txt x.1),.slice Ax x.2.length cx] rfl (Has.own hlit) h1c (by have:=hM.out.all;omega) (by have:=Hs2.out;simp;omega) ?_
   intro v4 w4 h4 hb4 hg4 ht4
   have hn4:acc.length+1<=20000:=by have:=hM.out.all;omega
   have hls:=LstS.snoc (E:=elA) (ety:=59) (bl:=bl) (lo:=W.heap.size) (L:=acc) (x:=x) (by have:=Hn.out;omega) (by have:=Hs2.out;omega) Hz2.out Hv2.out Hown2.out Hrow2.out HE.out h4 hg4 ht4 hn4
   have hfg:Fr (fun k=>(Value.slice Av acc.length cv).ownBlock=some k) w2 w4:=(Fr.alloc _ w2 (.cells #[.string (txt x.1),.slice Ax x.2.length cx] 59)).trans (Fr.grown hg4 fun k hk=>hk)
   have hro:∀k,(Value.slice Av acc.length cv).ownBlock=some k->W.heap.size<=k:=fun k hk=>(Hown2.out.lt k hk).1
   have hfs:Fr (fun k=>k=bl\/W.heap.size<=k) w2 (w4.setCell ⟨bl,0,none⟩ v4):=(hfg.mono fun k _ hk=>.inr (hro k hk)).trans ((Fr.setCell (X:=fun k=>k=bl) _ _ _ rfl).mono fun k _ hk=>.inl hk)
   have hr4:=Hr2.out.fr hfs (by rintro (h | h)<;>(have:=Hn.out;omega)) (by rintro (h | h)<;>(have:=Hn.out;have:=Hr2.out.back;omega)) (fun k h1 h2=>by rintro (h | h)<;>(have:=Hn.out;omega))
   have hx4:(w4.setCell ⟨bl,0,none⟩ v4).cell? ⟨bx,0,none⟩=some (.func (.func 157) #[] #[]):=(hfs.cell (p:=⟨bx,0,none⟩) (by simp only;have:=Hn.out;have:=Hs2.out;omega) (by rintro (h | h)<;>(simp only at h;have:=Hn.out;omega))).trans Hx2.out
   have hF4:Fr (own3 (fun k=>k=bl) g b) W (w4.setCell ⟨bl,0,none⟩ v4):=(Hfd.out.trans (Hf2.out.mono (Y:=own3 (fun k=>k=bl) g b) fun k _ h=>by rcases h with h | h;exact .inl h;exact .inr (.inl h))).trans' hfs fun k hk h=>by rcases h with h | h;exact .inr (.inr h);omega
   have hst:=hM.out.step (x:=x) (G:=F2) He.out Hne.out (fun x0 F0 h0=>Hq.out rfl x0 F0 h0)
   have Hls:=hide hls
   have Hr4:=hide hr4
   have Hx4:=hide hx4
   have HF4:=hide hF4
   have Hst:=hide hst
   have hc4:w4.cell? ⟨bl,0,none⟩=some (.slice Av acc.length cv):=(hfg.cell (p:=⟨bl,0,none⟩) (by simp only;have:=Hn.out;have:=Hs2.out;omega) (fun e=>by have:=hro bl e;have:=Hn.out;omega)).trans Hv2.out
   have hz4:∀i,w4.frozen? ⟨bl,i,none⟩=false:=fun i=>(hfg.frozen (p:=⟨bl,i,none⟩) (by simp only;have:=Hn.out;have:=Hs2.out;omega) (fun e=>by have:=hro bl e;have:=Hn.out;omega)).trans (Hz2.out i)
   have hx4':w4.cell? ⟨bx,0,none⟩=some (.func (.func 157) #[] #[]):=(hfg.cell (p:=⟨bx,0,none⟩) (by simp only;have:=Hn.out;have:=Hs2.out;omega) (fun e=>by have:=hro bx e;have:=Hn.out;omega)).trans Hx2.out
   obtain⟨A4,c4,rfl,_,_⟩:=own_form h4
   refine hK2.out _ _ (fun _=>⟨fun _=>hc4,fun _=>hx4'⟩) ?_
   clear hK2 K h4 hb4 hg4 ht4 hls hfg hro hfs hr4 hx4 hF4 hst h1c hown3 hlit hx4' hn4
   try simp only[pU]
   refine zAf 6 rfl (by kernel_rfl) (fun K hK2=>?_)
   go_simp
   refine hK2.out _ _ (fun h=>absurd (by decide) h) ?_
   clear hK2 K
   try simp only[pU]
   refine zAj (by kernel_rfl) ?_ _
   go_wp2
   go_roundg (if (p F').isNone then 0 else F2.length+1)
   case measure=>have h1:=Hst.out.2;have h2:=hK.out;simp only[Bool.false_eq_true,if_false] at h2;omega
   case rel=>exact⟨F2,(p F').isNone,acc++[x],Hr4,Hls,HF4,Hx4,hide Hst.out.1,hide (Nat.le_refl _)⟩
theorem listA_any (p:Rdr Atr) (he:Eats p) (w:World) (lo g b:Nat) (F:List Fd) (φ:Bool) (t:UInt8) (h:RdS w lo g b F φ) (hrd:ReadsA p w b):
  Calls Tryz.prog 156 #[.pointer (some ⟨g,0,none⟩),c8 t,(.func (.func 157) #[] #[])] w (RdPost (repL elA) (Rd.listR t p) w (own2 g b) lo g b F φ):=by
 have hgl:=h.log
 have hlt:=h.lt
 have hbk:=h.back
 have hblo:=h.blo
 have hfa:Fr (fun _=>False) w (w.alloc (.cells #[(.func (.func 157) #[] #[])] 181)):=Fr.alloc _ _ _
 have hcx:(w.alloc (.cells #[(.func (.func 157) #[] #[])] 181)).cell? ⟨w.heap.size,0,none⟩=some (.func (.func 157) #[] #[]):=by rw[World.cell?_alloc_at (hn:=by simp)];rfl
 obtain⟨w1,hw1⟩:∃w1,w.alloc (.cells #[(.func (.func 157) #[] #[])] 181)=w1:=⟨_,rfl⟩
 have hs1:w1.heap.size=w.heap.size+1:=by rw[<-hw1];simp
 rw[hw1] at hfa hcx
 have hfb:Fr (fun _=>False) w1 (w1.alloc (.cells #[.slice none 0 0] 26)):=Fr.alloc _ _ _
 have hcl:(w1.alloc (.cells #[.slice none 0 0] 26)).cell? ⟨w1.heap.size,0,none⟩=some (.slice none 0 0):=by rw[World.cell?_alloc_at (hn:=by simp)];rfl
 have hzl:∀i,(w1.alloc (.cells #[.slice none 0 0] 26)).frozen? ⟨w1.heap.size,i,none⟩=false:=fun i=>World.frozen?_alloc_at _ _ _ _ rfl
 obtain⟨w2,hw2⟩:∃w2,w1.alloc (.cells #[.slice none 0 0] 26)=w2:=⟨_,rfl⟩
 have hs2:w2.heap.size=w.heap.size+2:=by rw[<-hw2];simp[hs1]
 rw[hw2] at hfb hcl hzl
 rw[hs1] at hcl hzl
 have hcx2:=(hfb.cell (p:=⟨w.heap.size,0,none⟩) (by simp only;omega) id).trans hcx
 have hf2:=hfa.trans hfb
 have hr2:=h.fr hf2 id id (fun _ _ _=>id)
 obtain⟨bx,hbx⟩:∃bx,w.heap.size=bx:=⟨_,rfl⟩
 obtain⟨bl,hbl⟩:∃bl,w.heap.size+1=bl:=⟨_,rfl⟩
 rw[hbx] at hcx2
 rw[hbl] at hcl hzl
 have hC:∀W,Fr (own2 g b) w2 W->ClosedBy (LstS elA 59 bl (bl+1)) (fun k=>k=bl) (Rd.manyR p) W b 176 #[.pointer (some ⟨bl,0,none⟩),.pointer (some ⟨bx,0,none⟩)]:=fun W hW=>
  lclA_any p he W b bl bx (bl+1) (by omega) (by have:=hW.size;omega) (by omega) (by omega) (by omega) (by omega)
   ((hW.cell (p:=⟨bl,0,none⟩) (by simp only;omega) (by rintro (q | q)<;>(simp only at q;omega))).trans hcl) (fun i=>(hW.frozen (p:=⟨bl,i,none⟩) (by simp only;omega) (by rintro (q | q)<;>(simp only at q;omega))).trans (hzl i))
   ((hW.cell (p:=⟨bx,0,none⟩) (by simp only;omega) (by rintro (q | q)<;>(simp only at q;omega))).trans hcx2) (fun W' lo' g' F1 φ1 q1 q2=>hrd W' lo' g' F1 φ1 (by have:=hW.size;omega) q2)
 have hin:=zBk (LstS elA 59 bl (bl+1)) (fun k=>k=bl) (Rd.manyR p) w2 lo g b F φ t 176 #[.pointer (some ⟨bl,0,none⟩),.pointer (some ⟨bx,0,none⟩)] (fun args w=>by go_simp) hr2 hC
  (fun x W W' q1 q2=>q1.fr q2 (by omega) (fun k hk=>by omega)) (fun k hk=>by subst hk;exact⟨by omega,by omega,by omega⟩)
 have Hin:=hide hin
 have Hw1:=hide hw1
 have Hw2:=hide hw2
 have Hbb:=hide (And.intro hbx hbl)
 have Hf2:=hide hf2
 have Hs:=hide (And.intro hs1 hs2)
 clear hin hC hr2 hf2 hcx2 hs2 hs1 hzl hcl hfb hcx hfa h hrd he hw1 hw2 hbx hbl hgl hlt hbk hblo
 go_enter Tryz.func156,Tryz.ntmps156
 go_upto_region 2 with fail
 rw[Hw1.out,Hw2.out]
 try rw[Hs.out.1]
 rw[Hbb.out.2,Hbb.out.1]
 go_wp2_with (go_at_call 28;fail)
 refine Hin.out.mono ?_
 rintro e w3 hpost
 obtain⟨L,F',rfl,hl,hr3,hf3,hq⟩:=hpost.out
 obtain⟨v,xs,hv,hown,hrow⟩:=hl.row
 have hl2:=hl.len
 obtain⟨A,c,rfl,hLc,hHP⟩:=zA5 hown
 have HR:=hide hr3
 have HQ:=hide hq
 have HF:Hid (Fr (own2 g b) w w3):=hide ((Hf2.out.mono (Y:=own2 g b) fun _ _ q=>q.elim).trans' hf3 fun k hk q=>by rcases q with q | q | q;exact .inl q;exact .inr q;(have:=Hbb.out;omega))
 have HRep:Hid (repL elA w3 (fun k=>w.heap.size<=k/\k<w3.heap.size) L (.slice A L.length c)):=hide ⟨A,c,xs,rfl,hl2,hHP.move (fun _ _=>rfl) (fun k hk=>⟨by have:=Hbb.out;omega,hk.2⟩),hrow.move (fun _ _=>rfl) (fun k hk=>⟨by have:=Hbb.out;omega,hk.2.1⟩)⟩
 clear hpost Hin hq hr3 hf3 hl hown hrow hHP hLc Hf2 Hs Hw1 Hw2
 go_wp2
 go_ret
 exact⟨⟨L,_,F',rfl,HRep.out,HR.out,HF.out,HQ.out⟩⟩
theorem zBm {w:World} {P:Nat->Prop}:∀{L:List (List UInt8)} {xs:List Value},rowIn elT w P L xs->xs=strs L
 | [],xs,h=>h
 | p::r,xs,h=>by
  have h1:=h.1
  have h2:=zBm h.2
  simp only[elT] at h1 h2
  cases xs with
  | nil=>cases h1
  | cons x xs=>
   simp only[List.take_succ_cons,List.take_zero,List.cons.injEq,and_true] at h1
   simp only[List.drop_succ_cons,List.drop_zero] at h2
   rw[h1,h2];rfl
namespace Rd
def attrB:Rdr Atr:=andR textR (listR 0x31 textR) Prod.mk
end Rd
theorem attr_eats:Eats Rd.attrR:=inner_eats 48 Rd.attrB
theorem attrCl (w:World) (b ab lo2:Nat) (u0 u1:Value) (hab:ab<lo2) (hlo:lo2<=w.heap.size) (hba:b≠ab) (hbl:b<lo2) (hB:Blk w ab [u0,u1]):
  ClosedBy (StE elA ab lo2) (fun k=>k=ab) Rd.attrB w b 177 #[.pointer (some ⟨ab,0,none⟩)]:=by
 intro W lo g F φ hfr hwl hr
 have hgl:=hr.log
 have hlt:=hr.lt
 have hbo:=hr.blo
 have HB0:=hide (hB.fr hfr (fun e=>hba e.symm))
 have Hn:=hide (And.intro hab (And.intro hlo (And.intro hba (And.intro hbl (And.intro hwl (And.intro hgl (And.intro hlt (And.intro hbo hfr.size))))))))
 have HR0:=hide hr
 have HF0:Hid (Fr (own3 (fun k=>k=ab) g b) W W):=hide (Fr.refl _ _)
 try simp only[List.append_toArray,List.cons_append,List.nil_append]
 clear hfr hwl hr hgl hlt hbo hB hab hlo hba hbl
 go_enter Tryz.func177,Tryz.ntmps177
 go_wp2_with (go_at_call 130;fail)
 refine (zA3 W lo g b F φ HR0.out).mono ?_
 rintro e w1 hpost1
 obtain⟨x1,v1,F1,rfl,hrep1,hr1,hf1,hq1⟩:=hpost1.out
 clear hpost1
 unfold repT at hrep1
 subst hrep1
 have hB1:=HB0.out.fr hf1 (by rintro (q | q)<;>(have:=Hn.out;omega))
 have hs1:=hf1.size
 have HB1:=hide (hB1.set 0 (.string (txt x1)) (by simp))
 have HR1:=hide (hr1.fr (Fr.setCell (X:=fun k=>k=ab) w1 ⟨ab,0,none⟩ (.string (txt x1)) rfl) (by have:=Hn.out;omega) (by have:=Hn.out;omega) (fun k h1 h2=>by have:=Hn.out;omega))
 have HF1:=hide ((HF0.out.trans (hf1.mono (Y:=own3 (fun k=>k=ab) g b) fun k _ q=>by rcases q with q | q;exact .inl q;exact .inr (.inl q))).trans (Fr.setCell (X:=own3 (fun k=>k=ab) g b) w1 ⟨ab,0,none⟩ (.string (txt x1)) (.inr (.inr rfl))))
 have HQ1:=hide hq1
 have k1:=hB1.cells 0 _ rfl
 have z1:=hB1.fz
 have Hs1:=hide hs1
 clear hr1 hf1 hq1 hB1 hs1
 go_wp2_with (go_at_call 152;fail)
 refine (listT_any Rd.textR text_eats (w1.setCell ⟨ab,0,none⟩ (.string (txt x1))) lo g b F1 _ 49 HR1.out (readsT _ b)).mono ?_
 rintro e w2 hpost2
 obtain⟨x2,v2,F2,rfl,hrep2,hr2,hf2,hq2⟩:=hpost2.out
 clear hpost2
 obtain⟨A2,c2,xs2,rfl,hl2,hP2,hrow2⟩:=hrep2
 have hB2:=HB1.out.fr hf2 (by rintro (q | q)<;>(have:=Hn.out;omega))
 have hs2:=hf2.size
 have HB2:=hide (hB2.set 1 (.slice A2 x2.length c2) (by simp))
 have HR2:=hide (hr2.fr (Fr.setCell (X:=fun k=>k=ab) w2 ⟨ab,1,none⟩ (.slice A2 x2.length c2) rfl) (by have:=Hn.out;omega) (by have:=Hn.out;omega) (fun k h1 h2=>by have:=Hn.out;omega))
 have HF2:=hide ((HF1.out.trans (hf2.mono (Y:=own3 (fun k=>k=ab) g b) fun k _ q=>by rcases q with q | q;exact .inl q;exact .inr (.inl q))).trans (Fr.setCell (X:=own3 (fun k=>k=ab) g b) w2 ⟨ab,1,none⟩ (.slice A2 x2.length c2) (.inr (.inr rfl))))
 have HQ2:=hide hq2
 have k2:=hB2.cells 1 _ rfl
 have z2:=hB2.fz
 have Hs2:=hide hs2
 have HL2:=hide (And.intro hl2 (And.intro hP2 hrow2))
 clear hl2 hP2 hrow2
 clear hr2 hf2 hq2 hB2 hs2 k1 z1
 go_wp2
 go_returns
 have hap:=zA4 (p:=Rd.textR) (q:=Rd.listR 0x31 Rd.textR) (f:=Prod.mk) HQ1.out HQ2.out
 have hr2:=HR2.out
 rw[hap.1] at hr2
 have hsw:=Hs1.out
 have hsw2:=Hs2.out
 have hf2s:=Fr.setCell (X:=fun k=>k=ab) w2 ⟨ab,1,none⟩ (.slice A2 x2.length c2) rfl
 have hP2:HasP (w2.setCell ⟨ab,1,none⟩ (.slice A2 x2.length c2)) (fun k=>lo2<=k/\k<(w2.setCell ⟨ab,1,none⟩ (.slice A2 x2.length c2)).heap.size) 1 A2 x2.length (strs x2):=by
  have hxs:xs2=strs x2:=zBm HL2.out.2.2
  rw[<-hxs]
  refine HL2.out.2.1.fr hf2s (fun k hk=>?_)
  have hz1:(w1.setCell ⟨ab,0,none⟩ (.string (txt x1))).heap.size=w1.heap.size:=by simp[World.setCell]
  have hz2:=hf2s.size
  have:=Hn.out
  rw[hz1] at hk
  exact⟨hk.2,by omega,by omega,by omega⟩
 exact⟨⟨(x1,x2),F2,rfl,⟨[.string (txt x1),.slice A2 x2.length c2],⟨A2,c2,rfl,HL2.out.1,hP2⟩,HB2.out⟩,hr2,HF2.out,hap.2⟩⟩
theorem attr_any (w:World) (lo g b:Nat) (F:List Fd) (φ:Bool) (h:RdS w lo g b F φ):
  Calls Tryz.prog 157 #[.pointer (some ⟨g,0,none⟩)] w (RdPost (repE elA) Rd.attrR w (own2 g b) lo g b F φ):=by
 have hgl:=h.log
 have hlt:=h.lt
 have hbk:=h.back
 have hblo:=h.blo
 have hfa:Fr (fun _=>False) w (w.alloc (.cells #[.string ⟨#[]⟩,.slice none 0 0] 59)):=Fr.alloc _ _ _
 have hB1:Blk (w.alloc (.cells #[.string ⟨#[]⟩,.slice none 0 0] 59)) w.heap.size [.string ⟨#[]⟩,.slice none 0 0]:=Blk.new w [.string ⟨#[]⟩,.slice none 0 0] 59
 obtain⟨w1,hw1⟩:∃w1,w.alloc (.cells #[.string ⟨#[]⟩,.slice none 0 0] 59)=w1:=⟨_,rfl⟩
 have hs1:w1.heap.size=w.heap.size+1:=by rw[<-hw1];simp
 rw[hw1] at hfa hB1
 have hfb:Fr (fun _=>False) w1 (w1.alloc (.cells #[.string ⟨#[]⟩,.slice none 0 0] 59)):=Fr.alloc _ _ _
 have hB2:Blk (w1.alloc (.cells #[.string ⟨#[]⟩,.slice none 0 0] 59)) w1.heap.size [.string ⟨#[]⟩,.slice none 0 0]:=Blk.new w1 [.string ⟨#[]⟩,.slice none 0 0] 59
 obtain⟨w2,hw2⟩:∃w2,w1.alloc (.cells #[.string ⟨#[]⟩,.slice none 0 0] 59)=w2:=⟨_,rfl⟩
 have hs2:w2.heap.size=w.heap.size+2:=by rw[<-hw2];simp[hs1]
 rw[hw2] at hfb hB2
 rw[hs1] at hB2
 have hB1':=hB1.fr hfb id
 have hf2:=hfa.trans hfb
 have hr2:=h.fr hf2 id id (fun _ _ _=>id)
 obtain⟨rb,hrb⟩:∃rb,w.heap.size=rb:=⟨_,rfl⟩
 obtain⟨ab,hab⟩:∃ab,w.heap.size+1=ab:=⟨_,rfl⟩
 rw[hrb] at hB1'
 rw[hab] at hB2
 have hC:∀W,Fr (own2 g b) w2 W->ClosedBy (StE elA ab (ab+1)) (fun k=>k=ab) Rd.attrB W b 177 #[.pointer (some ⟨ab,0,none⟩)]:=fun W hW=>
  attrCl W b ab (ab+1) _ _ (by omega) (by have:=hW.size;omega) (by omega) (by omega) (hB2.fr hW (by rintro (q | q)<;>omega))
 have hin:=zBk (StE elA ab (ab+1)) (fun k=>k=ab) Rd.attrB w2 lo g b F φ 48 177 #[.pointer (some ⟨ab,0,none⟩)] (fun args w=>by go_simp) hr2 hC
  (fun x W W' q1 q2=>q1.fr q2 (by omega) (fun k hk=>by omega)) (fun k hk=>by subst hk;exact⟨by omega,by omega,by omega⟩)
 rw[show c8 48=.int .u8 48 from rfl] at hin
 have Hin:=hide hin
 have Hw1:=hide hw1
 have Hw2:=hide hw2
 have Hn:=hide (And.intro hrb (And.intro hab (And.intro hs1 hs2)))
 have Hf2:=hide hf2
 have HBr:=hide hB1'
 have Hlt:=hide (And.intro hlt hbk)
 clear hin hC hr2 hf2 hB1' hB2 hB1 hs2 hs1 hfb hfa h hw1 hw2 hrb hab hgl hlt hbk hblo
 go_enter Tryz.func157,Tryz.ntmps157
 go_upto_region 2 with fail
 rw[Hw1.out,Hw2.out]
 try rw[Hn.out.2.2.1]
 rw[Hn.out.2.1,Hn.out.1]
 go_wp2_with (go_at_call 28;fail)
 refine Hin.out.mono ?_
 rintro e w3 hpost
 obtain⟨x,F',rfl,hst,hr3,hf3,hq⟩:=hpost.out
 obtain⟨cs,hrep,hB3⟩:=hst.out
 obtain⟨Ax,cx,rfl,e2,e3⟩:=hrep
 have hBr3:=HBr.out.fr hf3 (by rintro (q | q | q)<;>(have:=Hn.out;have:=Hlt.out;omega))
 have h1c:∀u∈([.string (txt x.1),.slice Ax x.2.length cx]:List Value),u.oneCell'=true:=elA.one (w:=w3) (P:=fun k=>ab+1<=k/\k<w3.heap.size) (x:=x) ⟨Ax,cx,rfl,e2,e3⟩
 have HRg:=hide (hB3.range)
 have HBr3:=hide hBr3
 have HR:=hide hr3
 have HQ:=hide hq
 have H1:=hide h1c
 have HF:Hid (Fr (own2 g b) w w3):=hide ((Hf2.out.mono (Y:=own2 g b) fun _ _ q=>q.elim).trans' hf3 fun k hk q=>by rcases q with q | q | q;exact .inl q;exact .inr q;(have:=Hn.out;omega))
 have HE:=hide (And.intro e2 e3)
 clear hpost Hin hq hr3 hf3 hst hB3 hBr3 h1c Hf2 Hw1 Hw2 HBr e2 e3
 go_wp2_with (first | (refine wpList_load_mid rfl 59 (.tmp 3) rfl ab 0 rfl [.string (txt x.1),.slice Ax x.2.length cx] _ HRg.out Tryz.underlying59 rfl (by kernel_rfl) ?_) | (refine storeB w3 rfl 59 (.tmp 2) (.tmp 7) rfl rb 0 _ [.string (txt x.1),.slice Ax x.2.length cx] rfl rfl HBr3.out (by simp) (by kernel_rfl) H1.out ?_))
 have hBz:=HBr3.out.sets 0 [.string (txt x.1),.slice Ax x.2.length cx] (by simp) [.string (txt x.1),.slice Ax x.2.length cx] (by simp)
 have hfz:Fr (fun k=>k=rb) w3 (w3.setCells rb 0 [.string (txt x.1),.slice Ax x.2.length cx]):=Fr.setCells w3 rb 0 [.string (txt x.1),.slice Ax x.2.length cx] rfl
 have HBz:=hide hBz
 have Hfz:=hide hfz
 clear hBz hfz HRg HBr3
 generalize w3.setCells rb 0 [.string (txt x.1),.slice Ax x.2.length cx]=wz at *
 refine bodyPost_ret (v:=.agg #[.string (txt x.1),.slice Ax x.2.length cx]) ?_ rfl ?_
 ·exact zAy rfl _ wz rb [.string (txt x.1),.slice Ax x.2.length cx] _ rfl HBz.out.range Tryz.underlying59 rfl (by kernel_rfl)
 ·have hsz:=Hfz.out.size
  refine⟨⟨x,_,F',rfl,⟨[.string (txt x.1),.slice Ax x.2.length cx],rfl,?_⟩,HR.out.fr Hfz.out (by have:=Hn.out;have:=Hlt.out;omega) (by have:=Hn.out;have:=Hlt.out;omega) (fun k h1 h2=>by have:=Hn.out;have:=Hlt.out;omega),HF.out.trans' Hfz.out fun k hk q=>by have:=Hn.out;omega,HQ.out⟩⟩
  exact⟨Ax,cx,rfl,HE.out.1,HE.out.2.fr Hfz.out (fun k hk=>⟨hk.2,by have:=Hn.out;omega,by have:=Hn.out;omega,by omega⟩)⟩
theorem readsA (w:World) (b:Nat):ReadsA Rd.attrR w b:=fun W lo g F φ _ h=>attr_any W lo g b F φ h
end Go.Proofs.YtcpjmgfloimfhaaGreat
