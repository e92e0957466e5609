/- What reads the fields that stand in an operation. By an AI agent. -/
import Derived.Test.YtcpjmgfloimfhaaGreatM11
set_option linter.unusedSimpArgs false
set_option linter.unusedVariables false
set_option maxRecDepth 100000
set_option maxHeartbeats 32000000
namespace Go.Proofs.YtcpjmgfloimfhaaGreat
open Go.RowKit
theorem content_search (w:World) (lo g b:Nat) (F:List Fd) (φ:Bool) (mb:Nat) (m:MT) (h:RdS w lo g b F φ) (hm:MtIn0 mb m w) (hmb:mb≠g/\mb≠b/\(mb<lo\/g<mb)) (hk:m.kind=3):
  Calls Tryz.prog 132 #[.pointer (some ⟨g,0,none⟩),.pointer (some ⟨mb,0,none⟩)] w (InPost (MtIn mb w.heap.size) (Rd.searchR m) w (own3 (fun k=>k=mb) g b) lo g b F φ):=by
 have hgl:=h.log
 have hlt:=h.lt
 have hbo:=h.blo
 have hml:=hm.blk.lt
 have hfa:Fr (fun _=>False) w (w.alloc (.cells #[.pointer (some ⟨mb,0,none⟩)] 127)):=Fr.alloc _ _ _
 have hcd:(w.alloc (.cells #[.pointer (some ⟨mb,0,none⟩)] 127)).cell? ⟨w.heap.size,0,none⟩=some (.pointer (some ⟨mb,0,none⟩)):=by rw[World.cell?_alloc_at (hn:=by simp)];rfl
 have hk1:(w.alloc (.cells #[.pointer (some ⟨mb,0,none⟩)] 127)).cell? ⟨mb,1,none⟩=some (.int .i64 3):=by rw[<-hk];exact (hm.fr hfa id).blk.cells 1 _ rfl
 have HM0:=hide (hm.fr hfa id)
 have HR0:=hide (h.fr hfa id id (fun _ _ _=>id))
 have HF0:=hide (hfa.mono (Y:=own3 (fun k=>k=mb) g b) fun _ _ q=>q.elim)
 have hs:(w.alloc (.cells #[.pointer (some ⟨mb,0,none⟩)] 127)).heap.size=w.heap.size+1:=by simp
 obtain⟨w1,hw1⟩:∃w1,w.alloc (.cells #[.pointer (some ⟨mb,0,none⟩)] 127)=w1:=⟨_,rfl⟩
 rw[hw1] at hcd hk1 HM0 HR0 HF0 hs
 obtain⟨pb,hpb⟩:∃pb,w.heap.size=pb:=⟨_,rfl⟩
 rw[hpb] at hcd hs hlt hml
 have Hn:=hide (And.intro hml (And.intro hmb (And.intro hgl (And.intro hlt (And.intro hbo (And.intro hs hpb))))))
 have Hw:=hide hw1
 clear h hm hk hgl hlt hbo hml hfa hw1 hpb hs hmb
 go_enter Tryz.func132,Tryz.ntmps132
 go_upto_region 1 with fail
 rw[Hw.out,Hn.out.2.2.2.2.2.2]
 clear Hw
 have hlo:pb<=w1.heap.size:=by have:=Hn.out;omega
 have hse:=search_any w1 lo g b F φ mb pb m HR0.out (HM0.out.mt pb) (by have:=Hn.out;omega) (by have:=Hn.out;omega) hlo (by have:=Hn.out;exact this.2.1)
 have Hse:=hide hse
 clear hse hlo
 go_wp2_with (go_at_call 153;fail)
 refine Hse.out.mono ?_
 rintro e w2 hpost
 obtain⟨m2,F2,rfl,hst,hr2,hf2,hq⟩:=hpost.out
 clear hpost Hse
 have HS:=hide hst
 have HR2:=hide hr2
 have HF2:=hide (HF0.out.trans hf2)
 have HQ:=hide hq
 clear hst hr2 hf2 hq
 go_wp2
 go_returns
 exact⟨⟨m2,F2,rfl,by rw[Hn.out.2.2.2.2.2.2];exact HS.out,HR2.out,HF2.out,HQ.out⟩⟩
theorem content_modName (w:World) (lo g b:Nat) (F:List Fd) (φ:Bool) (mb:Nat) (m:MT) (h:RdS w lo g b F φ) (hm:MtIn0 mb m w) (hmb:mb≠g/\mb≠b/\(mb<lo\/g<mb)) (hk:m.kind=12):
  Calls Tryz.prog 132 #[.pointer (some ⟨g,0,none⟩),.pointer (some ⟨mb,0,none⟩)] w (InPost (MtIn mb w.heap.size) (Rd.modNameR m) w (own3 (fun k=>k=mb) g b) lo g b F φ):=by
 have hgl:=h.log
 have hlt:=h.lt
 have hbo:=h.blo
 have hml:=hm.blk.lt
 have hfa:Fr (fun _=>False) w (w.alloc (.cells #[.pointer (some ⟨mb,0,none⟩)] 127)):=Fr.alloc _ _ _
 have hcd:(w.alloc (.cells #[.pointer (some ⟨mb,0,none⟩)] 127)).cell? ⟨w.heap.size,0,none⟩=some (.pointer (some ⟨mb,0,none⟩)):=by rw[World.cell?_alloc_at (hn:=by simp)];rfl
 have hk1:(w.alloc (.cells #[.pointer (some ⟨mb,0,none⟩)] 127)).cell? ⟨mb,1,none⟩=some (.int .i64 12):=by rw[<-hk];exact (hm.fr hfa id).blk.cells 1 _ rfl
 have HM0:=hide (hm.fr hfa id)
 have HR0:=hide (h.fr hfa id id (fun _ _ _=>id))
 have HF0:=hide (hfa.mono (Y:=own3 (fun k=>k=mb) g b) fun _ _ q=>q.elim)
 have hs:(w.alloc (.cells #[.pointer (some ⟨mb,0,none⟩)] 127)).heap.size=w.heap.size+1:=by simp
 obtain⟨w1,hw1⟩:∃w1,w.alloc (.cells #[.pointer (some ⟨mb,0,none⟩)] 127)=w1:=⟨_,rfl⟩
 rw[hw1] at hcd hk1 HM0 HR0 HF0 hs
 obtain⟨pb,hpb⟩:∃pb,w.heap.size=pb:=⟨_,rfl⟩
 rw[hpb] at hcd hs hlt hml
 have Hn:=hide (And.intro hml (And.intro hmb (And.intro hgl (And.intro hlt (And.intro hbo (And.intro hs hpb))))))
 have Hw:=hide hw1
 clear h hm hk hgl hlt hbo hml hfa hw1 hpb hs hmb
 go_enter Tryz.func132,Tryz.ntmps132
 go_upto_region 1 with fail
 rw[Hw.out,Hn.out.2.2.2.2.2.2]
 clear Hw
 have hlo:pb<=w1.heap.size:=by have:=Hn.out;omega
 have hse:=modName_any w1 lo g b F φ mb pb m HR0.out (HM0.out.mt pb) (by have:=Hn.out;omega) (by have:=Hn.out;omega) hlo (by have:=Hn.out;exact this.2.1)
 have Hse:=hide hse
 clear hse hlo
 go_wp2_with (go_at_call 158;fail)
 refine Hse.out.mono ?_
 rintro e w2 hpost
 obtain⟨m2,F2,rfl,hst,hr2,hf2,hq⟩:=hpost.out
 clear hpost Hse
 have HS:=hide hst
 have HR2:=hide hr2
 have HF2:=hide (HF0.out.trans hf2)
 have HQ:=hide hq
 clear hst hr2 hf2 hq
 go_wp2
 go_returns
 exact⟨⟨m2,F2,rfl,by rw[Hn.out.2.2.2.2.2.2];exact HS.out,HR2.out,HF2.out,HQ.out⟩⟩
theorem zBd (w:World) (lo g b:Nat) (F:List Fd) (φ:Bool) (mb:Nat) (m:MT) (h:RdS w lo g b F φ) (hm:MtIn0 mb m w) (hmb:mb≠g/\mb≠b/\(mb<lo\/g<mb)) (k0:Int) (hkk:k0=1\/k0=5\/k0=7\/k0=9\/k0=11\/k0=13\/k0=15\/k0=24) (hk:m.kind=k0):
  Calls Tryz.prog 132 #[.pointer (some ⟨g,0,none⟩),.pointer (some ⟨mb,0,none⟩)] w (InPost (MtIn mb w.heap.size) (Rd.resultR m) w (own3 (fun k=>k=mb) g b) lo g b F φ):=by
 rcases hkk with rfl | rfl | rfl | rfl | rfl | rfl | rfl | rfl
 all_goals
  have hgl:=h.log
  have hlt:=h.lt
  have hbo:=h.blo
  have hml:=hm.blk.lt
  have hfa:Fr (fun _=>False) w (w.alloc (.cells #[.pointer (some ⟨mb,0,none⟩)] 127)):=Fr.alloc _ _ _
  have hcd:(w.alloc (.cells #[.pointer (some ⟨mb,0,none⟩)] 127)).cell? ⟨w.heap.size,0,none⟩=some (.pointer (some ⟨mb,0,none⟩)):=by rw[World.cell?_alloc_at (hn:=by simp)];rfl
  have hk1:(w.alloc (.cells #[.pointer (some ⟨mb,0,none⟩)] 127)).cell? ⟨mb,1,none⟩=some (.int .i64 m.kind):=(hm.fr hfa id).blk.cells 1 _ rfl
  rw[hk] at hk1
  have HM0:=hide (hm.fr hfa id)
  have HR0:=hide (h.fr hfa id id (fun _ _ _=>id))
  have HF0:=hide (hfa.mono (Y:=own3 (fun k=>k=mb) g b) fun _ _ q=>q.elim)
  have hs:(w.alloc (.cells #[.pointer (some ⟨mb,0,none⟩)] 127)).heap.size=w.heap.size+1:=by simp
  obtain⟨w1,hw1⟩:∃w1,w.alloc (.cells #[.pointer (some ⟨mb,0,none⟩)] 127)=w1:=⟨_,rfl⟩
  rw[hw1] at hcd hk1 HM0 HR0 HF0 hs
  obtain⟨pb,hpb⟩:∃pb,w.heap.size=pb:=⟨_,rfl⟩
  rw[hpb] at hcd hs hlt hml
  have Hn:=hide (And.intro hml (And.intro hmb (And.intro hgl (And.intro hlt (And.intro hbo (And.intro hs hpb))))))
  have Hw:=hide hw1
  clear h hm hk hgl hlt hbo hml hfa hw1 hpb hs hmb
  go_enter Tryz.func132,Tryz.ntmps132
  go_upto_region 1 with fail
  rw[Hw.out,Hn.out.2.2.2.2.2.2]
  clear Hw
  have hlo:pb<=w1.heap.size:=by have:=Hn.out;omega
  have hse:=result_any w1 lo g b F φ mb pb m HR0.out (HM0.out.mt pb) (by have:=Hn.out;omega) (by have:=Hn.out;omega) hlo (by have:=Hn.out;exact this.2.1)
  have Hse:=hide hse
  clear hse hlo
  go_wp2_with (go_at_call 160;fail)
  refine Hse.out.mono ?_
  rintro e w2 hpost
  obtain⟨m2,F2,rfl,hst,hr2,hf2,hq⟩:=hpost.out
  clear hpost Hse
  have HS:=hide hst
  have HR2:=hide hr2
  have HF2:=hide (HF0.out.trans hf2)
  have HQ:=hide hq
  clear hst hr2 hf2 hq
  go_wp2
  go_returns
  exact⟨⟨m2,F2,rfl,by rw[Hn.out.2.2.2.2.2.2];exact HS.out,HR2.out,HF2.out,HQ.out⟩⟩
theorem content_unbind (w:World) (lo g b:Nat) (F:List Fd) (φ:Bool) (mb:Nat) (m:MT) (h:RdS w lo g b F φ) (hm:MtIn0 mb m w) (hmb:mb≠g/\mb≠b/\(mb<lo\/g<mb)) (hk:m.kind=2):
  Calls Tryz.prog 132 #[.pointer (some ⟨g,0,none⟩),.pointer (some ⟨mb,0,none⟩)] w (InPost (MtIn mb w.heap.size) (Rd.doneR m) w (own3 (fun k=>k=mb) g b) lo g b F φ):=by
 have hgl:=h.log
 have hlt:=h.lt
 have hbo:=h.blo
 have hml:=hm.blk.lt
 have hfa:Fr (fun _=>False) w (w.alloc (.cells #[.pointer (some ⟨mb,0,none⟩)] 127)):=Fr.alloc _ _ _
 have hcd:(w.alloc (.cells #[.pointer (some ⟨mb,0,none⟩)] 127)).cell? ⟨w.heap.size,0,none⟩=some (.pointer (some ⟨mb,0,none⟩)):=by rw[World.cell?_alloc_at (hn:=by simp)];rfl
 have hk1:(w.alloc (.cells #[.pointer (some ⟨mb,0,none⟩)] 127)).cell? ⟨mb,1,none⟩=some (.int .i64 2):=by rw[<-hk];exact (hm.fr hfa id).blk.cells 1 _ rfl
 have HM0:=hide (hm.fr hfa id)
 have HR0:=hide (h.fr hfa id id (fun _ _ _=>id))
 have HF0:=hide (hfa.mono (Y:=own3 (fun k=>k=mb) g b) fun _ _ q=>q.elim)
 have hs:(w.alloc (.cells #[.pointer (some ⟨mb,0,none⟩)] 127)).heap.size=w.heap.size+1:=by simp
 obtain⟨w1,hw1⟩:∃w1,w.alloc (.cells #[.pointer (some ⟨mb,0,none⟩)] 127)=w1:=⟨_,rfl⟩
 rw[hw1] at hcd hk1 HM0 HR0 HF0 hs
 obtain⟨pb,hpb⟩:∃pb,w.heap.size=pb:=⟨_,rfl⟩
 rw[hpb] at hcd hs hlt hml
 have Hn:=hide (And.intro hml (And.intro hmb (And.intro hgl (And.intro hlt (And.intro hbo (And.intro hs hpb))))))
 have Hw:=hide hw1
 clear h hm hk hgl hlt hbo hml hfa hw1 hpb hs hmb
 go_enter Tryz.func132,Tryz.ntmps132
 go_upto_region 1 with fail
 rw[Hw.out,Hn.out.2.2.2.2.2.2]
 clear Hw
 go_wp2
 go_returns
 exact⟨⟨m,F,rfl,HM0.out.mt _,by show RdS _ lo g b F (φ||false);rw[Bool.or_false];exact HR0.out,HF0.out,fun _ x0 F0 h0=>by have:=Option.some.inj h0;cases this;exact⟨rfl,rfl⟩⟩⟩
namespace Rd
def bindR:MR:=thenR (thenR (updR (numR 2 127) fun m x=>{ m with ver:=x }) nameR) (updR (taggedR 128) fun m x=>{ m with pw:=x })
def modifyR:MR:=thenR nameR (updR (listR 48 changeR) fun m x=>{ m with chs:=x })
def addR:MR:=thenR nameR (updR (listR 48 attrR) fun m x=>{ m with lst:=x })
end Rd
theorem content_bind (w:World) (lo g b:Nat) (F:List Fd) (φ:Bool) (mb:Nat) (m:MT) (h:RdS w lo g b F φ) (hm:MtIn0 mb m w) (hmb:mb≠g/\mb≠b/\(mb<lo\/g<mb)) (hk:m.kind=0):
  Calls Tryz.prog 132 #[.pointer (some ⟨g,0,none⟩),.pointer (some ⟨mb,0,none⟩)] w (InPost (MtIn mb w.heap.size) (Rd.bindR m) w (own3 (fun k=>k=mb) g b) lo g b F φ):=by
 have hgl:=h.log
 have hlt:=h.lt
 have hbo:=h.blo
 have hml:=hm.blk.lt
 have hfa:Fr (fun _=>False) w (w.alloc (.cells #[.pointer (some ⟨mb,0,none⟩)] 127)):=Fr.alloc _ _ _
 have hcd:(w.alloc (.cells #[.pointer (some ⟨mb,0,none⟩)] 127)).cell? ⟨w.heap.size,0,none⟩=some (.pointer (some ⟨mb,0,none⟩)):=by rw[World.cell?_alloc_at (hn:=by simp)];rfl
 have hk1:(w.alloc (.cells #[.pointer (some ⟨mb,0,none⟩)] 127)).cell? ⟨mb,1,none⟩=some (.int .i64 0):=by rw[<-hk];exact (hm.fr hfa id).blk.cells 1 _ rfl
 have HM0:=hide (hm.fr hfa id)
 have HR0:=hide (h.fr hfa id id (fun _ _ _=>id))
 have HF0:=hide (hfa.mono (Y:=own3 (fun k=>k=mb) g b) fun _ _ q=>q.elim)
 have hs:(w.alloc (.cells #[.pointer (some ⟨mb,0,none⟩)] 127)).heap.size=w.heap.size+1:=by simp
 obtain⟨w1,hw1⟩:∃w1,w.alloc (.cells #[.pointer (some ⟨mb,0,none⟩)] 127)=w1:=⟨_,rfl⟩
 rw[hw1] at hcd hk1 HM0 HR0 HF0 hs
 obtain⟨pb,hpb⟩:∃pb,w.heap.size=pb:=⟨_,rfl⟩
 rw[hpb] at hcd hs hlt hml
 have Hn:=hide (And.intro hml (And.intro hmb (And.intro hgl (And.intro hlt (And.intro hbo (And.intro hs hpb))))))
 have Hw:=hide hw1
 clear h hm hk hgl hlt hbo hml hfa hw1 hpb hs hmb
 go_enter Tryz.func132,Tryz.ntmps132
 go_upto_region 1 with fail
 rw[Hw.out,Hn.out.2.2.2.2.2.2]
 clear Hw
 have HP0:=hide hcd
 have HZ0:Hid (pb<w1.heap.size):=hide (by have:=Hn.out;omega)
 go_wp2_with fail
 clear hcd hk1
 refine zAp (wayC ⟨pb,0,none⟩ (.pointer (some ⟨mb,0,none⟩))) [5] (by kernel_rfl) ?_
 have HRd1:=hide (HR0.out.fr (Fr.drew (fun _=>False) w1) id id (fun _ _ _=>id))
 have HMd1:=hide (HM0.out.fr (Fr.drew (fun _=>False) w1) id)
 have HFd1:=hide (HF0.out.trans (Fr.drew (own3 (fun k=>k=mb) g b) w1))
 have HPd1:Hid (World.cell? (w1).drew ⟨pb,0,none⟩=some (.pointer (some ⟨mb,0,none⟩))):=hide HP0.out
 have HZd1:Hid (pb<(w1).drew.heap.size):=hide HZ0.out
 generalize (w1).drew=W1 at *
 refine zAm 0 (some 14) (v:=?vc10) rfl rfl (by kernel_rfl) rfl (by kernel_rfl) (by rfl) (fun Wq hW=>?yc10) ?_
 case yc10=>
  have cW:Wq.cell? ⟨pb,0,none⟩=some (.pointer (some ⟨mb,0,none⟩)):=hW HPd1.out
  go_simp<;>with_reducible rfl
 try simp only[pU]
 refine zAe 1 (some 15) rfl rfl (by kernel_rfl) rfl (by rfl) (fun Wq=>by go_simp<;>with_reducible rfl) ?_
 try simp only[pU]
 refine zAf 2 rfl (by kernel_rfl) (fun K hK2=>?_)
 go_simp
 refine (zBr W1 lo g b F _ 2 127 HRd1.out).mono ?_
 rintro e w1 hpost
 obtain⟨x1,v1,F1,rfl,hrep,hr,hf,hq⟩:=hpost.out
 clear hpost
 unfold repI at hrep
 subst hrep
 have hP1:=(hf.cell (p:=⟨pb,0,none⟩) (by have:=HZd1.out;simp only;omega) (by rintro (q | q)<;>(simp only at q;have:=Hn.out;omega))).trans HPd1.out
 have hM1:=HMd1.out.fr hf (by rintro (q | q)<;>(have:=Hn.out;omega))
 have hg:=hr.fr (Fr.setCell (X:=fun k=>k=mb) w1 ⟨mb,4,none⟩ (.int .i64 x1) rfl) (by have:=Hn.out;omega) (by have:=Hn.out;omega) (fun k h1 h2=>by have:=Hn.out;omega)
 have hF1:=(HFd1.out.trans (hf.mono (Y:=own3 (fun k=>k=mb) g b) fun k _ q=>by rcases q with q | q;exact .inl q;exact .inr (.inl q))).trans (Fr.setCell (X:=own3 (fun k=>k=mb) g b) w1 ⟨mb,4,none⟩ (.int .i64 x1) (.inr (.inr rfl)))
 have hZs:=Fr.setCell (X:=fun k=>k=mb) w1 ⟨mb,4,none⟩ (.int .i64 x1) rfl
 have hZ:pb<(w1.setCell ⟨mb,4,none⟩ (.int .i64 x1)).heap.size:=by have:=HZd1.out;have:=hf.size;have:=hZs.size;omega
 have hPz:=(hZs.cell (p:=⟨pb,0,none⟩) (by have:=HZd1.out;have:=hf.size;simp only;omega) (fun q=>by simp only at q;have:=Hn.out;omega)).trans hP1
 have HM1b:=hide hM1.blk
 have HM1:=hide (hM1.put (m':=({ m with ver:=x1 }:MT)) 4 (by omega) (.int .i64 x1) ⟨rfl,rfl,rfl,rfl,rfl,rfl⟩ (fun _ _ _ _ _ _ _ _ _ _ _ _=>rfl))
 have HR1:=hide hg
 have HF1:=hide hF1
 have HP1:=hide hPz
 have HZ1:=hide hZ
 have HQ1:=hide hq
 refine hK2.out _ _ (fun _ _=>hP1) ?_
 clear hK2 K hr hf hq hP1 hM1 hg hF1 hPz hZ hZs
 try simp only[pU]
 refine zAe 3 (some 17) rfl rfl (by kernel_rfl) rfl (by rfl) (fun Wq=>by go_simp<;>with_reducible rfl) ?_
 try simp only[pU]
 refine zAe 4 (some 18) rfl rfl (by kernel_rfl) rfl (by rfl) (fun Wq=>by go_simp<;>with_reducible rfl) ?_
 try simp only[pU]
 refine zAf 5 rfl (by kernel_rfl) (fun K hK2=>?_)
 have kk:=HM1b.out.cells 4 _ rfl
 have zz:=HM1b.out.fz
 go_simp
 refine hK2.out _ _ (fun h=>absurd (by decide) h) ?_
 clear hK2 K kk zz
 try simp only[pU]
 refine zAj (by kernel_rfl) ?_ _
 go_wp2_with fail
 refine zAp (wayC ⟨pb,0,none⟩ (.pointer (some ⟨mb,0,none⟩))) [5] (by kernel_rfl) ?_
 have HRd2:=hide (HR1.out.fr (Fr.drew (fun _=>False) (w1.setCell ⟨mb,4,none⟩ (.int .i64 x1))) id id (fun _ _ _=>id))
 have HMd2:=hide (HM1.out.fr (Fr.drew (fun _=>False) (w1.setCell ⟨mb,4,none⟩ (.int .i64 x1))) id)
 have HFd2:=hide (HF1.out.trans (Fr.drew (own3 (fun k=>k=mb) g b) (w1.setCell ⟨mb,4,none⟩ (.int .i64 x1))))
 have HPd2:Hid (World.cell? ((w1.setCell ⟨mb,4,none⟩ (.int .i64 x1))).drew ⟨pb,0,none⟩=some (.pointer (some ⟨mb,0,none⟩))):=hide HP1.out
 have HZd2:Hid (pb<((w1.setCell ⟨mb,4,none⟩ (.int .i64 x1))).drew.heap.size):=hide HZ1.out
 generalize ((w1.setCell ⟨mb,4,none⟩ (.int .i64 x1))).drew=W2 at *
 refine zAm 0 (some 19) (v:=?vc20) rfl rfl (by kernel_rfl) rfl (by kernel_rfl) (by rfl) (fun Wq hW=>?yc20) ?_
 case yc20=>
  have cW:Wq.cell? ⟨pb,0,none⟩=some (.pointer (some ⟨mb,0,none⟩)):=hW HPd2.out
  go_simp<;>with_reducible rfl
 try simp only[pU]
 refine zAe 1 (some 20) rfl rfl (by kernel_rfl) rfl (by rfl) (fun Wq=>by go_simp<;>with_reducible rfl) ?_
 try simp only[pU]
 refine zAf 2 rfl (by kernel_rfl) (fun K hK2=>?_)
 go_simp
 refine (zA3 W2 lo g b F1 _ HRd2.out).mono ?_
 rintro e w2 hpost
 obtain⟨x2,v2,F2,rfl,hrep,hr,hf,hq⟩:=hpost.out
 clear hpost
 unfold repT at hrep
 subst hrep
 have hP2:=(hf.cell (p:=⟨pb,0,none⟩) (by have:=HZd2.out;simp only;omega) (by rintro (q | q)<;>(simp only at q;have:=Hn.out;omega))).trans HPd2.out
 have hM2:=HMd2.out.fr hf (by rintro (q | q)<;>(have:=Hn.out;omega))
 have hg:=hr.fr (Fr.setCell (X:=fun k=>k=mb) w2 ⟨mb,2,none⟩ (.string (txt x2)) rfl) (by have:=Hn.out;omega) (by have:=Hn.out;omega) (fun k h1 h2=>by have:=Hn.out;omega)
 have hF2:=(HFd2.out.trans (hf.mono (Y:=own3 (fun k=>k=mb) g b) fun k _ q=>by rcases q with q | q;exact .inl q;exact .inr (.inl q))).trans (Fr.setCell (X:=own3 (fun k=>k=mb) g b) w2 ⟨mb,2,none⟩ (.string (txt x2)) (.inr (.inr rfl)))
 have hZs:=Fr.setCell (X:=fun k=>k=mb) w2 ⟨mb,2,none⟩ (.string (txt x2)) rfl
 have hZ:pb<(w2.setCell ⟨mb,2,none⟩ (.string (txt x2))).heap.size:=by have:=HZd2.out;have:=hf.size;have:=hZs.size;omega
 have hPz:=(hZs.cell (p:=⟨pb,0,none⟩) (by have:=HZd2.out;have:=hf.size;simp only;omega) (fun q=>by simp only at q;have:=Hn.out;omega)).trans hP2
 have HM2b:=hide hM2.blk
 have HM2:=hide (hM2.put (m':=({ ({ m with ver:=x1 }:MT) with name:=x2 }:MT)) 2 (by omega) (.string (txt x2)) ⟨rfl,rfl,rfl,rfl,rfl,rfl⟩ (fun _ _ _ _ _ _ _ _ _ _ _ _=>rfl))
 have HR2:=hide hg
 have HF2:=hide hF2
 have HP2:=hide hPz
 have HZ2:=hide hZ
 have HQ2:=hide hq
 refine hK2.out _ _ (fun _ _=>hP2) ?_
 clear hK2 K hr hf hq hP2 hM2 hg hF2 hPz hZ hZs
 try simp only[pU]
 refine zAe 3 (some 22) rfl rfl (by kernel_rfl) rfl (by rfl) (fun Wq=>by go_simp<;>with_reducible rfl) ?_
 try simp only[pU]
 refine zAe 4 (some 23) rfl rfl (by kernel_rfl) rfl (by rfl) (fun Wq=>by go_simp<;>with_reducible rfl) ?_
 try simp only[pU]
 refine zAf 5 rfl (by kernel_rfl) (fun K hK2=>?_)
 have kk:=HM2b.out.cells 2 _ rfl
 have zz:=HM2b.out.fz
 go_simp
 refine hK2.out _ _ (fun h=>absurd (by decide) h) ?_
 clear hK2 K kk zz
 try simp only[pU]
 refine zAj (by kernel_rfl) ?_ _
 go_wp2_with fail
 refine zAp (wayC ⟨pb,0,none⟩ (.pointer (some ⟨mb,0,none⟩))) [5] (by kernel_rfl) ?_
 have HRd3:=hide (HR2.out.fr (Fr.drew (fun _=>False) (w2.setCell ⟨mb,2,none⟩ (.string (txt x2)))) id id (fun _ _ _=>id))
 have HMd3:=hide (HM2.out.fr (Fr.drew (fun _=>False) (w2.setCell ⟨mb,2,none⟩ (.string (txt x2)))) id)
 have HFd3:=hide (HF2.out.trans (Fr.drew (own3 (fun k=>k=mb) g b) (w2.setCell ⟨mb,2,none⟩ (.string (txt x2)))))
 have HPd3:Hid (World.cell? ((w2.setCell ⟨mb,2,none⟩ (.string (txt x2)))).drew ⟨pb,0,none⟩=some (.pointer (some ⟨mb,0,none⟩))):=hide HP2.out
 have HZd3:Hid (pb<((w2.setCell ⟨mb,2,none⟩ (.string (txt x2)))).drew.heap.size):=hide HZ2.out
 generalize ((w2.setCell ⟨mb,2,none⟩ (.string (txt x2)))).drew=W3 at *
 refine zAm 0 (some 24) (v:=?vc30) rfl rfl (by kernel_rfl) rfl (by kernel_rfl) (by rfl) (fun Wq hW=>?yc30) ?_
 case yc30=>
  have cW:Wq.cell? ⟨pb,0,none⟩=some (.pointer (some ⟨mb,0,none⟩)):=hW HPd3.out
  go_simp<;>with_reducible rfl
 try simp only[pU]
 refine zAe 1 (some 25) rfl rfl (by kernel_rfl) rfl (by rfl) (fun Wq=>by go_simp<;>with_reducible rfl) ?_
 try simp only[pU]
 refine zAf 2 rfl (by kernel_rfl) (fun K hK2=>?_)
 go_simp
 refine (tagged_any W3 lo g b F2 _ 128 HRd3.out).mono ?_
 rintro e w3 hpost
 obtain⟨x3,v3,F3,rfl,hrep,hr,hf,hq⟩:=hpost.out
 clear hpost
 unfold repT at hrep
 subst hrep
 have hP3:=(hf.cell (p:=⟨pb,0,none⟩) (by have:=HZd3.out;simp only;omega) (by rintro (q | q)<;>(simp only at q;have:=Hn.out;omega))).trans HPd3.out
 have hM3:=HMd3.out.fr hf (by rintro (q | q)<;>(have:=Hn.out;omega))
 have hg:=hr.fr (Fr.setCell (X:=fun k=>k=mb) w3 ⟨mb,3,none⟩ (.string (txt x3)) rfl) (by have:=Hn.out;omega) (by have:=Hn.out;omega) (fun k h1 h2=>by have:=Hn.out;omega)
 have hF3:=(HFd3.out.trans (hf.mono (Y:=own3 (fun k=>k=mb) g b) fun k _ q=>by rcases q with q | q;exact .inl q;exact .inr (.inl q))).trans (Fr.setCell (X:=own3 (fun k=>k=mb) g b) w3 ⟨mb,3,none⟩ (.string (txt x3)) (.inr (.inr rfl)))
 have hZs:=Fr.setCell (X:=fun k=>k=mb) w3 ⟨mb,3,none⟩ (.string (txt x3)) rfl
 have hZ:pb<(w3.setCell ⟨mb,3,none⟩ (.string (txt x3))).heap.size:=by have:=HZd3.out;have:=hf.size;have:=hZs.size;omega
 have hPz:=(hZs.cell (p:=⟨pb,0,none⟩) (by have:=HZd3.out;have:=hf.size;simp only;omega) (fun q=>by simp only at q;have:=Hn.out;omega)).trans hP3
 have HM3b:=hide hM3.blk
 have HM3:=hide (hM3.put (m':=({ ({ ({ m with ver:=x1 }:MT) with name:=x2 }:MT) with pw:=x3 }:MT)) 3 (by omega) (.string (txt x3)) ⟨rfl,rfl,rfl,rfl,rfl,rfl⟩ (fun _ _ _ _ _ _ _ _ _ _ _ _=>rfl))
 have HR3:=hide hg
 have HF3:=hide hF3
 have HP3:=hide hPz
 have HZ3:=hide hZ
 have HQ3:=hide hq
 refine hK2.out _ _ (fun _ _=>hP3) ?_
 clear hK2 K hr hf hq hP3 hM3 hg hF3 hPz hZ hZs
 try simp only[pU]
 refine zAe 3 (some 27) rfl rfl (by kernel_rfl) rfl (by rfl) (fun Wq=>by go_simp<;>with_reducible rfl) ?_
 try simp only[pU]
 refine zAe 4 (some 28) rfl rfl (by kernel_rfl) rfl (by rfl) (fun Wq=>by go_simp<;>with_reducible rfl) ?_
 try simp only[pU]
 refine zAf 5 rfl (by kernel_rfl) (fun K hK2=>?_)
 have kk:=HM3b.out.cells 3 _ rfl
 have zz:=HM3b.out.fz
 go_simp
 refine hK2.out _ _ (fun h=>absurd (by decide) h) ?_
 clear hK2 K kk zz
 try simp only[pU]
 refine zAj (by kernel_rfl) ?_ _
 go_wp2
 go_returns
 have q1:=HQ1.out
 have p1:=zAr (u:=fun m x=>{ m with ver:=x }) (m:=m) q1
 have t1:=p1
 have q2:=HQ2.out
 rw[p1.1] at q2
 have p2:=zAr (u:=fun m x=>{ m with name:=x }) (m:=({ m with ver:=x1 }:MT)) q2
 have t2:=zAu t1.2 p2.2
 have q3:=HQ3.out
 rw[p1.1,p2.1,t2.1] at q3
 have p3:=zAr (u:=fun m x=>{ m with pw:=x }) (m:=({ ({ m with ver:=x1 }:MT) with name:=x2 }:MT)) q3
 have t3:=zAu t2.2 p3.2
 have hr:=HR3.out
 rw[p1.1,p2.1,t2.1,p3.1,t3.1] at hr
 exact⟨⟨({ ({ ({ m with ver:=x1 }:MT) with name:=x2 }:MT) with pw:=x3 }:MT),F3,rfl,HM3.out.mt _,hr,HF3.out,t3.2⟩⟩
theorem content_modify (w:World) (lo g b:Nat) (F:List Fd) (φ:Bool) (mb:Nat) (m:MT) (h:RdS w lo g b F φ) (hm:MtIn0 mb m w) (hmb:mb≠g/\mb≠b/\(mb<lo\/g<mb)) (hk:m.kind=6):
  Calls Tryz.prog 132 #[.pointer (some ⟨g,0,none⟩),.pointer (some ⟨mb,0,none⟩)] w (InPost (MtIn mb w.heap.size) (Rd.modifyR m) w (own3 (fun k=>k=mb) g b) lo g b F φ):=by
 have hgl:=h.log
 have hlt:=h.lt
 have hbo:=h.blo
 have hml:=hm.blk.lt
 have hfa:Fr (fun _=>False) w (w.alloc (.cells #[.pointer (some ⟨mb,0,none⟩)] 127)):=Fr.alloc _ _ _
 have hcd:(w.alloc (.cells #[.pointer (some ⟨mb,0,none⟩)] 127)).cell? ⟨w.heap.size,0,none⟩=some (.pointer (some ⟨mb,0,none⟩)):=by rw[World.cell?_alloc_at (hn:=by simp)];rfl
 have hk1:(w.alloc (.cells #[.pointer (some ⟨mb,0,none⟩)] 127)).cell? ⟨mb,1,none⟩=some (.int .i64 6):=by rw[<-hk];exact (hm.fr hfa id).blk.cells 1 _ rfl
 have HM0:=hide (hm.fr hfa id)
 have HR0:=hide (h.fr hfa id id (fun _ _ _=>id))
 have HF0:=hide (hfa.mono (Y:=own3 (fun k=>k=mb) g b) fun _ _ q=>q.elim)
 have hs:(w.alloc (.cells #[.pointer (some ⟨mb,0,none⟩)] 127)).heap.size=w.heap.size+1:=by simp
 obtain⟨w1,hw1⟩:∃w1,w.alloc (.cells #[.pointer (some ⟨mb,0,none⟩)] 127)=w1:=⟨_,rfl⟩
 rw[hw1] at hcd hk1 HM0 HR0 HF0 hs
 obtain⟨pb,hpb⟩:∃pb,w.heap.size=pb:=⟨_,rfl⟩
 rw[hpb] at hcd hs hlt hml
 have Hn:=hide (And.intro hml (And.intro hmb (And.intro hgl (And.intro hlt (And.intro hbo (And.intro hs hpb))))))
 have Hw:=hide hw1
 clear h hm hk hgl hlt hbo hml hfa hw1 hpb hs hmb
 go_enter Tryz.func132,Tryz.ntmps132
 go_upto_region 1 with fail
 rw[Hw.out,Hn.out.2.2.2.2.2.2]
 clear Hw
 have HP0:=hide hcd
 have HZ0:Hid (pb<w1.heap.size):=hide (by have:=Hn.out;omega)
 go_wp2_with fail
 clear hcd hk1
 refine zAp (wayC ⟨pb,0,none⟩ (.pointer (some ⟨mb,0,none⟩))) [5] (by kernel_rfl) ?_
 have HRd1:=hide (HR0.out.fr (Fr.drew (fun _=>False) w1) id id (fun _ _ _=>id))
 have HMd1:=hide (HM0.out.fr (Fr.drew (fun _=>False) w1) id)
 have HFd1:=hide (HF0.out.trans (Fr.drew (own3 (fun k=>k=mb) g b) w1))
 have HPd1:Hid (World.cell? (w1).drew ⟨pb,0,none⟩=some (.pointer (some ⟨mb,0,none⟩))):=hide HP0.out
 have HZd1:Hid (pb<(w1).drew.heap.size):=hide HZ0.out
 generalize (w1).drew=W1 at *
 refine zAm 0 (some 36) (v:=?vc10) rfl rfl (by kernel_rfl) rfl (by kernel_rfl) (by rfl) (fun Wq hW=>?yc10) ?_
 case yc10=>
  have cW:Wq.cell? ⟨pb,0,none⟩=some (.pointer (some ⟨mb,0,none⟩)):=hW HPd1.out
  go_simp<;>with_reducible rfl
 try simp only[pU]
 refine zAe 1 (some 37) rfl rfl (by kernel_rfl) rfl (by rfl) (fun Wq=>by go_simp<;>with_reducible rfl) ?_
 try simp only[pU]
 refine zAf 2 rfl (by kernel_rfl) (fun K hK2=>?_)
 go_simp
 refine (zA3 W1 lo g b F _ HRd1.out).mono ?_
 rintro e w1 hpost
 obtain⟨x1,v1,F1,rfl,hrep,hr,hf,hq⟩:=hpost.out
 clear hpost
 unfold repT at hrep
 subst hrep
 have hP1:=(hf.cell (p:=⟨pb,0,none⟩) (by have:=HZd1.out;simp only;omega) (by rintro (q | q)<;>(simp only at q;have:=Hn.out;omega))).trans HPd1.out
 have hM1:=HMd1.out.fr hf (by rintro (q | q)<;>(have:=Hn.out;omega))
 have hg:=hr.fr (Fr.setCell (X:=fun k=>k=mb) w1 ⟨mb,2,none⟩ (.string (txt x1)) rfl) (by have:=Hn.out;omega) (by have:=Hn.out;omega) (fun k h1 h2=>by have:=Hn.out;omega)
 have hF1:=(HFd1.out.trans (hf.mono (Y:=own3 (fun k=>k=mb) g b) fun k _ q=>by rcases q with q | q;exact .inl q;exact .inr (.inl q))).trans (Fr.setCell (X:=own3 (fun k=>k=mb) g b) w1 ⟨mb,2,none⟩ (.string (txt x1)) (.inr (.inr rfl)))
 have hZs:=Fr.setCell (X:=fun k=>k=mb) w1 ⟨mb,2,none⟩ (.string (txt x1)) rfl
 have hZ:pb<(w1.setCell ⟨mb,2,none⟩ (.string (txt x1))).heap.size:=by have:=HZd1.out;have:=hf.size;have:=hZs.size;omega
 have hPz:=(hZs.cell (p:=⟨pb,0,none⟩) (by have:=HZd1.out;have:=hf.size;simp only;omega) (fun q=>by simp only at q;have:=Hn.out;omega)).trans hP1
 have HM1b:=hide hM1.blk
 have HM1:=hide (hM1.put (m':=({ m with name:=x1 }:MT)) 2 (by omega) (.string (txt x1)) ⟨rfl,rfl,rfl,rfl,rfl,rfl⟩ (fun _ _ _ _ _ _ _ _ _ _ _ _=>rfl))
 have HR1:=hide hg
 have HF1:=hide hF1
 have HP1:=hide hPz
 have HZ1:=hide hZ
 have HQ1:=hide hq
 refine hK2.out _ _ (fun _ _=>hP1) ?_
 clear hK2 K hr hf hq hP1 hM1 hg hF1 hPz hZ hZs
 try simp only[pU]
 refine zAe 3 (some 39) rfl rfl (by kernel_rfl) rfl (by rfl) (fun Wq=>by go_simp<;>with_reducible rfl) ?_
 try simp only[pU]
 refine zAe 4 (some 40) rfl rfl (by kernel_rfl) rfl (by rfl) (fun Wq=>by go_simp<;>with_reducible rfl) ?_
 try simp only[pU]
 refine zAf 5 rfl (by kernel_rfl) (fun K hK2=>?_)
 have kk:=HM1b.out.cells 2 _ rfl
 have zz:=HM1b.out.fz
 go_simp
 refine hK2.out _ _ (fun h=>absurd (by decide) h) ?_
 clear hK2 K kk zz
 try simp only[pU]
 refine zAj (by kernel_rfl) ?_ _
 go_wp2_with fail
 refine zAp (wayC ⟨pb,0,none⟩ (.pointer (some ⟨mb,0,none⟩))) [5] (by kernel_rfl) ?_
 have HRd2:=hide (HR1.out.fr (Fr.drew (fun _=>False) (w1.setCell ⟨mb,2,none⟩ (.string (txt x1)))) id id (fun _ _ _=>id))
 have HMd2:=hide (HM1.out.fr (Fr.drew (fun _=>False) (w1.setCell ⟨mb,2,none⟩ (.string (txt x1)))) id)
 have HFd2:=hide (HF1.out.trans (Fr.drew (own3 (fun k=>k=mb) g b) (w1.setCell ⟨mb,2,none⟩ (.string (txt x1)))))
 have HPd2:Hid (World.cell? ((w1.setCell ⟨mb,2,none⟩ (.string (txt x1)))).drew ⟨pb,0,none⟩=some (.pointer (some ⟨mb,0,none⟩))):=hide HP1.out
 have HZd2:Hid (pb<((w1.setCell ⟨mb,2,none⟩ (.string (txt x1)))).drew.heap.size):=hide HZ1.out
 generalize ((w1.setCell ⟨mb,2,none⟩ (.string (txt x1)))).drew=W2 at *
 refine zAm 0 (some 41) (v:=?vc20) rfl rfl (by kernel_rfl) rfl (by kernel_rfl) (by rfl) (fun Wq hW=>?yc20) ?_
 case yc20=>
  have cW:Wq.cell? ⟨pb,0,none⟩=some (.pointer (some ⟨mb,0,none⟩)):=hW HPd2.out
  go_simp<;>with_reducible rfl
 try simp only[pU]
 refine zAe 1 (some 42) rfl rfl (by kernel_rfl) rfl (by rfl) (fun Wq=>by go_simp<;>with_reducible rfl) ?_
 try simp only[pU]
 refine zAf 2 rfl (by kernel_rfl) (fun K hK2=>?_)
 go_simp
 refine (listH_any Rd.changeR change_eats W2 lo g b F1 _ 48 HRd2.out (readsH _ b)).mono ?_
 rintro e w2 hpost
 obtain⟨x2,v2,F2,rfl,hrep,hr,hf,hq⟩:=hpost.out
 clear hpost
 have hrepx:=hrep
 obtain⟨A2,c2,xs2,rfl,-⟩:=hrepx
 have hP2:=(hf.cell (p:=⟨pb,0,none⟩) (by have:=HZd2.out;simp only;omega) (by rintro (q | q)<;>(simp only at q;have:=Hn.out;omega))).trans HPd2.out
 have hM2:=HMd2.out.fr hf (by rintro (q | q)<;>(have:=Hn.out;omega))
 have hg:=hr.fr (Fr.setCell (X:=fun k=>k=mb) w2 ⟨mb,19,none⟩ (.slice A2 x2.length c2) rfl) (by have:=Hn.out;omega) (by have:=Hn.out;omega) (fun k h1 h2=>by have:=Hn.out;omega)
 have hF2:=(HFd2.out.trans (hf.mono (Y:=own3 (fun k=>k=mb) g b) fun k _ q=>by rcases q with q | q;exact .inl q;exact .inr (.inl q))).trans (Fr.setCell (X:=own3 (fun k=>k=mb) g b) w2 ⟨mb,19,none⟩ (.slice A2 x2.length c2) (.inr (.inr rfl)))
 have hZs:=Fr.setCell (X:=fun k=>k=mb) w2 ⟨mb,19,none⟩ (.slice A2 x2.length c2) rfl
 have hZ:pb<(w2.setCell ⟨mb,19,none⟩ (.slice A2 x2.length c2)).heap.size:=by have:=HZd2.out;have:=hf.size;have:=hZs.size;omega
 have hPz:=(hZs.cell (p:=⟨pb,0,none⟩) (by have:=HZd2.out;have:=hf.size;simp only;omega) (fun q=>by simp only at q;have:=Hn.out;omega)).trans hP2
 have HM2b:=hide hM2.blk
 have HM2:=hide ((hM2.mt pb).putChs (by have:=Hn.out;omega) (zA7 (fun _ _=>rfl) (fun k hk=>⟨by have:=HZd2.out;omega,hk.2⟩) hrep))
 clear hrep
 have HR2:=hide hg
 have HF2:=hide hF2
 have HP2:=hide hPz
 have HZ2:=hide hZ
 have HQ2:=hide hq
 refine hK2.out _ _ (fun _ _=>hP2) ?_
 clear hK2 K hr hf hq hP2 hM2 hg hF2 hPz hZ hZs
 try simp only[pU]
 refine zAe 3 (some 44) rfl rfl (by kernel_rfl) rfl (by rfl) (fun Wq=>by go_simp<;>with_reducible rfl) ?_
 try simp only[pU]
 refine zAe 4 (some 45) rfl rfl (by kernel_rfl) rfl (by rfl) (fun Wq=>by go_simp<;>with_reducible rfl) ?_
 try simp only[pU]
 refine zAf 5 rfl (by kernel_rfl) (fun K hK2=>?_)
 have kk:=HM2b.out.cells 19 _ rfl
 have zz:=HM2b.out.fz
 go_simp
 refine hK2.out _ _ (fun h=>absurd (by decide) h) ?_
 clear hK2 K kk zz
 try simp only[pU]
 refine zAj (by kernel_rfl) ?_ _
 go_wp2
 go_returns
 have q1:=HQ1.out
 have p1:=zAr (u:=fun m x=>{ m with name:=x }) (m:=m) q1
 have t1:=p1
 have q2:=HQ2.out
 rw[p1.1] at q2
 have p2:=zAr (u:=fun m x=>{ m with chs:=x }) (m:=({ m with name:=x1 }:MT)) q2
 have t2:=zAu t1.2 p2.2
 have hr:=HR2.out
 rw[p1.1,p2.1,t2.1] at hr
 exact⟨⟨({ ({ m with name:=x1 }:MT) with chs:=x2 }:MT),F2,rfl,by rw[Hn.out.2.2.2.2.2.2];exact HM2.out,hr,HF2.out,t2.2⟩⟩
theorem content_adds (w:World) (lo g b:Nat) (F:List Fd) (φ:Bool) (mb:Nat) (m:MT) (h:RdS w lo g b F φ) (hm:MtIn0 mb m w) (hmb:mb≠g/\mb≠b/\(mb<lo\/g<mb)) (k0:Int) (hkk:k0=8\/k0=4) (hk:m.kind=k0):
  Calls Tryz.prog 132 #[.pointer (some ⟨g,0,none⟩),.pointer (some ⟨mb,0,none⟩)] w (InPost (MtIn mb w.heap.size) (Rd.addR m) w (own3 (fun k=>k=mb) g b) lo g b F φ):=by
 rcases hkk with rfl | rfl
 all_goals
  have hgl:=h.log
  have hlt:=h.lt
  have hbo:=h.blo
  have hml:=hm.blk.lt
  have hfa:Fr (fun _=>False) w (w.alloc (.cells #[.pointer (some ⟨mb,0,none⟩)] 127)):=Fr.alloc _ _ _
  have hcd:(w.alloc (.cells #[.pointer (some ⟨mb,0,none⟩)] 127)).cell? ⟨w.heap.size,0,none⟩=some (.pointer (some ⟨mb,0,none⟩)):=by rw[World.cell?_alloc_at (hn:=by simp)];rfl
  have hk1:(w.alloc (.cells #[.pointer (some ⟨mb,0,none⟩)] 127)).cell? ⟨mb,1,none⟩=some (.int .i64 m.kind):=(hm.fr hfa id).blk.cells 1 _ rfl
  rw[hk] at hk1
  have HM0:=hide (hm.fr hfa id)
  have HR0:=hide (h.fr hfa id id (fun _ _ _=>id))
  have HF0:=hide (hfa.mono (Y:=own3 (fun k=>k=mb) g b) fun _ _ q=>q.elim)
  have hs:(w.alloc (.cells #[.pointer (some ⟨mb,0,none⟩)] 127)).heap.size=w.heap.size+1:=by simp
  obtain⟨w1,hw1⟩:∃w1,w.alloc (.cells #[.pointer (some ⟨mb,0,none⟩)] 127)=w1:=⟨_,rfl⟩
  rw[hw1] at hcd hk1 HM0 HR0 HF0 hs
  obtain⟨pb,hpb⟩:∃pb,w.heap.size=pb:=⟨_,rfl⟩
  rw[hpb] at hcd hs hlt hml
  have Hn:=hide (And.intro hml (And.intro hmb (And.intro hgl (And.intro hlt (And.intro hbo (And.intro hs hpb))))))
  have Hw:=hide hw1
  clear h hm hk hgl hlt hbo hml hfa hw1 hpb hs hmb
  go_enter Tryz.func132,Tryz.ntmps132
  go_upto_region 1 with fail
  rw[Hw.out,Hn.out.2.2.2.2.2.2]
  clear Hw
  have HP0:=hide hcd
  have HZ0:Hid (pb<w1.heap.size):=hide (by have:=Hn.out;omega)
  go_wp2_with fail
  clear hcd hk1
  refine zAp (wayC ⟨pb,0,none⟩ (.pointer (some ⟨mb,0,none⟩))) [5] (by kernel_rfl) ?_
  have HRd1:=hide (HR0.out.fr (Fr.drew (fun _=>False) w1) id id (fun _ _ _=>id))
  have HMd1:=hide (HM0.out.fr (Fr.drew (fun _=>False) w1) id)
  have HFd1:=hide (HF0.out.trans (Fr.drew (own3 (fun k=>k=mb) g b) w1))
  have HPd1:Hid (World.cell? (w1).drew ⟨pb,0,none⟩=some (.pointer (some ⟨mb,0,none⟩))):=hide HP0.out
  have HZd1:Hid (pb<(w1).drew.heap.size):=hide HZ0.out
  generalize (w1).drew=W1 at *
  refine zAm 0 (some 49) (v:=?vc10) rfl rfl (by kernel_rfl) rfl (by kernel_rfl) (by rfl) (fun Wq hW=>?yc10) ?_
  case yc10=>
   have cW:Wq.cell? ⟨pb,0,none⟩=some (.pointer (some ⟨mb,0,none⟩)):=hW HPd1.out
   go_simp<;>with_reducible rfl
  try simp only[pU]
  refine zAe 1 (some 50) rfl rfl (by kernel_rfl) rfl (by rfl) (fun Wq=>by go_simp<;>with_reducible rfl) ?_
  try simp only[pU]
  refine zAf 2 rfl (by kernel_rfl) (fun K hK2=>?_)
  go_simp
  refine (zA3 W1 lo g b F _ HRd1.out).mono ?_
  rintro e w1 hpost
  obtain⟨x1,v1,F1,rfl,hrep,hr,hf,hq⟩:=hpost.out
  clear hpost
  unfold repT at hrep
  subst hrep
  have hP1:=(hf.cell (p:=⟨pb,0,none⟩) (by have:=HZd1.out;simp only;omega) (by rintro (q | q)<;>(simp only at q;have:=Hn.out;omega))).trans HPd1.out
  have hM1:=HMd1.out.fr hf (by rintro (q | q)<;>(have:=Hn.out;omega))
  have hg:=hr.fr (Fr.setCell (X:=fun k=>k=mb) w1 ⟨mb,2,none⟩ (.string (txt x1)) rfl) (by have:=Hn.out;omega) (by have:=Hn.out;omega) (fun k h1 h2=>by have:=Hn.out;omega)
  have hF1:=(HFd1.out.trans (hf.mono (Y:=own3 (fun k=>k=mb) g b) fun k _ q=>by rcases q with q | q;exact .inl q;exact .inr (.inl q))).trans (Fr.setCell (X:=own3 (fun k=>k=mb) g b) w1 ⟨mb,2,none⟩ (.string (txt x1)) (.inr (.inr rfl)))
  have hZs:=Fr.setCell (X:=fun k=>k=mb) w1 ⟨mb,2,none⟩ (.string (txt x1)) rfl
  have hZ:pb<(w1.setCell ⟨mb,2,none⟩ (.string (txt x1))).heap.size:=by have:=HZd1.out;have:=hf.size;have:=hZs.size;omega
  have hPz:=(hZs.cell (p:=⟨pb,0,none⟩) (by have:=HZd1.out;have:=hf.size;simp only;omega) (fun q=>by simp only at q;have:=Hn.out;omega)).trans hP1
  have HM1b:=hide hM1.blk
  have HM1:=hide (hM1.put (m':=({ m with name:=x1 }:MT)) 2 (by omega) (.string (txt x1)) ⟨rfl,rfl,rfl,rfl,rfl,rfl⟩ (fun _ _ _ _ _ _ _ _ _ _ _ _=>rfl))
  have HR1:=hide hg
  have HF1:=hide hF1
  have HP1:=hide hPz
  have HZ1:=hide hZ
  have HQ1:=hide hq
  refine hK2.out _ _ (fun _ _=>hP1) ?_
  clear hK2 K hr hf hq hP1 hM1 hg hF1 hPz hZ hZs
  try simp only[pU]
  refine zAe 3 (some 52) rfl rfl (by kernel_rfl) rfl (by rfl) (fun Wq=>by go_simp<;>with_reducible rfl) ?_
  try simp only[pU]
  refine zAe 4 (some 53) rfl rfl (by kernel_rfl) rfl (by rfl) (fun Wq=>by go_simp<;>with_reducible rfl) ?_
  try simp only[pU]
  refine zAf 5 rfl (by kernel_rfl) (fun K hK2=>?_)
  have kk:=HM1b.out.cells 2 _ rfl
  have zz:=HM1b.out.fz
  go_simp
  refine hK2.out _ _ (fun h=>absurd (by decide) h) ?_
  clear hK2 K kk zz
  try simp only[pU]
  refine zAj (by kernel_rfl) ?_ _
  go_wp2_with fail
  refine zAp (wayC ⟨pb,0,none⟩ (.pointer (some ⟨mb,0,none⟩))) [5] (by kernel_rfl) ?_
  have HRd2:=hide (HR1.out.fr (Fr.drew (fun _=>False) (w1.setCell ⟨mb,2,none⟩ (.string (txt x1)))) id id (fun _ _ _=>id))
  have HMd2:=hide (HM1.out.fr (Fr.drew (fun _=>False) (w1.setCell ⟨mb,2,none⟩ (.string (txt x1)))) id)
  have HFd2:=hide (HF1.out.trans (Fr.drew (own3 (fun k=>k=mb) g b) (w1.setCell ⟨mb,2,none⟩ (.string (txt x1)))))
  have HPd2:Hid (World.cell? ((w1.setCell ⟨mb,2,none⟩ (.string (txt x1)))).drew ⟨pb,0,none⟩=some (.pointer (some ⟨mb,0,none⟩))):=hide HP1.out
  have HZd2:Hid (pb<((w1.setCell ⟨mb,2,none⟩ (.string (txt x1)))).drew.heap.size):=hide HZ1.out
  generalize ((w1.setCell ⟨mb,2,none⟩ (.string (txt x1)))).drew=W2 at *
  refine zAm 0 (some 54) (v:=?vc20) rfl rfl (by kernel_rfl) rfl (by kernel_rfl) (by rfl) (fun Wq hW=>?yc20) ?_
  case yc20=>
   have cW:Wq.cell? ⟨pb,0,none⟩=some (.pointer (some ⟨mb,0,none⟩)):=hW HPd2.out
   go_simp<;>with_reducible rfl
  try simp only[pU]
  refine zAe 1 (some 55) rfl rfl (by kernel_rfl) rfl (by rfl) (fun Wq=>by go_simp<;>with_reducible rfl) ?_
  try simp only[pU]
  refine zAf 2 rfl (by kernel_rfl) (fun K hK2=>?_)
  go_simp
  refine (listA_any Rd.attrR attr_eats W2 lo g b F1 _ 48 HRd2.out (readsA _ b)).mono ?_
  rintro e w2 hpost
  obtain⟨x2,v2,F2,rfl,hrep,hr,hf,hq⟩:=hpost.out
  clear hpost
  have hrepx:=hrep
  obtain⟨A2,c2,xs2,rfl,-⟩:=hrepx
  have hP2:=(hf.cell (p:=⟨pb,0,none⟩) (by have:=HZd2.out;simp only;omega) (by rintro (q | q)<;>(simp only at q;have:=Hn.out;omega))).trans HPd2.out
  have hM2:=HMd2.out.fr hf (by rintro (q | q)<;>(have:=Hn.out;omega))
  have hg:=hr.fr (Fr.setCell (X:=fun k=>k=mb) w2 ⟨mb,18,none⟩ (.slice A2 x2.length c2) rfl) (by have:=Hn.out;omega) (by have:=Hn.out;omega) (fun k h1 h2=>by have:=Hn.out;omega)
  have hF2:=(HFd2.out.trans (hf.mono (Y:=own3 (fun k=>k=mb) g b) fun k _ q=>by rcases q with q | q;exact .inl q;exact .inr (.inl q))).trans (Fr.setCell (X:=own3 (fun k=>k=mb) g b) w2 ⟨mb,18,none⟩ (.slice A2 x2.length c2) (.inr (.inr rfl)))
  have hZs:=Fr.setCell (X:=fun k=>k=mb) w2 ⟨mb,18,none⟩ (.slice A2 x2.length c2) rfl
  have hZ:pb<(w2.setCell ⟨mb,18,none⟩ (.slice A2 x2.length c2)).heap.size:=by have:=HZd2.out;have:=hf.size;have:=hZs.size;omega
  have hPz:=(hZs.cell (p:=⟨pb,0,none⟩) (by have:=HZd2.out;have:=hf.size;simp only;omega) (fun q=>by simp only at q;have:=Hn.out;omega)).trans hP2
  have HM2b:=hide hM2.blk
  have HM2:=hide ((hM2.mt pb).putLst (by have:=Hn.out;omega) (zA7 (fun _ _=>rfl) (fun k hk=>⟨by have:=HZd2.out;omega,hk.2⟩) hrep))
  clear hrep
  have HR2:=hide hg
  have HF2:=hide hF2
  have HP2:=hide hPz
  have HZ2:=hide hZ
  have HQ2:=hide hq
  refine hK2.out _ _ (fun _ _=>hP2) ?_
  clear hK2 K hr hf hq hP2 hM2 hg hF2 hPz hZ hZs
  try simp only[pU]
  refine zAe 3 (some 57) rfl rfl (by kernel_rfl) rfl (by rfl) (fun Wq=>by go_simp<;>with_reducible rfl) ?_
  try simp only[pU]
  refine zAe 4 (some 58) rfl rfl (by kernel_rfl) rfl (by rfl) (fun Wq=>by go_simp<;>with_reducible rfl) ?_
  try simp only[pU]
  refine zAf 5 rfl (by kernel_rfl) (fun K hK2=>?_)
  have kk:=HM2b.out.cells 18 _ rfl
  have zz:=HM2b.out.fz
  go_simp
  refine hK2.out _ _ (fun h=>absurd (by decide) h) ?_
  clear hK2 K kk zz
  try simp only[pU]
  refine zAj (by kernel_rfl) ?_ _
  go_wp2
  go_returns
  have q1:=HQ1.out
  have p1:=zAr (u:=fun m x=>{ m with name:=x }) (m:=m) q1
  have t1:=p1
  have q2:=HQ2.out
  rw[p1.1] at q2
  have p2:=zAr (u:=fun m x=>{ m with lst:=x }) (m:=({ m with name:=x1 }:MT)) q2
  have t2:=zAu t1.2 p2.2
  have hr:=HR2.out
  rw[p1.1,p2.1,t2.1] at hr
  exact⟨⟨({ ({ m with name:=x1 }:MT) with lst:=x2 }:MT),F2,rfl,by rw[Hn.out.2.2.2.2.2.2];exact HM2.out,hr,HF2.out,t2.2⟩⟩
namespace Rd
def compareR:MR:=thenR nameR (updR (innerR 48 (andR textR textR Prod.mk)) fun m x=>{ m with attr:=x.1,value:=x.2 })
def noR:MR:=fun _ _=>none
end Rd
theorem content_compare (w:World) (lo g b:Nat) (F:List Fd) (φ:Bool) (mb:Nat) (m:MT) (h:RdS w lo g b F φ) (hm:MtIn0 mb m w) (hmb:mb≠g/\mb≠b/\(mb<lo\/g<mb)) (hk:m.kind=14):
  Calls Tryz.prog 132 #[.pointer (some ⟨g,0,none⟩),.pointer (some ⟨mb,0,none⟩)] w (InPost (MtIn mb w.heap.size) (Rd.compareR m) w (own3 (fun k=>k=mb) g b) lo g b F φ):=by
 have hgl:=h.log
 have hlt:=h.lt
 have hbo:=h.blo
 have hml:=hm.blk.lt
 have hfa:Fr (fun _=>False) w (w.alloc (.cells #[.pointer (some ⟨mb,0,none⟩)] 127)):=Fr.alloc _ _ _
 have hcd:(w.alloc (.cells #[.pointer (some ⟨mb,0,none⟩)] 127)).cell? ⟨w.heap.size,0,none⟩=some (.pointer (some ⟨mb,0,none⟩)):=by rw[World.cell?_alloc_at (hn:=by simp)];rfl
 have hk1:(w.alloc (.cells #[.pointer (some ⟨mb,0,none⟩)] 127)).cell? ⟨mb,1,none⟩=some (.int .i64 14):=by rw[<-hk];exact (hm.fr hfa id).blk.cells 1 _ rfl
 have HM0:=hide (hm.fr hfa id)
 have HR0:=hide (h.fr hfa id id (fun _ _ _=>id))
 have HF0:=hide (hfa.mono (Y:=own3 (fun k=>k=mb) g b) fun _ _ q=>q.elim)
 have hs:(w.alloc (.cells #[.pointer (some ⟨mb,0,none⟩)] 127)).heap.size=w.heap.size+1:=by simp
 obtain⟨w1,hw1⟩:∃w1,w.alloc (.cells #[.pointer (some ⟨mb,0,none⟩)] 127)=w1:=⟨_,rfl⟩
 rw[hw1] at hcd hk1 HM0 HR0 HF0 hs
 obtain⟨pb,hpb⟩:∃pb,w.heap.size=pb:=⟨_,rfl⟩
 rw[hpb] at hcd hs hlt hml
 have Hn:=hide (And.intro hml (And.intro hmb (And.intro hgl (And.intro hlt (And.intro hbo (And.intro hs hpb))))))
 have Hw:=hide hw1
 clear h hm hk hgl hlt hbo hml hfa hw1 hpb hs hmb
 go_enter Tryz.func132,Tryz.ntmps132
 go_upto_region 1 with fail
 rw[Hw.out,Hn.out.2.2.2.2.2.2]
 clear Hw
 have HP0:=hide hcd
 have HZ0:Hid (pb<w1.heap.size):=hide (by have:=Hn.out;omega)
 go_wp2_with fail
 clear hcd hk1
 refine zAp (wayC ⟨pb,0,none⟩ (.pointer (some ⟨mb,0,none⟩))) [5] (by kernel_rfl) ?_
 have HRd1:=hide (HR0.out.fr (Fr.drew (fun _=>False) w1) id id (fun _ _ _=>id))
 have HMd1:=hide (HM0.out.fr (Fr.drew (fun _=>False) w1) id)
 have HFd1:=hide (HF0.out.trans (Fr.drew (own3 (fun k=>k=mb) g b) w1))
 have HPd1:Hid (World.cell? (w1).drew ⟨pb,0,none⟩=some (.pointer (some ⟨mb,0,none⟩))):=hide HP0.out
 have HZd1:Hid (pb<(w1).drew.heap.size):=hide HZ0.out
 generalize (w1).drew=W1 at *
 refine zAm 0 (some 66) (v:=?vc10) rfl rfl (by kernel_rfl) rfl (by kernel_rfl) (by rfl) (fun Wq hW=>?yc10) ?_
 case yc10=>
  have cW:Wq.cell? ⟨pb,0,none⟩=some (.pointer (some ⟨mb,0,none⟩)):=hW HPd1.out
  go_simp<;>with_reducible rfl
 try simp only[pU]
 refine zAe 1 (some 67) rfl rfl (by kernel_rfl) rfl (by rfl) (fun Wq=>by go_simp<;>with_reducible rfl) ?_
 try simp only[pU]
 refine zAf 2 rfl (by kernel_rfl) (fun K hK2=>?_)
 go_simp
 refine (zA3 W1 lo g b F _ HRd1.out).mono ?_
 rintro e w1 hpost
 obtain⟨x1,v1,F1,rfl,hrep,hr,hf,hq⟩:=hpost.out
 clear hpost
 unfold repT at hrep
 subst hrep
 have hP1:=(hf.cell (p:=⟨pb,0,none⟩) (by have:=HZd1.out;simp only;omega) (by rintro (q | q)<;>(simp only at q;have:=Hn.out;omega))).trans HPd1.out
 have hM1:=HMd1.out.fr hf (by rintro (q | q)<;>(have:=Hn.out;omega))
 have hg:=hr.fr (Fr.setCell (X:=fun k=>k=mb) w1 ⟨mb,2,none⟩ (.string (txt x1)) rfl) (by have:=Hn.out;omega) (by have:=Hn.out;omega) (fun k h1 h2=>by have:=Hn.out;omega)
 have hF1:=(HFd1.out.trans (hf.mono (Y:=own3 (fun k=>k=mb) g b) fun k _ q=>by rcases q with q | q;exact .inl q;exact .inr (.inl q))).trans (Fr.setCell (X:=own3 (fun k=>k=mb) g b) w1 ⟨mb,2,none⟩ (.string (txt x1)) (.inr (.inr rfl)))
 have hZs:=Fr.setCell (X:=fun k=>k=mb) w1 ⟨mb,2,none⟩ (.string (txt x1)) rfl
 have hZ:pb<(w1.setCell ⟨mb,2,none⟩ (.string (txt x1))).heap.size:=by have:=HZd1.out;have:=hf.size;have:=hZs.size;omega
 have hPz:=(hZs.cell (p:=⟨pb,0,none⟩) (by have:=HZd1.out;have:=hf.size;simp only;omega) (fun q=>by simp only at q;have:=Hn.out;omega)).trans hP1
 have HM1b:=hide hM1.blk
 have HM1:=hide (hM1.put (m':=({ m with name:=x1 }:MT)) 2 (by omega) (.string (txt x1)) ⟨rfl,rfl,rfl,rfl,rfl,rfl⟩ (fun _ _ _ _ _ _ _ _ _ _ _ _=>rfl))
 have HR1:=hide hg
 have HF1:=hide hF1
 have HP1:=hide hPz
 have HZ1:=hide hZ
 have HQ1:=hide hq
 refine hK2.out _ _ (fun _ _=>hP1) ?_
 clear hK2 K hr hf hq hP1 hM1 hg hF1 hPz hZ hZs
 try simp only[pU]
 refine zAe 3 (some 69) rfl rfl (by kernel_rfl) rfl (by rfl) (fun Wq=>by go_simp<;>with_reducible rfl) ?_
 try simp only[pU]
 refine zAe 4 (some 70) rfl rfl (by kernel_rfl) rfl (by rfl) (fun Wq=>by go_simp<;>with_reducible rfl) ?_
 try simp only[pU]
 refine zAf 5 rfl (by kernel_rfl) (fun K hK2=>?_)
 have kk:=HM1b.out.cells 2 _ rfl
 have zz:=HM1b.out.fz
 go_simp
 refine hK2.out _ _ (fun h=>absurd (by decide) h) ?_
 clear hK2 K kk zz
 try simp only[pU]
 refine zAj (by kernel_rfl) ?_ _
 go_wp2_with fail
 have hsz:∀W,Fr (own2 g b) (w1.setCell ⟨mb,2,none⟩ (.string (txt x1))) W->pb<W.heap.size:=fun W hW=>by have:=HZ1.out;have:=hW.size;omega
 have hin:=zBk (fun (x:List UInt8 × List UInt8) W=>MtIn0 mb ({ ({ m with name:=x1 }:MT) with attr:=x.1,value:=x.2 }:MT) W) (fun k=>k=mb) (Rd.andR Rd.textR Rd.textR Prod.mk) (w1.setCell ⟨mb,2,none⟩ (.string (txt x1))) lo g b F1 _ 48 159 #[.pointer (some ⟨pb,0,none⟩)] (fun args w=>by go_simp) HR1.out (fun W hW=>compareCl W b mb pb ({ m with name:=x1 }:MT) (HM1.out.fr hW (by rintro (q | q)<;>(have:=Hn.out;omega))) ((hW.cell (p:=⟨pb,0,none⟩) HZ1.out (by rintro (q | q)<;>(simp only at q;have:=Hn.out;omega))).trans HP1.out) (hsz W hW) ⟨by have:=Hn.out;omega,by have:=Hn.out;omega,by have:=Hn.out;omega⟩) (fun x W W' q1 q2=>q1.fr q2 (by have:=Hn.out;omega)) (fun k hk=>⟨by have:=HZ1.out;have:=Hn.out;omega,by have:=Hn.out;omega,by have:=Hn.out;omega⟩)
 rw[show c8 48=.int .u8 48 from rfl] at hin
 have Hin:=hide hin
 clear hin hsz
 go_wp2_with (go_at_call 28;fail)
 refine Hin.out.mono ?_
 rintro e w5 hpost
 obtain⟨x,F5,rfl,hst,hr5,hf5,hq5⟩:=hpost.out
 clear hpost Hin
 have HS:=hide hst
 have HR5:=hide hr5
 have HF5:=hide (HF1.out.trans hf5)
 have HQ5:=hide hq5
 clear hst hr5 hf5 hq5
 go_wp2
 go_returns
 have q1:=HQ1.out
 have p1:=zAr (u:=fun m x=>{ m with name:=x }) (m:=m) q1
 have t1:=p1
 have hr:=HR5.out
 have q5:=HQ5.out
 rw[p1.1] at hr q5
 have p5:=zAr (u:=fun (m:MT) (x:List UInt8 × List UInt8)=>({ m with attr:=x.1,value:=x.2 }:MT)) (m:=({ m with name:=x1 }:MT)) q5
 rw[p5.1] at hr
 have tt:=zAu t1.2 p5.2
 rw[tt.1] at hr
 exact⟨⟨({ ({ m with name:=x1 }:MT) with attr:=x.1,value:=x.2 }:MT),F5,rfl,HS.out.mt _,hr,HF5.out,tt.2⟩⟩
theorem content_other (w:World) (lo g b:Nat) (F:List Fd) (φ:Bool) (mb:Nat) (m:MT) (h:RdS w lo g b F φ) (hm:MtIn0 mb m w) (hmb:mb≠g/\mb≠b/\(mb<lo\/g<mb)) (kk:Int) (hne:kk≠2/\kk≠0/\kk≠3/\kk≠6/\kk≠8/\kk≠4/\kk≠12/\kk≠14/\kk≠1/\kk≠5/\kk≠7/\kk≠9/\kk≠11/\kk≠13/\kk≠15/\kk≠24) (hk:m.kind=kk):
  Calls Tryz.prog 132 #[.pointer (some ⟨g,0,none⟩),.pointer (some ⟨mb,0,none⟩)] w (InPost (MtIn mb w.heap.size) (Rd.noR m) w (own3 (fun k=>k=mb) g b) lo g b F φ):=by
 have hgl:=h.log
 have e2:(kk==2)=false:=beq_false_of_ne (by omega)
 have e0:(kk==0)=false:=beq_false_of_ne (by omega)
 have e3:(kk==3)=false:=beq_false_of_ne (by omega)
 have e6:(kk==6)=false:=beq_false_of_ne (by omega)
 have e8:(kk==8)=false:=beq_false_of_ne (by omega)
 have e4:(kk==4)=false:=beq_false_of_ne (by omega)
 have e12:(kk==12)=false:=beq_false_of_ne (by omega)
 have e14:(kk==14)=false:=beq_false_of_ne (by omega)
 have e1:(kk==1)=false:=beq_false_of_ne (by omega)
 have e5:(kk==5)=false:=beq_false_of_ne (by omega)
 have e7:(kk==7)=false:=beq_false_of_ne (by omega)
 have e9:(kk==9)=false:=beq_false_of_ne (by omega)
 have e11:(kk==11)=false:=beq_false_of_ne (by omega)
 have e13:(kk==13)=false:=beq_false_of_ne (by omega)
 have e15:(kk==15)=false:=beq_false_of_ne (by omega)
 have e24:(kk==24)=false:=beq_false_of_ne (by omega)
 clear hne
 have hlt:=h.lt
 have hbo:=h.blo
 have hml:=hm.blk.lt
 have hfa:Fr (fun _=>False) w (w.alloc (.cells #[.pointer (some ⟨mb,0,none⟩)] 127)):=Fr.alloc _ _ _
 have hcd:(w.alloc (.cells #[.pointer (some ⟨mb,0,none⟩)] 127)).cell? ⟨w.heap.size,0,none⟩=some (.pointer (some ⟨mb,0,none⟩)):=by rw[World.cell?_alloc_at (hn:=by simp)];rfl
 have hk1:(w.alloc (.cells #[.pointer (some ⟨mb,0,none⟩)] 127)).cell? ⟨mb,1,none⟩=some (.int .i64 kk):=by rw[<-hk];exact (hm.fr hfa id).blk.cells 1 _ rfl
 have HM0:=hide (hm.fr hfa id)
 have HR0:=hide (h.fr hfa id id (fun _ _ _=>id))
 have HF0:=hide (hfa.mono (Y:=own3 (fun k=>k=mb) g b) fun _ _ q=>q.elim)
 have hs:(w.alloc (.cells #[.pointer (some ⟨mb,0,none⟩)] 127)).heap.size=w.heap.size+1:=by simp
 obtain⟨w1,hw1⟩:∃w1,w.alloc (.cells #[.pointer (some ⟨mb,0,none⟩)] 127)=w1:=⟨_,rfl⟩
 rw[hw1] at hcd hk1 HM0 HR0 HF0 hs
 obtain⟨pb,hpb⟩:∃pb,w.heap.size=pb:=⟨_,rfl⟩
 rw[hpb] at hcd hs hlt hml
 have Hn:=hide (And.intro hml (And.intro hmb (And.intro hgl (And.intro hlt (And.intro hbo (And.intro hs hpb))))))
 have Hw:=hide hw1
 clear h hm hk hgl hlt hbo hml hfa hw1 hpb hs hmb
 go_enter Tryz.func132,Tryz.ntmps132
 go_upto_region 1 with fail
 rw[Hw.out,Hn.out.2.2.2.2.2.2]
 clear Hw
 have hfl:=zBi w1 lo g b F φ HR0.out
 go_wp2_with (go_at_call 78;fail)
 refine hfl.mono ?_
 rintro e w3 ⟨rfl,hr3,hf3⟩
 have HM3:=hide (HM0.out.fr hf3 (by rintro (q | q)<;>(have:=Hn.out;omega)))
 have HF3:=hide (HF0.out.trans (hf3.mono (Y:=own3 (fun k=>k=mb) g b) fun k _ q=>by rcases q with q | q;exact .inl q;exact .inr (.inl q)))
 have HR3:=hide hr3
 clear hr3 hf3 hfl
 go_wp2
 go_returns
 exact⟨⟨m,F,rfl,HM3.out.mt _,by show RdS _ lo g b F (φ||true);rw[Bool.or_true];exact HR3.out,HF3.out,fun _ x0 F0 h0=>by cases h0⟩⟩
end Go.Proofs.YtcpjmgfloimfhaaGreat
