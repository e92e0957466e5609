/- Several texts in one: LContent2, LOpTag, LOper, LOper2, LOper3. By an AI agent. -/
import Derived.Test.YtcpjmgfloimfhaaGreatLContent
set_option linter.unusedSimpArgs false
set_option linter.unusedVariables false
set_option maxRecDepth 100000
set_option maxHeartbeats 32000000
namespace Go.Proofs.YtcpjmgfloimfhaaGreat
open Go.RowKit
namespace Rd
def contentR:MR:=fun m=>
 if m.kind=2 then doneR m else if m.kind=0 then bindR m else if m.kind=3 then searchR m else if m.kind=6 then modifyR m else if m.kind=8 then addR m else if m.kind=4 then addR m else if m.kind=12 then modNameR m else if m.kind=14 then compareR m else if m.kind=1 then resultR m else if m.kind=5 then resultR m else if m.kind=7 then resultR m else if m.kind=9 then resultR m else if m.kind=11 then resultR m else if m.kind=13 then resultR m else if m.kind=15 then resultR m else if m.kind=24 then resultR m else noR m
end Rd
theorem content_any (w:World) (lo g b:Nat) (F:List Fd) (φ:Bool) (mb:Nat) (m:MT) (h:RdS w lo g b F φ) (hm:MtIn0 mb m w) (hmb:mb≠g/\mb≠b/\(mb<lo\/g<mb)):
  Calls Tryz.prog 132 #[.pointer (some ⟨g,0,none⟩),.pointer (some ⟨mb,0,none⟩)] w (InPost (MtIn mb w.heap.size) (Rd.contentR m) w (own3 (fun k=>k=mb) g b) lo g b F φ):=by
 by_cases k2:m.kind=2
 ·have e:Rd.contentR m=Rd.doneR m:=by unfold Rd.contentR;simp only[k2];rfl
  rw[e]
  exact content_unbind w lo g b F φ mb m h hm hmb k2
 by_cases k0:m.kind=0
 ·have e:Rd.contentR m=Rd.bindR m:=by unfold Rd.contentR;simp only[k0];rfl
  rw[e]
  exact content_bind w lo g b F φ mb m h hm hmb k0
 by_cases k3:m.kind=3
 ·have e:Rd.contentR m=Rd.searchR m:=by unfold Rd.contentR;simp only[k3];rfl
  rw[e]
  exact content_search w lo g b F φ mb m h hm hmb k3
 by_cases k6:m.kind=6
 ·have e:Rd.contentR m=Rd.modifyR m:=by unfold Rd.contentR;simp only[k6];rfl
  rw[e]
  exact content_modify w lo g b F φ mb m h hm hmb k6
 by_cases k8:m.kind=8
 ·have e:Rd.contentR m=Rd.addR m:=by unfold Rd.contentR;simp only[k8];rfl
  rw[e]
  exact content_adds w lo g b F φ mb m h hm hmb 8 (by omega) k8
 by_cases k4:m.kind=4
 ·have e:Rd.contentR m=Rd.addR m:=by unfold Rd.contentR;simp only[k4];rfl
  rw[e]
  exact content_adds w lo g b F φ mb m h hm hmb 4 (by omega) k4
 by_cases k12:m.kind=12
 ·have e:Rd.contentR m=Rd.modNameR m:=by unfold Rd.contentR;simp only[k12];rfl
  rw[e]
  exact content_modName w lo g b F φ mb m h hm hmb k12
 by_cases k14:m.kind=14
 ·have e:Rd.contentR m=Rd.compareR m:=by unfold Rd.contentR;simp only[k14];rfl
  rw[e]
  exact content_compare w lo g b F φ mb m h hm hmb k14
 by_cases k1:m.kind=1
 ·have e:Rd.contentR m=Rd.resultR m:=by unfold Rd.contentR;simp only[k1];rfl
  rw[e]
  exact zBd w lo g b F φ mb m h hm hmb 1 (by omega) k1
 by_cases k5:m.kind=5
 ·have e:Rd.contentR m=Rd.resultR m:=by unfold Rd.contentR;simp only[k5];rfl
  rw[e]
  exact zBd w lo g b F φ mb m h hm hmb 5 (by omega) k5
 by_cases k7:m.kind=7
 ·have e:Rd.contentR m=Rd.resultR m:=by unfold Rd.contentR;simp only[k7];rfl
  rw[e]
  exact zBd w lo g b F φ mb m h hm hmb 7 (by omega) k7
 by_cases k9:m.kind=9
 ·have e:Rd.contentR m=Rd.resultR m:=by unfold Rd.contentR;simp only[k9];rfl
  rw[e]
  exact zBd w lo g b F φ mb m h hm hmb 9 (by omega) k9
 by_cases k11:m.kind=11
 ·have e:Rd.contentR m=Rd.resultR m:=by unfold Rd.contentR;simp only[k11];rfl
  rw[e]
  exact zBd w lo g b F φ mb m h hm hmb 11 (by omega) k11
 by_cases k13:m.kind=13
 ·have e:Rd.contentR m=Rd.resultR m:=by unfold Rd.contentR;simp only[k13];rfl
  rw[e]
  exact zBd w lo g b F φ mb m h hm hmb 13 (by omega) k13
 by_cases k15:m.kind=15
 ·have e:Rd.contentR m=Rd.resultR m:=by unfold Rd.contentR;simp only[k15];rfl
  rw[e]
  exact zBd w lo g b F φ mb m h hm hmb 15 (by omega) k15
 by_cases k24:m.kind=24
 ·have e:Rd.contentR m=Rd.resultR m:=by unfold Rd.contentR;simp only[k24];rfl
  rw[e]
  exact zBd w lo g b F φ mb m h hm hmb 24 (by omega) k24
 have e:Rd.contentR m=Rd.noR m:=by unfold Rd.contentR;simp only[if_neg k2,if_neg k0,if_neg k3,if_neg k6,if_neg k8,if_neg k4,if_neg k12,if_neg k14,if_neg k1,if_neg k5,if_neg k7,if_neg k9,if_neg k11,if_neg k13,if_neg k15,if_neg k24]
 rw[e]
 exact content_other w lo g b F φ mb m h hm hmb m.kind ⟨k2,k0,k3,k6,k8,k4,k12,k14,k1,k5,k7,k9,k11,k13,k15,k24⟩ rfl
def opV (k:Int):Int:=if k=2\/k=10\/k=16 then IntKind.u8.wrap (64+IntKind.u8.wrap k) else IntKind.u8.wrap (96+IntKind.u8.wrap k)
theorem opTag_any (w:World) (k:Int):Calls Tryz.prog 63 #[.int .i64 k] w fun e w'=>e=.returned (.int .u8 (opV k))/\w'=w:=by
 obtain⟨v,hv⟩:∃v,IntKind.u8.wrap k=v:=⟨_,rfl⟩
 by_cases h:k=2\/k=10\/k=16
 ·have e:opV k=IntKind.u8.wrap (64+v):=by unfold opV;rw[if_pos h,hv]
  rw[e]
  clear e
  rcases h with rfl | rfl | rfl
  all_goals
   obtain rfl:=hv
   go_enter Tryz.func63,Tryz.ntmps63
   go_wp2
   go_returns
   exact⟨rfl,rfl⟩
 ·have e:opV k=IntKind.u8.wrap (96+v):=by unfold opV;rw[if_neg h,hv]
  rw[e]
  have e2:(k==2)=false:=beq_false_of_ne (fun q=>h (.inl q))
  have e10:(k==10)=false:=beq_false_of_ne (fun q=>h (.inr (.inl q)))
  have e16:(k==16)=false:=beq_false_of_ne (fun q=>h (.inr (.inr q)))
  clear e h
  go_enter Tryz.func63,Tryz.ntmps63
  go_wp2
  go_returns
  subst hv
  exact⟨rfl,rfl⟩
theorem MtIn.down {mb lo3 lo4:Nat} {m:MT} {W:World} (h:MtIn mb lo3 m W) (hl:lo4<=lo3):MtIn mb lo4 m W:=by
 obtain⟨f0,f1,f2,f3,f4,f5,f6,va,vl,vc,vr,vk,hB,hr⟩:=h.out
 exact⟨_,_,_,_,_,_,_,_,_,_,_,_,hB,hr.move (fun _ _=>rfl) fun k hk=>⟨by omega,hk.2⟩⟩
namespace Rd
def kindOf (t:UInt8):Int:=((t&&& 31).toNat:Int)
def operR:MR:=fun m F=>match F with
 | []=>none
 |(t,c)::r=>if opV (kindOf t)=(t.toNat:Int) then
   (if kindOf t=10 then updR (taggedR t) (fun m x=>{ m with name:=x }) { m with kind:=kindOf t } ((t,c)::r)
    else if kindOf t=16 then updR (numR t 2147483647) (fun m x=>{ m with target:=x }) { m with kind:=kindOf t } ((t,c)::r)
    else if kindOf t=19 then updR (someR t textR) (fun m x=>{ m with refs:=x }) { m with kind:=kindOf t } ((t,c)::r)
    else updR (innerR t (contentR { m with kind:=kindOf t })) (fun _ x=>x) { m with kind:=kindOf t } ((t,c)::r))
  else none
end Rd
theorem and31 (t:UInt8):wrap64 (bits BinOp.and IntKind.u8 (t.toNat:Int) 31)=Rd.kindOf t:=by
 have h:∀n:Fin 256,wrap64 (bits BinOp.and IntKind.u8 (((UInt8.ofNat n.1).toNat:Nat):Int) 31)=Rd.kindOf (UInt8.ofNat n.1):=by decide+kernel
 have h2:=h ⟨t.toNat,t.toNat_lt⟩
 simpa using h2
theorem oper_remove (w:World) (lo g b:Nat) (t:UInt8) (c:List UInt8) (r:List Fd) (mb:Nat) (m:MT) (h:RdS w lo g b ((t,c)::r) false) (hm:MtIn0 mb m w) (hmb:mb≠g/\mb≠b/\(mb<lo\/g<mb)) (hop:opV (Rd.kindOf t)=(t.toNat:Int)) (hkk:Rd.kindOf t=10):
  Calls Tryz.prog 82 #[.pointer (some ⟨g,0,none⟩),.pointer (some ⟨mb,0,none⟩)] w (InPost (MtIn mb w.heap.size) (Rd.operR m) w (own3 (fun k=>k=mb) g b) lo g b ((t,c)::r) false):=by
 have hgl:=h.log
 have hlt:=h.lt
 have hbo:=h.blo
 have hml:=hm.blk.lt
 have hfa:Fr (fun _=>False) w (w.alloc (.cells #[.pointer (some ⟨mb,0,none⟩)] 127)):=Fr.alloc _ _ _
 have hcd:(w.alloc (.cells #[.pointer (some ⟨mb,0,none⟩)] 127)).cell? ⟨w.heap.size,0,none⟩=some (.pointer (some ⟨mb,0,none⟩)):=by rw[World.cell?_alloc_at (hn:=by simp)];rfl
 have hk1:(w.alloc (.cells #[.pointer (some ⟨mb,0,none⟩)] 127)).cell? ⟨mb,1,none⟩=some (.int .i64 m.kind):=(hm.fr hfa id).blk.cells 1 _ rfl
 have hkz:=(hm.fr hfa id).blk.fz
 have HM0:=hide (hm.fr hfa id)
 have HR0:=hide (h.fr hfa id id (fun _ _ _=>id))
 have HF0:=hide (hfa.mono (Y:=own3 (fun k=>k=mb) g b) fun _ _ q=>q.elim)
 have hs:(w.alloc (.cells #[.pointer (some ⟨mb,0,none⟩)] 127)).heap.size=w.heap.size+1:=by simp
 obtain⟨w1,hw1⟩:∃w1,w.alloc (.cells #[.pointer (some ⟨mb,0,none⟩)] 127)=w1:=⟨_,rfl⟩
 rw[hw1] at hcd hk1 HM0 HR0 HF0 hs hkz
 obtain⟨pb,hpb⟩:∃pb,w.heap.size=pb:=⟨_,rfl⟩
 rw[hpb] at hcd hs hlt hml
 have Hn:=hide (And.intro hml (And.intro hmb (And.intro hgl (And.intro hlt (And.intro hbo (And.intro hs hpb))))))
 have Hw:=hide hw1
 clear h hm hgl hlt hbo hml hfa hw1 hpb hs hmb
 have hmo:=zA6 w1 lo g b ((t,c)::r) false HR0.out
 rw[show moreB ((t,c)::r) false=true from rfl] at hmo
 obtain⟨gt,ot,ct,gc,oc,cc,Bc,dc,e0,e1,k1,k2,k3,k4,k5⟩:=HR0.out.hd
 obtain⟨n,hn⟩:∃n,r.length+1=n:=⟨_,rfl⟩
 rw[hn] at e0
 have z0:(0:Int)<(n:Int):=by omega
 have zn:0<n:=by omega
 simp only[c8] at k1
 clear e1 k2 k3 k4 k5 hn
 go_enter Tryz.func82,Tryz.ntmps82
 go_upto_region 1 with fail
 rw[Hw.out,Hn.out.2.2.2.2.2.2]
 clear Hw
 go_wp2_with (go_at_call 79;fail)
 refine hmo.mono ?_
 rintro e w9 ⟨rfl,hw9⟩
 obtain rfl:=hw9.symm
 clear hmo
 obtain⟨K,hK⟩:∃K,wrap64 (bits BinOp.and IntKind.u8 (t.toNat:Int) 31)=K:=⟨_,rfl⟩
 have hKt:=(and31 t).symm.trans hK
 rw[hKt] at hop hkk
 obtain⟨ws,hws⟩:∃ws,w1.setCell ⟨mb,1,none⟩ (.int .i64 K)=ws:=⟨_,rfl⟩
 have hfs:Fr (fun k=>k=mb) w1 ws:=by rw[<-hws];exact Fr.setCell w1 ⟨mb,1,none⟩ _ rfl
 have HM1:Hid (MtIn0 mb ({ m with kind:=K }:MT) ws):=hide (by rw[<-hws];exact HM0.out.put 1 (by omega) (.int .i64 K) ⟨rfl,rfl,rfl,rfl,rfl,rfl⟩ (fun _ _ _ _ _ _ _ _ _ _ _ _=>rfl))
 have HR1:=hide (HR0.out.fr hfs (by have:=Hn.out;omega) (by have:=Hn.out;omega) (fun k h1 h2=>by have:=Hn.out;omega))
 have HF1:=hide (HF0.out.trans (hfs.mono (Y:=own3 (fun k=>k=mb) g b) fun _ _ q=>.inr (.inr q)))
 have HP1:=hide ((hfs.cell (p:=⟨pb,0,none⟩) (by have:=Hn.out;simp only;omega) (fun q=>by simp only at q;have:=Hn.out;omega)).trans hcd)
 have HZ1:Hid (pb<ws.heap.size):=hide (by have:=Hn.out;have:=hfs.size;omega)
 have ho:=opTag_any ws K
 rw[hop] at ho
 subst hkk
 have hkc:=HM1.out.blk.cells 1 (.int .i64 10) rfl
 have hpc:=HP1.out
 clear hfs
 go_wp2_with (go_at_call 63;fail)
 try rw[hK]
 try rw[hws]
 refine ho.mono ?_
 rintro e w9 ⟨rfl,hw9⟩
 obtain rfl:=hw9.symm
 clear ho k1 hk1 hcd e0 HM0 HR0 HF0 hkz hK hws z0 zn
 go_wp2_with fail
 clear hkc hpc
 refine zAp (wayC ⟨pb,0,none⟩ (.pointer (some ⟨mb,0,none⟩))) [6] (by kernel_rfl) ?_
 have HRd2:=hide (HR1.out.fr (Fr.drew (fun _=>False) ws) id id (fun _ _ _=>id))
 have HMd2:=hide (HM1.out.fr (Fr.drew (fun _=>False) ws) id)
 have HFd2:=hide (HF1.out.trans (Fr.drew (own3 (fun k=>k=mb) g b) ws))
 have HPd2:Hid (World.cell? (ws).drew ⟨pb,0,none⟩=some (.pointer (some ⟨mb,0,none⟩))):=hide HP1.out
 have HZd2:Hid (pb<(ws).drew.heap.size):=hide HZ1.out
 generalize (ws).drew=W2 at *
 refine zAm 0 (some 41) (v:=?vc20) rfl rfl (by kernel_rfl) rfl (by kernel_rfl) (by rfl) (fun Wq hW=>?yc20) ?_
 case yc20=>
  have cW:Wq.cell? ⟨pb,0,none⟩=some (.pointer (some ⟨mb,0,none⟩)):=hW HPd2.out
  go_simp<;>with_reducible rfl
 try simp only[pU]
 refine zAe 1 (some 42) rfl rfl (by kernel_rfl) rfl (by rfl) (fun Wq=>by go_simp<;>with_reducible rfl) ?_
 try simp only[pU]
 refine zAe 2 (some 43) rfl rfl (by kernel_rfl) rfl (by rfl) (fun Wq=>by go_simp<;>with_reducible rfl) ?_
 try simp only[pU]
 refine zAf 3 rfl (by kernel_rfl) (fun K hK2=>?_)
 go_simp
 refine (tagged_any W2 lo g b ((t,c)::r) _ t HRd2.out).mono ?_
 rintro e w2 hpost
 obtain⟨x2,v2,F2,rfl,hrep,hr,hf,hq⟩:=hpost.out
 clear hpost
 unfold repT at hrep
 subst hrep
 have hP2:=(hf.cell (p:=⟨pb,0,none⟩) (by have:=HZd2.out;simp only;omega) (by rintro (q | q)<;>(simp only at q;have:=Hn.out;omega))).trans HPd2.out
 have hM2:=HMd2.out.fr hf (by rintro (q | q)<;>(have:=Hn.out;omega))
 have hg:=hr.fr (Fr.setCell (X:=fun k=>k=mb) w2 ⟨mb,2,none⟩ (.string (txt x2)) rfl) (by have:=Hn.out;omega) (by have:=Hn.out;omega) (fun k h1 h2=>by have:=Hn.out;omega)
 have hF2:=(HFd2.out.trans (hf.mono (Y:=own3 (fun k=>k=mb) g b) fun k _ q=>by rcases q with q | q;exact .inl q;exact .inr (.inl q))).trans (Fr.setCell (X:=own3 (fun k=>k=mb) g b) w2 ⟨mb,2,none⟩ (.string (txt x2)) (.inr (.inr rfl)))
 have hZs:=Fr.setCell (X:=fun k=>k=mb) w2 ⟨mb,2,none⟩ (.string (txt x2)) rfl
 have hZ:pb<(w2.setCell ⟨mb,2,none⟩ (.string (txt x2))).heap.size:=by have:=HZd2.out;have:=hf.size;have:=hZs.size;omega
 have hPz:=(hZs.cell (p:=⟨pb,0,none⟩) (by have:=HZd2.out;have:=hf.size;simp only;omega) (fun q=>by simp only at q;have:=Hn.out;omega)).trans hP2
 have HM2b:=hide hM2.blk
 have HM2:=hide (hM2.put (m':=({ ({ m with kind:=10 }:MT) with name:=x2 }:MT)) 2 (by omega) (.string (txt x2)) ⟨rfl,rfl,rfl,rfl,rfl,rfl⟩ (fun _ _ _ _ _ _ _ _ _ _ _ _=>rfl))
 have HR2:=hide hg
 have HF2:=hide hF2
 have HP2:=hide hPz
 have HZ2:=hide hZ
 have HQ2:=hide hq
 refine hK2.out _ _ (fun _ _=>hP2) ?_
 clear hK2 K hr hf hq hP2 hM2 hg hF2 hPz hZ hZs
 try simp only[pU]
 refine zAe 4 (some 45) rfl rfl (by kernel_rfl) rfl (by rfl) (fun Wq=>by go_simp<;>with_reducible rfl) ?_
 try simp only[pU]
 refine zAe 5 (some 46) rfl rfl (by kernel_rfl) rfl (by rfl) (fun Wq=>by go_simp<;>with_reducible rfl) ?_
 try simp only[pU]
 refine zAf 6 rfl (by kernel_rfl) (fun K hK2=>?_)
 have kk:=HM2b.out.cells 2 _ rfl
 have zz:=HM2b.out.fz
 go_simp
 refine hK2.out _ _ (fun h=>absurd (by decide) h) ?_
 clear hK2 K kk zz
 try simp only[pU]
 refine zAj (by kernel_rfl) ?_ _
 go_wp2
 go_returns
 have hr:=HR2.out
 have q2:=fun (_:false=false)=>HQ2.out (by first | rfl | trivial)
 try simp only[Bool.false_or] at hr
 rw[<-Bool.false_or ((Rd.taggedR t) ((t,c)::r)).isNone] at hr
 have p2:=zAr (u:=fun m x=>{ m with name:=x }) (m:=({ m with kind:=10 }:MT)) q2
 rw[p2.1] at hr
 have eo:Rd.operR m ((t,c)::r)=Rd.updR (Rd.taggedR t) (fun m x=>{ m with name:=x }) ({ m with kind:=10 }:MT) ((t,c)::r):=by unfold Rd.operR;simp only[hKt,hop,if_true]<;>rfl
 rw[<-eo] at hr p2
 exact⟨⟨({ ({ m with kind:=10 }:MT) with name:=x2 }:MT),F2,rfl,HM2.out.mt _,hr,HF2.out,p2.2⟩⟩
theorem oper_abandon (w:World) (lo g b:Nat) (t:UInt8) (c:List UInt8) (r:List Fd) (mb:Nat) (m:MT) (h:RdS w lo g b ((t,c)::r) false) (hm:MtIn0 mb m w) (hmb:mb≠g/\mb≠b/\(mb<lo\/g<mb)) (hop:opV (Rd.kindOf t)=(t.toNat:Int)) (hkk:Rd.kindOf t=16):
  Calls Tryz.prog 82 #[.pointer (some ⟨g,0,none⟩),.pointer (some ⟨mb,0,none⟩)] w (InPost (MtIn mb w.heap.size) (Rd.operR m) w (own3 (fun k=>k=mb) g b) lo g b ((t,c)::r) false):=by
 have hgl:=h.log
 have hlt:=h.lt
 have hbo:=h.blo
 have hml:=hm.blk.lt
 have hfa:Fr (fun _=>False) w (w.alloc (.cells #[.pointer (some ⟨mb,0,none⟩)] 127)):=Fr.alloc _ _ _
 have hcd:(w.alloc (.cells #[.pointer (some ⟨mb,0,none⟩)] 127)).cell? ⟨w.heap.size,0,none⟩=some (.pointer (some ⟨mb,0,none⟩)):=by rw[World.cell?_alloc_at (hn:=by simp)];rfl
 have hk1:(w.alloc (.cells #[.pointer (some ⟨mb,0,none⟩)] 127)).cell? ⟨mb,1,none⟩=some (.int .i64 m.kind):=(hm.fr hfa id).blk.cells 1 _ rfl
 have hkz:=(hm.fr hfa id).blk.fz
 have HM0:=hide (hm.fr hfa id)
 have HR0:=hide (h.fr hfa id id (fun _ _ _=>id))
 have HF0:=hide (hfa.mono (Y:=own3 (fun k=>k=mb) g b) fun _ _ q=>q.elim)
 have hs:(w.alloc (.cells #[.pointer (some ⟨mb,0,none⟩)] 127)).heap.size=w.heap.size+1:=by simp
 obtain⟨w1,hw1⟩:∃w1,w.alloc (.cells #[.pointer (some ⟨mb,0,none⟩)] 127)=w1:=⟨_,rfl⟩
 rw[hw1] at hcd hk1 HM0 HR0 HF0 hs hkz
 obtain⟨pb,hpb⟩:∃pb,w.heap.size=pb:=⟨_,rfl⟩
 rw[hpb] at hcd hs hlt hml
 have Hn:=hide (And.intro hml (And.intro hmb (And.intro hgl (And.intro hlt (And.intro hbo (And.intro hs hpb))))))
 have Hw:=hide hw1
 clear h hm hgl hlt hbo hml hfa hw1 hpb hs hmb
 have hmo:=zA6 w1 lo g b ((t,c)::r) false HR0.out
 rw[show moreB ((t,c)::r) false=true from rfl] at hmo
 obtain⟨gt,ot,ct,gc,oc,cc,Bc,dc,e0,e1,k1,k2,k3,k4,k5⟩:=HR0.out.hd
 obtain⟨n,hn⟩:∃n,r.length+1=n:=⟨_,rfl⟩
 rw[hn] at e0
 have z0:(0:Int)<(n:Int):=by omega
 have zn:0<n:=by omega
 simp only[c8] at k1
 clear e1 k2 k3 k4 k5 hn
 go_enter Tryz.func82,Tryz.ntmps82
 go_upto_region 1 with fail
 rw[Hw.out,Hn.out.2.2.2.2.2.2]
 clear Hw
 go_wp2_with (go_at_call 79;fail)
 refine hmo.mono ?_
 rintro e w9 ⟨rfl,hw9⟩
 obtain rfl:=hw9.symm
 clear hmo
 obtain⟨K,hK⟩:∃K,wrap64 (bits BinOp.and IntKind.u8 (t.toNat:Int) 31)=K:=⟨_,rfl⟩
 have hKt:=(and31 t).symm.trans hK
 rw[hKt] at hop hkk
 obtain⟨ws,hws⟩:∃ws,w1.setCell ⟨mb,1,none⟩ (.int .i64 K)=ws:=⟨_,rfl⟩
 have hfs:Fr (fun k=>k=mb) w1 ws:=by rw[<-hws];exact Fr.setCell w1 ⟨mb,1,none⟩ _ rfl
 have HM1:Hid (MtIn0 mb ({ m with kind:=K }:MT) ws):=hide (by rw[<-hws];exact HM0.out.put 1 (by omega) (.int .i64 K) ⟨rfl,rfl,rfl,rfl,rfl,rfl⟩ (fun _ _ _ _ _ _ _ _ _ _ _ _=>rfl))
 have HR1:=hide (HR0.out.fr hfs (by have:=Hn.out;omega) (by have:=Hn.out;omega) (fun k h1 h2=>by have:=Hn.out;omega))
 have HF1:=hide (HF0.out.trans (hfs.mono (Y:=own3 (fun k=>k=mb) g b) fun _ _ q=>.inr (.inr q)))
 have HP1:=hide ((hfs.cell (p:=⟨pb,0,none⟩) (by have:=Hn.out;simp only;omega) (fun q=>by simp only at q;have:=Hn.out;omega)).trans hcd)
 have HZ1:Hid (pb<ws.heap.size):=hide (by have:=Hn.out;have:=hfs.size;omega)
 have ho:=opTag_any ws K
 rw[hop] at ho
 subst hkk
 have hkc:=HM1.out.blk.cells 1 (.int .i64 16) rfl
 have hpc:=HP1.out
 clear hfs
 go_wp2_with (go_at_call 63;fail)
 try rw[hK]
 try rw[hws]
 refine ho.mono ?_
 rintro e w9 ⟨rfl,hw9⟩
 obtain rfl:=hw9.symm
 clear ho k1 hk1 hcd e0 HM0 HR0 HF0 hkz hK hws z0 zn
 go_wp2_with fail
 clear hkc hpc
 refine zAp (wayC ⟨pb,0,none⟩ (.pointer (some ⟨mb,0,none⟩))) [6] (by kernel_rfl) ?_
 have HRd2:=hide (HR1.out.fr (Fr.drew (fun _=>False) ws) id id (fun _ _ _=>id))
 have HMd2:=hide (HM1.out.fr (Fr.drew (fun _=>False) ws) id)
 have HFd2:=hide (HF1.out.trans (Fr.drew (own3 (fun k=>k=mb) g b) ws))
 have HPd2:Hid (World.cell? (ws).drew ⟨pb,0,none⟩=some (.pointer (some ⟨mb,0,none⟩))):=hide HP1.out
 have HZd2:Hid (pb<(ws).drew.heap.size):=hide HZ1.out
 generalize (ws).drew=W2 at *
 refine zAm 0 (some 49) (v:=?vc20) rfl rfl (by kernel_rfl) rfl (by kernel_rfl) (by rfl) (fun Wq hW=>?yc20) ?_
 case yc20=>
  have cW:Wq.cell? ⟨pb,0,none⟩=some (.pointer (some ⟨mb,0,none⟩)):=hW HPd2.out
  go_simp<;>with_reducible rfl
 try simp only[pU]
 refine zAe 1 (some 50) rfl rfl (by kernel_rfl) rfl (by rfl) (fun Wq=>by go_simp<;>with_reducible rfl) ?_
 try simp only[pU]
 refine zAe 2 (some 51) rfl rfl (by kernel_rfl) rfl (by rfl) (fun Wq=>by go_simp<;>with_reducible rfl) ?_
 try simp only[pU]
 refine zAf 3 rfl (by kernel_rfl) (fun K hK2=>?_)
 go_simp
 refine (zBr W2 lo g b ((t,c)::r) _ t 2147483647 HRd2.out).mono ?_
 rintro e w2 hpost
 obtain⟨x2,v2,F2,rfl,hrep,hr,hf,hq⟩:=hpost.out
 clear hpost
 unfold repI at hrep
 subst hrep
 have hP2:=(hf.cell (p:=⟨pb,0,none⟩) (by have:=HZd2.out;simp only;omega) (by rintro (q | q)<;>(simp only at q;have:=Hn.out;omega))).trans HPd2.out
 have hM2:=HMd2.out.fr hf (by rintro (q | q)<;>(have:=Hn.out;omega))
 have hg:=hr.fr (Fr.setCell (X:=fun k=>k=mb) w2 ⟨mb,26,none⟩ (.int .i64 x2) rfl) (by have:=Hn.out;omega) (by have:=Hn.out;omega) (fun k h1 h2=>by have:=Hn.out;omega)
 have hF2:=(HFd2.out.trans (hf.mono (Y:=own3 (fun k=>k=mb) g b) fun k _ q=>by rcases q with q | q;exact .inl q;exact .inr (.inl q))).trans (Fr.setCell (X:=own3 (fun k=>k=mb) g b) w2 ⟨mb,26,none⟩ (.int .i64 x2) (.inr (.inr rfl)))
 have hZs:=Fr.setCell (X:=fun k=>k=mb) w2 ⟨mb,26,none⟩ (.int .i64 x2) rfl
 have hZ:pb<(w2.setCell ⟨mb,26,none⟩ (.int .i64 x2)).heap.size:=by have:=HZd2.out;have:=hf.size;have:=hZs.size;omega
 have hPz:=(hZs.cell (p:=⟨pb,0,none⟩) (by have:=HZd2.out;have:=hf.size;simp only;omega) (fun q=>by simp only at q;have:=Hn.out;omega)).trans hP2
 have HM2b:=hide hM2.blk
 have HM2:=hide (hM2.put (m':=({ ({ m with kind:=16 }:MT) with target:=x2 }:MT)) 26 (by omega) (.int .i64 x2) ⟨rfl,rfl,rfl,rfl,rfl,rfl⟩ (fun _ _ _ _ _ _ _ _ _ _ _ _=>rfl))
 have HR2:=hide hg
 have HF2:=hide hF2
 have HP2:=hide hPz
 have HZ2:=hide hZ
 have HQ2:=hide hq
 refine hK2.out _ _ (fun _ _=>hP2) ?_
 clear hK2 K hr hf hq hP2 hM2 hg hF2 hPz hZ hZs
 try simp only[pU]
 refine zAe 4 (some 53) rfl rfl (by kernel_rfl) rfl (by rfl) (fun Wq=>by go_simp<;>with_reducible rfl) ?_
 try simp only[pU]
 refine zAe 5 (some 54) rfl rfl (by kernel_rfl) rfl (by rfl) (fun Wq=>by go_simp<;>with_reducible rfl) ?_
 try simp only[pU]
 refine zAf 6 rfl (by kernel_rfl) (fun K hK2=>?_)
 have kk:=HM2b.out.cells 26 _ rfl
 have zz:=HM2b.out.fz
 go_simp
 refine hK2.out _ _ (fun h=>absurd (by decide) h) ?_
 clear hK2 K kk zz
 try simp only[pU]
 refine zAj (by kernel_rfl) ?_ _
 go_wp2
 go_returns
 have hr:=HR2.out
 have q2:=fun (_:false=false)=>HQ2.out (by first | rfl | trivial)
 try simp only[Bool.false_or] at hr
 rw[<-Bool.false_or ((Rd.numR t 2147483647) ((t,c)::r)).isNone] at hr
 have p2:=zAr (u:=fun m x=>{ m with target:=x }) (m:=({ m with kind:=16 }:MT)) q2
 rw[p2.1] at hr
 have eo:Rd.operR m ((t,c)::r)=Rd.updR (Rd.numR t 2147483647) (fun m x=>{ m with target:=x }) ({ m with kind:=16 }:MT) ((t,c)::r):=by unfold Rd.operR;simp only[hKt,hop,if_true]<;>rfl
 rw[<-eo] at hr p2
 exact⟨⟨({ ({ m with kind:=16 }:MT) with target:=x2 }:MT),F2,rfl,HM2.out.mt _,hr,HF2.out,p2.2⟩⟩
theorem oper_reference (w:World) (lo g b:Nat) (t:UInt8) (c:List UInt8) (r:List Fd) (mb:Nat) (m:MT) (h:RdS w lo g b ((t,c)::r) false) (hm:MtIn0 mb m w) (hmb:mb≠g/\mb≠b/\(mb<lo\/g<mb)) (hop:opV (Rd.kindOf t)=(t.toNat:Int)) (hkk:Rd.kindOf t=19):
  Calls Tryz.prog 82 #[.pointer (some ⟨g,0,none⟩),.pointer (some ⟨mb,0,none⟩)] w (InPost (MtIn mb w.heap.size) (Rd.operR m) w (own3 (fun k=>k=mb) g b) lo g b ((t,c)::r) false):=by
 have hgl:=h.log
 have hlt:=h.lt
 have hbo:=h.blo
 have hml:=hm.blk.lt
 have hfa:Fr (fun _=>False) w (w.alloc (.cells #[.pointer (some ⟨mb,0,none⟩)] 127)):=Fr.alloc _ _ _
 have hcd:(w.alloc (.cells #[.pointer (some ⟨mb,0,none⟩)] 127)).cell? ⟨w.heap.size,0,none⟩=some (.pointer (some ⟨mb,0,none⟩)):=by rw[World.cell?_alloc_at (hn:=by simp)];rfl
 have hk1:(w.alloc (.cells #[.pointer (some ⟨mb,0,none⟩)] 127)).cell? ⟨mb,1,none⟩=some (.int .i64 m.kind):=(hm.fr hfa id).blk.cells 1 _ rfl
 have hkz:=(hm.fr hfa id).blk.fz
 have HM0:=hide (hm.fr hfa id)
 have HR0:=hide (h.fr hfa id id (fun _ _ _=>id))
 have HF0:=hide (hfa.mono (Y:=own3 (fun k=>k=mb) g b) fun _ _ q=>q.elim)
 have hs:(w.alloc (.cells #[.pointer (some ⟨mb,0,none⟩)] 127)).heap.size=w.heap.size+1:=by simp
 obtain⟨w1,hw1⟩:∃w1,w.alloc (.cells #[.pointer (some ⟨mb,0,none⟩)] 127)=w1:=⟨_,rfl⟩
 rw[hw1] at hcd hk1 HM0 HR0 HF0 hs hkz
 obtain⟨pb,hpb⟩:∃pb,w.heap.size=pb:=⟨_,rfl⟩
 rw[hpb] at hcd hs hlt hml
 have Hn:=hide (And.intro hml (And.intro hmb (And.intro hgl (And.intro hlt (And.intro hbo (And.intro hs hpb))))))
 have Hw:=hide hw1
 clear h hm hgl hlt hbo hml hfa hw1 hpb hs hmb
 have hmo:=zA6 w1 lo g b ((t,c)::r) false HR0.out
 rw[show moreB ((t,c)::r) false=true from rfl] at hmo
 obtain⟨gt,ot,ct,gc,oc,cc,Bc,dc,e0,e1,k1,k2,k3,k4,k5⟩:=HR0.out.hd
 obtain⟨n,hn⟩:∃n,r.length+1=n:=⟨_,rfl⟩
 rw[hn] at e0
 have z0:(0:Int)<(n:Int):=by omega
 have zn:0<n:=by omega
 simp only[c8] at k1
 clear e1 k2 k3 k4 k5 hn
 go_enter Tryz.func82,Tryz.ntmps82
 go_upto_region 1 with fail
 rw[Hw.out,Hn.out.2.2.2.2.2.2]
 clear Hw
 go_wp2_with (go_at_call 79;fail)
 refine hmo.mono ?_
 rintro e w9 ⟨rfl,hw9⟩
 obtain rfl:=hw9.symm
 clear hmo
 obtain⟨K,hK⟩:∃K,wrap64 (bits BinOp.and IntKind.u8 (t.toNat:Int) 31)=K:=⟨_,rfl⟩
 have hKt:=(and31 t).symm.trans hK
 rw[hKt] at hop hkk
 obtain⟨ws,hws⟩:∃ws,w1.setCell ⟨mb,1,none⟩ (.int .i64 K)=ws:=⟨_,rfl⟩
 have hfs:Fr (fun k=>k=mb) w1 ws:=by rw[<-hws];exact Fr.setCell w1 ⟨mb,1,none⟩ _ rfl
 have HM1:Hid (MtIn0 mb ({ m with kind:=K }:MT) ws):=hide (by rw[<-hws];exact HM0.out.put 1 (by omega) (.int .i64 K) ⟨rfl,rfl,rfl,rfl,rfl,rfl⟩ (fun _ _ _ _ _ _ _ _ _ _ _ _=>rfl))
 have HR1:=hide (HR0.out.fr hfs (by have:=Hn.out;omega) (by have:=Hn.out;omega) (fun k h1 h2=>by have:=Hn.out;omega))
 have HF1:=hide (HF0.out.trans (hfs.mono (Y:=own3 (fun k=>k=mb) g b) fun _ _ q=>.inr (.inr q)))
 have HP1:=hide ((hfs.cell (p:=⟨pb,0,none⟩) (by have:=Hn.out;simp only;omega) (fun q=>by simp only at q;have:=Hn.out;omega)).trans hcd)
 have HZ1:Hid (pb<ws.heap.size):=hide (by have:=Hn.out;have:=hfs.size;omega)
 have ho:=opTag_any ws K
 rw[hop] at ho
 subst hkk
 have hkc:=HM1.out.blk.cells 1 (.int .i64 19) rfl
 have hpc:=HP1.out
 clear hfs
 go_wp2_with (go_at_call 63;fail)
 try rw[hK]
 try rw[hws]
 refine ho.mono ?_
 rintro e w9 ⟨rfl,hw9⟩
 obtain rfl:=hw9.symm
 clear ho k1 hk1 hcd e0 HM0 HR0 HF0 hkz hK hws z0 zn
 go_wp2_with fail
 clear hkc hpc
 refine zAp (wayC ⟨pb,0,none⟩ (.pointer (some ⟨mb,0,none⟩))) [6] (by kernel_rfl) ?_
 have HRd2:=hide (HR1.out.fr (Fr.drew (fun _=>False) ws) id id (fun _ _ _=>id))
 have HMd2:=hide (HM1.out.fr (Fr.drew (fun _=>False) ws) id)
 have HFd2:=hide (HF1.out.trans (Fr.drew (own3 (fun k=>k=mb) g b) ws))
 have HPd2:Hid (World.cell? (ws).drew ⟨pb,0,none⟩=some (.pointer (some ⟨mb,0,none⟩))):=hide HP1.out
 have HZd2:Hid (pb<(ws).drew.heap.size):=hide HZ1.out
 generalize (ws).drew=W2 at *
 refine zAm 0 (some 57) (v:=?vc20) rfl rfl (by kernel_rfl) rfl (by kernel_rfl) (by rfl) (fun Wq hW=>?yc20) ?_
 case yc20=>
  have cW:Wq.cell? ⟨pb,0,none⟩=some (.pointer (some ⟨mb,0,none⟩)):=hW HPd2.out
  go_simp<;>with_reducible rfl
 try simp only[pU]
 refine zAe 1 (some 58) rfl rfl (by kernel_rfl) rfl (by rfl) (fun Wq=>by go_simp<;>with_reducible rfl) ?_
 try simp only[pU]
 refine zAe 2 (some 59) rfl rfl (by kernel_rfl) rfl (by rfl) (fun Wq=>by go_simp<;>with_reducible rfl) ?_
 try simp only[pU]
 refine zAf 3 rfl (by kernel_rfl) (fun K hK2=>?_)
 go_simp
 refine (someT_any Rd.textR text_eats W2 lo g b ((t,c)::r) _ t HRd2.out (readsT _ b)).mono ?_
 rintro e w2 hpost
 obtain⟨x2,v2,F2,rfl,hrep,hr,hf,hq⟩:=hpost.out
 clear hpost
 have hrepx:=hrep
 obtain⟨A2,c2,xs2,rfl,-⟩:=hrepx
 have hP2:=(hf.cell (p:=⟨pb,0,none⟩) (by have:=HZd2.out;simp only;omega) (by rintro (q | q)<;>(simp only at q;have:=Hn.out;omega))).trans HPd2.out
 have hM2:=HMd2.out.fr hf (by rintro (q | q)<;>(have:=Hn.out;omega))
 have hg:=hr.fr (Fr.setCell (X:=fun k=>k=mb) w2 ⟨mb,30,none⟩ (.slice A2 x2.length c2) rfl) (by have:=Hn.out;omega) (by have:=Hn.out;omega) (fun k h1 h2=>by have:=Hn.out;omega)
 have hF2:=(HFd2.out.trans (hf.mono (Y:=own3 (fun k=>k=mb) g b) fun k _ q=>by rcases q with q | q;exact .inl q;exact .inr (.inl q))).trans (Fr.setCell (X:=own3 (fun k=>k=mb) g b) w2 ⟨mb,30,none⟩ (.slice A2 x2.length c2) (.inr (.inr rfl)))
 have hZs:=Fr.setCell (X:=fun k=>k=mb) w2 ⟨mb,30,none⟩ (.slice A2 x2.length c2) rfl
 have hZ:pb<(w2.setCell ⟨mb,30,none⟩ (.slice A2 x2.length c2)).heap.size:=by have:=HZd2.out;have:=hf.size;have:=hZs.size;omega
 have hPz:=(hZs.cell (p:=⟨pb,0,none⟩) (by have:=HZd2.out;have:=hf.size;simp only;omega) (fun q=>by simp only at q;have:=Hn.out;omega)).trans hP2
 have HM2b:=hide hM2.blk
 have HM2:=hide ((hM2.mt pb).putRefs (by have:=Hn.out;omega) (zA7 (fun _ _=>rfl) (fun k hk=>⟨by have:=HZd2.out;omega,hk.2⟩) hrep))
 clear hrep
 have HR2:=hide hg
 have HF2:=hide hF2
 have HP2:=hide hPz
 have HZ2:=hide hZ
 have HQ2:=hide hq
 refine hK2.out _ _ (fun _ _=>hP2) ?_
 clear hK2 K hr hf hq hP2 hM2 hg hF2 hPz hZ hZs
 try simp only[pU]
 refine zAe 4 (some 61) rfl rfl (by kernel_rfl) rfl (by rfl) (fun Wq=>by go_simp<;>with_reducible rfl) ?_
 try simp only[pU]
 refine zAe 5 (some 62) rfl rfl (by kernel_rfl) rfl (by rfl) (fun Wq=>by go_simp<;>with_reducible rfl) ?_
 try simp only[pU]
 refine zAf 6 rfl (by kernel_rfl) (fun K hK2=>?_)
 have kk:=HM2b.out.cells 30 _ rfl
 have zz:=HM2b.out.fz
 go_simp
 refine hK2.out _ _ (fun h=>absurd (by decide) h) ?_
 clear hK2 K kk zz
 try simp only[pU]
 refine zAj (by kernel_rfl) ?_ _
 go_wp2
 go_returns
 have hr:=HR2.out
 have q2:=fun (_:false=false)=>HQ2.out (by first | rfl | trivial)
 try simp only[Bool.false_or] at hr
 rw[<-Bool.false_or ((Rd.someR t Rd.textR) ((t,c)::r)).isNone] at hr
 have p2:=zAr (u:=fun m x=>{ m with refs:=x }) (m:=({ m with kind:=19 }:MT)) q2
 rw[p2.1] at hr
 have eo:Rd.operR m ((t,c)::r)=Rd.updR (Rd.someR t Rd.textR) (fun m x=>{ m with refs:=x }) ({ m with kind:=19 }:MT) ((t,c)::r):=by unfold Rd.operR;simp only[hKt,hop,if_true]<;>rfl
 rw[<-eo] at hr p2
 exact⟨⟨({ ({ m with kind:=19 }:MT) with refs:=x2 }:MT),F2,rfl,by rw[Hn.out.2.2.2.2.2.2];exact HM2.out,hr,HF2.out,p2.2⟩⟩
theorem operCl (w:World) (b mb pb:Nat) (m:MT) (hm:MtIn0 mb m w) (hp:w.cell? ⟨pb,0,none⟩=some (.pointer (some ⟨mb,0,none⟩))) (hpb:pb<w.heap.size) (hne:mb≠b/\pb≠b/\pb≠mb):
  ClosedBy (fun (x:MT) W=>MtIn mb pb x W) (fun k=>k=mb) (Rd.contentR m) w b 131 #[.pointer (some ⟨pb,0,none⟩)]:=by
 intro W lo g F φ hfr hwl hr
 have hml:=hm.blk.lt
 have hc:=content_any W lo g b F φ mb m hr (hm.fr hfr (fun e=>hne.1 e)) ⟨by have:=hr.log;omega,hne.1,by omega⟩
 have hp2:=(hfr.cell (p:=⟨pb,0,none⟩) hpb hne.2.1).trans hp
 have hle:pb<=W.heap.size:=by have:=hr.log;have:=hr.lt;omega
 have Hc:=hide hc
 have Hle:=hide hle
 try simp only[List.append_toArray,List.cons_append,List.nil_append]
 clear hfr hwl hr hm hp hpb hne hml hc hle
 go_enter Tryz.func131,Tryz.ntmps131
 go_wp2_with (go_at_call 132;fail)
 refine Hc.out.mono ?_
 rintro e w5 hpost
 obtain⟨x,F5,rfl,hst,hr5,hf5,hq5⟩:=hpost.out
 clear hpost
 have HS:=hide hst
 have HR5:=hide hr5
 have HF5:=hide hf5
 have HQ5:=hide hq5
 clear hst hr5 hf5 hq5
 go_wp2
 go_returns
 exact⟨⟨x,F5,rfl,HS.out.down Hle.out,HR5.out,HF5.out,HQ5.out⟩⟩
theorem oper_content (w:World) (lo g b:Nat) (t:UInt8) (c:List UInt8) (r:List Fd) (mb:Nat) (m:MT) (h:RdS w lo g b ((t,c)::r) false) (hm:MtIn0 mb m w) (hmb:mb≠g/\mb≠b/\(mb<lo\/g<mb)) (hop:opV (Rd.kindOf t)=(t.toNat:Int)) (hkk:Rd.kindOf t≠10/\Rd.kindOf t≠16/\Rd.kindOf t≠19):
  Calls Tryz.prog 82 #[.pointer (some ⟨g,0,none⟩),.pointer (some ⟨mb,0,none⟩)] w (InPost (MtIn mb w.heap.size) (Rd.operR m) w (own3 (fun k=>k=mb) g b) lo g b ((t,c)::r) false):=by
 have hgl:=h.log
 have hlt:=h.lt
 have hbo:=h.blo
 have hml:=hm.blk.lt
 have hfa:Fr (fun _=>False) w (w.alloc (.cells #[.pointer (some ⟨mb,0,none⟩)] 127)):=Fr.alloc _ _ _
 have hcd:(w.alloc (.cells #[.pointer (some ⟨mb,0,none⟩)] 127)).cell? ⟨w.heap.size,0,none⟩=some (.pointer (some ⟨mb,0,none⟩)):=by rw[World.cell?_alloc_at (hn:=by simp)];rfl
 have hk1:(w.alloc (.cells #[.pointer (some ⟨mb,0,none⟩)] 127)).cell? ⟨mb,1,none⟩=some (.int .i64 m.kind):=(hm.fr hfa id).blk.cells 1 _ rfl
 have hkz:=(hm.fr hfa id).blk.fz
 have HM0:=hide (hm.fr hfa id)
 have HR0:=hide (h.fr hfa id id (fun _ _ _=>id))
 have HF0:=hide (hfa.mono (Y:=own3 (fun k=>k=mb) g b) fun _ _ q=>q.elim)
 have hs:(w.alloc (.cells #[.pointer (some ⟨mb,0,none⟩)] 127)).heap.size=w.heap.size+1:=by simp
 obtain⟨w1,hw1⟩:∃w1,w.alloc (.cells #[.pointer (some ⟨mb,0,none⟩)] 127)=w1:=⟨_,rfl⟩
 rw[hw1] at hcd hk1 HM0 HR0 HF0 hs hkz
 obtain⟨pb,hpb⟩:∃pb,w.heap.size=pb:=⟨_,rfl⟩
 rw[hpb] at hcd hs hlt hml
 have Hn:=hide (And.intro hml (And.intro hmb (And.intro hgl (And.intro hlt (And.intro hbo (And.intro hs hpb))))))
 have Hw:=hide hw1
 clear h hm hgl hlt hbo hml hfa hw1 hpb hs hmb
 have hmo:=zA6 w1 lo g b ((t,c)::r) false HR0.out
 rw[show moreB ((t,c)::r) false=true from rfl] at hmo
 obtain⟨gt,ot,ct,gc,oc,cc,Bc,dc,e0,e1,k1,k2,k3,k4,k5⟩:=HR0.out.hd
 obtain⟨n,hn⟩:∃n,r.length+1=n:=⟨_,rfl⟩
 rw[hn] at e0
 have z0:(0:Int)<(n:Int):=by omega
 have zn:0<n:=by omega
 simp only[c8] at k1
 clear e1 k2 k3 k4 k5 hn
 go_enter Tryz.func82,Tryz.ntmps82
 go_upto_region 1 with fail
 rw[Hw.out,Hn.out.2.2.2.2.2.2]
 clear Hw
 go_wp2_with (go_at_call 79;fail)
 refine hmo.mono ?_
 rintro e w9 ⟨rfl,hw9⟩
 obtain rfl:=hw9.symm
 clear hmo
 obtain⟨K,hK⟩:∃K,wrap64 (bits BinOp.and IntKind.u8 (t.toNat:Int) 31)=K:=⟨_,rfl⟩
 have hKt:=(and31 t).symm.trans hK
 rw[hKt] at hop hkk
 obtain⟨ws,hws⟩:∃ws,w1.setCell ⟨mb,1,none⟩ (.int .i64 K)=ws:=⟨_,rfl⟩
 have hfs:Fr (fun k=>k=mb) w1 ws:=by rw[<-hws];exact Fr.setCell w1 ⟨mb,1,none⟩ _ rfl
 have HM1:Hid (MtIn0 mb ({ m with kind:=K }:MT) ws):=hide (by rw[<-hws];exact HM0.out.put 1 (by omega) (.int .i64 K) ⟨rfl,rfl,rfl,rfl,rfl,rfl⟩ (fun _ _ _ _ _ _ _ _ _ _ _ _=>rfl))
 have HR1:=hide (HR0.out.fr hfs (by have:=Hn.out;omega) (by have:=Hn.out;omega) (fun k h1 h2=>by have:=Hn.out;omega))
 have HF1:=hide (HF0.out.trans (hfs.mono (Y:=own3 (fun k=>k=mb) g b) fun _ _ q=>.inr (.inr q)))
 have HP1:=hide ((hfs.cell (p:=⟨pb,0,none⟩) (by have:=Hn.out;simp only;omega) (fun q=>by simp only at q;have:=Hn.out;omega)).trans hcd)
 have HZ1:Hid (pb<ws.heap.size):=hide (by have:=Hn.out;have:=hfs.size;omega)
 have ho:=opTag_any ws K
 rw[hop] at ho
 have e10:(K==10)=false:=beq_false_of_ne hkk.1
 have e16:(K==16)=false:=beq_false_of_ne hkk.2.1
 have e19:(K==19)=false:=beq_false_of_ne hkk.2.2
 have Hkk:=hide hkk
 have Hop:=hide hop
 clear hkk hop
 have hkc:=HM1.out.blk.cells 1 (.int .i64 K) rfl
 have hpc:=HP1.out
 clear hfs
 go_wp2_with (go_at_call 63;fail)
 try rw[hK]
 try rw[hws]
 refine ho.mono ?_
 rintro e w9 ⟨rfl,hw9⟩
 obtain rfl:=hw9.symm
 clear ho k1 hk1 hcd e0 HM0 HR0 HF0 hkz hK hws z0 zn
 have hin:=zBk (fun (x:MT) W=>MtIn mb pb x W) (fun k=>k=mb) (Rd.contentR ({ m with kind:=K }:MT)) ws lo g b ((t,c)::r) false t 131 #[.pointer (some ⟨pb,0,none⟩)] (fun args w=>by go_simp) HR1.out (fun W hW=>operCl W b mb pb ({ m with kind:=K }:MT) (HM1.out.fr hW (by rintro (q | q)<;>(have:=Hn.out;omega))) ((hW.cell (p:=⟨pb,0,none⟩) HZ1.out (by rintro (q | q)<;>(simp only at q;have:=Hn.out;omega))).trans HP1.out) (by have:=HZ1.out;have:=hW.size;omega) ⟨by have:=Hn.out;omega,by have:=Hn.out;omega,by have:=Hn.out;omega⟩) (fun x W W' q1 q2=>q1.fr q2 (by have:=Hn.out;omega) (fun k hk=>by have:=Hn.out;omega)) (fun k hk=>⟨by have:=HZ1.out;have:=Hn.out;omega,by have:=Hn.out;omega,by have:=Hn.out;omega⟩)
 simp only[c8] at hin
 have Hin:=hide hin
 clear hin
 go_wp2_with (go_at_call 28;fail)
 refine Hin.out.mono ?_
 rintro e w5 hpost
 obtain⟨x,F5,rfl,hst,hr5,hf5,hq5⟩:=hpost.out
 clear hpost Hin
 have HS:=hide hst
 have HR5:=hide hr5
 have HF5:=hide (HF1.out.trans hf5)
 have HQ5:=hide hq5
 clear hst hr5 hf5 hq5 hkc hpc e10 e16 e19
 go_wp2
 go_returns
 have q5:=fun (_:false=false)=>HQ5.out (by first | rfl | trivial)
 have p5:=zAr (u:=fun (_:MT) (x:MT)=>x) (m:=({ m with kind:=K }:MT)) q5
 have hr:=HR5.out
 try simp only[Bool.false_or] at hr
 rw[<-Bool.false_or (Rd.innerR t (Rd.contentR ({ m with kind:=K }:MT)) ((t,c)::r)).isNone] at hr
 rw[p5.1] at hr
 have eo:Rd.operR m ((t,c)::r)=Rd.updR (Rd.innerR t (Rd.contentR ({ m with kind:=K }:MT))) (fun _ x=>x) ({ m with kind:=K }:MT) ((t,c)::r):=by unfold Rd.operR;simp only[hKt,Hop.out,if_true,if_neg Hkk.out.1,if_neg Hkk.out.2.1,if_neg Hkk.out.2.2]
 rw[<-eo] at hr p5
 exact⟨⟨x,F5,rfl,by rw[Hn.out.2.2.2.2.2.2];exact HS.out,hr,HF5.out,p5.2⟩⟩
theorem oper_none (w:World) (lo g b:Nat) (t:UInt8) (c:List UInt8) (r:List Fd) (mb:Nat) (m:MT) (h:RdS w lo g b ((t,c)::r) false) (hm:MtIn0 mb m w) (hmb:mb≠g/\mb≠b/\(mb<lo\/g<mb)) (hop:opV (Rd.kindOf t)≠(t.toNat:Int)) (hkk:True):
  Calls Tryz.prog 82 #[.pointer (some ⟨g,0,none⟩),.pointer (some ⟨mb,0,none⟩)] w (InPost (MtIn mb w.heap.size) (Rd.operR m) w (own3 (fun k=>k=mb) g b) lo g b ((t,c)::r) false):=by
 have hgl:=h.log
 have hlt:=h.lt
 have hbo:=h.blo
 have hml:=hm.blk.lt
 have hfa:Fr (fun _=>False) w (w.alloc (.cells #[.pointer (some ⟨mb,0,none⟩)] 127)):=Fr.alloc _ _ _
 have hcd:(w.alloc (.cells #[.pointer (some ⟨mb,0,none⟩)] 127)).cell? ⟨w.heap.size,0,none⟩=some (.pointer (some ⟨mb,0,none⟩)):=by rw[World.cell?_alloc_at (hn:=by simp)];rfl
 have hk1:(w.alloc (.cells #[.pointer (some ⟨mb,0,none⟩)] 127)).cell? ⟨mb,1,none⟩=some (.int .i64 m.kind):=(hm.fr hfa id).blk.cells 1 _ rfl
 have hkz:=(hm.fr hfa id).blk.fz
 have HM0:=hide (hm.fr hfa id)
 have HR0:=hide (h.fr hfa id id (fun _ _ _=>id))
 have HF0:=hide (hfa.mono (Y:=own3 (fun k=>k=mb) g b) fun _ _ q=>q.elim)
 have hs:(w.alloc (.cells #[.pointer (some ⟨mb,0,none⟩)] 127)).heap.size=w.heap.size+1:=by simp
 obtain⟨w1,hw1⟩:∃w1,w.alloc (.cells #[.pointer (some ⟨mb,0,none⟩)] 127)=w1:=⟨_,rfl⟩
 rw[hw1] at hcd hk1 HM0 HR0 HF0 hs hkz
 obtain⟨pb,hpb⟩:∃pb,w.heap.size=pb:=⟨_,rfl⟩
 rw[hpb] at hcd hs hlt hml
 have Hn:=hide (And.intro hml (And.intro hmb (And.intro hgl (And.intro hlt (And.intro hbo (And.intro hs hpb))))))
 have Hw:=hide hw1
 clear h hm hgl hlt hbo hml hfa hw1 hpb hs hmb
 have hmo:=zA6 w1 lo g b ((t,c)::r) false HR0.out
 rw[show moreB ((t,c)::r) false=true from rfl] at hmo
 obtain⟨gt,ot,ct,gc,oc,cc,Bc,dc,e0,e1,k1,k2,k3,k4,k5⟩:=HR0.out.hd
 obtain⟨n,hn⟩:∃n,r.length+1=n:=⟨_,rfl⟩
 rw[hn] at e0
 have z0:(0:Int)<(n:Int):=by omega
 have zn:0<n:=by omega
 simp only[c8] at k1
 clear e1 k2 k3 k4 k5 hn
 go_enter Tryz.func82,Tryz.ntmps82
 go_upto_region 1 with fail
 rw[Hw.out,Hn.out.2.2.2.2.2.2]
 clear Hw
 go_wp2_with (go_at_call 79;fail)
 refine hmo.mono ?_
 rintro e w9 ⟨rfl,hw9⟩
 obtain rfl:=hw9.symm
 clear hmo
 obtain⟨K,hK⟩:∃K,wrap64 (bits BinOp.and IntKind.u8 (t.toNat:Int) 31)=K:=⟨_,rfl⟩
 have hKt:=(and31 t).symm.trans hK
 rw[hKt] at hop
 obtain⟨ws,hws⟩:∃ws,w1.setCell ⟨mb,1,none⟩ (.int .i64 K)=ws:=⟨_,rfl⟩
 have hfs:Fr (fun k=>k=mb) w1 ws:=by rw[<-hws];exact Fr.setCell w1 ⟨mb,1,none⟩ _ rfl
 have HM1:Hid (MtIn0 mb ({ m with kind:=K }:MT) ws):=hide (by rw[<-hws];exact HM0.out.put 1 (by omega) (.int .i64 K) ⟨rfl,rfl,rfl,rfl,rfl,rfl⟩ (fun _ _ _ _ _ _ _ _ _ _ _ _=>rfl))
 have HR1:=hide (HR0.out.fr hfs (by have:=Hn.out;omega) (by have:=Hn.out;omega) (fun k h1 h2=>by have:=Hn.out;omega))
 have HF1:=hide (HF0.out.trans (hfs.mono (Y:=own3 (fun k=>k=mb) g b) fun _ _ q=>.inr (.inr q)))
 have HP1:=hide ((hfs.cell (p:=⟨pb,0,none⟩) (by have:=Hn.out;simp only;omega) (fun q=>by simp only at q;have:=Hn.out;omega)).trans hcd)
 have HZ1:Hid (pb<ws.heap.size):=hide (by have:=Hn.out;have:=hfs.size;omega)
 have ho:=opTag_any ws K
 obtain⟨ov,hov⟩:∃ov,opV K=ov:=⟨_,rfl⟩
 have Hop:=hide hop
 rw[hov] at ho hop
 have eov:(ov==(t.toNat:Int))=false:=beq_false_of_ne hop
 have eow:(ov !=(t.toNat:Int))=true:=bne_iff_ne.2 hop
 clear hkk hov
 have hkc:=HM1.out.blk.cells 1 (.int .i64 K) rfl
 have hpc:=HP1.out
 clear hfs
 go_wp2_with (go_at_call 63;fail)
 try rw[hK]
 try rw[hws]
 refine ho.mono ?_
 rintro e w9 ⟨rfl,hw9⟩
 obtain rfl:=hw9.symm
 clear ho k1 hk1 hcd e0 HM0 HR0 HF0 hkz hK hws z0 zn
 have hfl:=zBi ws lo g b ((t,c)::r) false HR1.out
 go_wp2_with (go_at_call 78;fail)
 refine hfl.mono ?_
 rintro e w3 ⟨rfl,hr3,hf3⟩
 have HM3:=hide (HM1.out.fr hf3 (by rintro (q | q)<;>(have:=Hn.out;omega)))
 have HF3:=hide (HF1.out.trans (hf3.mono (Y:=own3 (fun k=>k=mb) g b) fun k _ q=>by rcases q with q | q;exact .inl q;exact .inr (.inl q)))
 have HR3:=hide hr3
 clear hr3 hf3 hfl
 go_wp2
 go_returns
 have eo:Rd.operR m ((t,c)::r)=none:=by unfold Rd.operR;simp only[hKt,if_neg Hop.out]
 exact⟨⟨({ m with kind:=K }:MT),((t,c)::r),rfl,HM3.out.mt _,by rw[eo];exact HR3.out,HF3.out,fun _ x0 F0 h0=>by rw[eo] at h0;cases h0⟩⟩
theorem oper_nofield (w:World) (lo g b:Nat) (F:List Fd) (φ:Bool) (mb:Nat) (m:MT) (h:RdS w lo g b F φ) (hm:MtIn0 mb m w) (hmb:mb≠g/\mb≠b/\(mb<lo\/g<mb)) (hmf:moreB F φ=false):
  Calls Tryz.prog 82 #[.pointer (some ⟨g,0,none⟩),.pointer (some ⟨mb,0,none⟩)] w (InPost (MtIn mb w.heap.size) (Rd.operR m) w (own3 (fun k=>k=mb) g b) lo g b F φ):=by
 have hgl:=h.log
 have hlt:=h.lt
 have hbo:=h.blo
 have hml:=hm.blk.lt
 have hfa:Fr (fun _=>False) w (w.alloc (.cells #[.pointer (some ⟨mb,0,none⟩)] 127)):=Fr.alloc _ _ _
 have hcd:(w.alloc (.cells #[.pointer (some ⟨mb,0,none⟩)] 127)).cell? ⟨w.heap.size,0,none⟩=some (.pointer (some ⟨mb,0,none⟩)):=by rw[World.cell?_alloc_at (hn:=by simp)];rfl
 have hk1:(w.alloc (.cells #[.pointer (some ⟨mb,0,none⟩)] 127)).cell? ⟨mb,1,none⟩=some (.int .i64 m.kind):=(hm.fr hfa id).blk.cells 1 _ rfl
 have hkz:=(hm.fr hfa id).blk.fz
 have HM0:=hide (hm.fr hfa id)
 have HR0:=hide (h.fr hfa id id (fun _ _ _=>id))
 have HF0:=hide (hfa.mono (Y:=own3 (fun k=>k=mb) g b) fun _ _ q=>q.elim)
 have hs:(w.alloc (.cells #[.pointer (some ⟨mb,0,none⟩)] 127)).heap.size=w.heap.size+1:=by simp
 obtain⟨w1,hw1⟩:∃w1,w.alloc (.cells #[.pointer (some ⟨mb,0,none⟩)] 127)=w1:=⟨_,rfl⟩
 rw[hw1] at hcd hk1 HM0 HR0 HF0 hs hkz
 obtain⟨pb,hpb⟩:∃pb,w.heap.size=pb:=⟨_,rfl⟩
 rw[hpb] at hcd hs hlt hml
 have Hn:=hide (And.intro hml (And.intro hmb (And.intro hgl (And.intro hlt (And.intro hbo (And.intro hs hpb))))))
 have Hw:=hide hw1
 clear h hm hgl hlt hbo hml hfa hw1 hpb hs hmb
 have hmo:=zA6 w1 lo g b F φ HR0.out
 rw[hmf] at hmo
 go_enter Tryz.func82,Tryz.ntmps82
 go_upto_region 1 with fail
 rw[Hw.out,Hn.out.2.2.2.2.2.2]
 clear Hw
 go_wp2_with (go_at_call 79;fail)
 refine hmo.mono ?_
 rintro e w9 ⟨rfl,hw9⟩
 obtain rfl:=hw9.symm
 clear hmo
 have hfl:=zBi w1 lo g b F φ HR0.out
 go_wp2_with (go_at_call 78;fail)
 refine hfl.mono ?_
 rintro e w3 ⟨rfl,hr3,hf3⟩
 have HM3:=hide (HM0.out.fr hf3 (by rintro (q | q)<;>(have:=Hn.out;omega)))
 have HF3:=hide (HF0.out.trans (hf3.mono (Y:=own3 (fun k=>k=mb) g b) fun k _ q=>by rcases q with q | q;exact .inl q;exact .inr (.inl q)))
 have HR3:=hide hr3
 clear hr3 hf3 hfl
 go_wp2
 go_returns
 have eo:(φ||(Rd.operR m F).isNone)=true/\(φ=false->∀x0 F0,Rd.operR m F=some (x0,F0)->m=x0/\F=F0):=by
  cases φ with
  | true=>exact⟨rfl,fun h=>by cases h⟩
  | false=>cases F with
   | nil=>exact⟨rfl,fun _ x0 F0 h0=>by cases h0⟩
   | cons f r=>cases hmf
 exact⟨⟨m,F,rfl,HM3.out.mt _,by rw[eo.1];exact HR3.out,HF3.out,eo.2⟩⟩
theorem operation_any (w:World) (lo g b:Nat) (F:List Fd) (φ:Bool) (mb:Nat) (m:MT) (h:RdS w lo g b F φ) (hm:MtIn0 mb m w) (hmb:mb≠g/\mb≠b/\(mb<lo\/g<mb)):
  Calls Tryz.prog 82 #[.pointer (some ⟨g,0,none⟩),.pointer (some ⟨mb,0,none⟩)] w (InPost (MtIn mb w.heap.size) (Rd.operR m) w (own3 (fun k=>k=mb) g b) lo g b F φ):=by
 cases hmf:moreB F φ with
 | false=>exact oper_nofield w lo g b F φ mb m h hm hmb hmf
 | true=>
  obtain⟨rfl,hne⟩:=more_yes hmf
  obtain⟨⟨t,c⟩,r,rfl⟩:=List.exists_cons_of_ne_nil hne
  by_cases hop:opV (Rd.kindOf t)=(t.toNat:Int)
  ·by_cases h10:Rd.kindOf t=10
   ·exact oper_remove w lo g b t c r mb m h hm hmb hop h10
   ·by_cases h16:Rd.kindOf t=16
    ·exact oper_abandon w lo g b t c r mb m h hm hmb hop h16
    ·by_cases h19:Rd.kindOf t=19
     ·exact oper_reference w lo g b t c r mb m h hm hmb hop h19
     ·exact oper_content w lo g b t c r mb m h hm hmb hop ⟨h10,h16,h19⟩
  ·exact oper_none w lo g b t c r mb m h hm hmb hop trivial
end Go.Proofs.YtcpjmgfloimfhaaGreat
