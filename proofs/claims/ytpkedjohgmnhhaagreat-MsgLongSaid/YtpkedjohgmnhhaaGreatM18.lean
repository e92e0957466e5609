/- Several texts in one: LOper2, LOper3. By an AI agent. -/
import Derived.Test.YtpkedjohgmnhhaaGreatM17
set_option maxRecDepth 100000
set_option maxHeartbeats 32000000
set_option linter.unusedSimpArgs false
namespace Go.Proofs.YtpkedjohgmnhhaaGreat
open Go.RowKit
set_option linter.unusedVariables false
theorem operCl (w:World) (b mb pb:Nat) (m:MT) (hm:MtIn0 mb m w) (hp:w.cell? ⟨pb,0,none⟩=some (.pointer (some ⟨mb,0,none⟩))) (hpb:pb<w.heap.size) (hne:mb≠b∧pb≠b∧pb≠mb):
  ClosedBy (fun (x:MT) W=>MtIn mb pb x W) (fun k=>k=mb) (Rd.contentR m) w b 131 #[.pointer (some ⟨pb,0,none⟩)]:=by
 intro W lo g F φ hfr hwl hr
 have hml:=hm.blk.lt
 have hc:=content_any W lo g b F φ mb m hr (hm.fr hfr (fun e=>hne.1 e)) ⟨by have:=hr.log;omega,hne.1,by omega⟩
 have hp2:=(hfr.cell (p:=⟨pb,0,none⟩) hpb hne.2.1).trans hp
 have hle:pb≤W.heap.size:=by have:=hr.log;have:=hr.lt;omega
 have Hc:=hide hc
 have Hle:=hide hle
 try simp only[List.append_toArray,List.cons_append,List.nil_append]
 clear hfr hwl hr hm hp hpb hne hml hc hle
 go_enter Tryz.func131,Tryz.ntmps131
 go_wp2_with (go_at_call 132;fail)
 refine Hc.out.mono ?_
 rintro e w5 hpost
 obtain⟨x,F5,rfl,hst,hr5,hf5,hq5⟩:=hpost.out
 clear hpost
 have HS:=hide hst
 have HR5:=hide hr5
 have HF5:=hide hf5
 have HQ5:=hide hq5
 clear hst hr5 hf5 hq5
 go_wp2
 go_returns
 exact⟨⟨x,F5,rfl,HS.out.down Hle.out,HR5.out,HF5.out,HQ5.out⟩⟩
theorem oper_content (w:World) (lo g b:Nat) (t:UInt8) (c:List UInt8) (r:List Fd) (mb:Nat) (m:MT) (h:RdS w lo g b ((t,c)::r) false) (hm:MtIn0 mb m w) (hmb:mb≠g∧mb≠b∧(mb<lo∨g<mb)) (hop:opV (Rd.kindOf t)=(t.toNat:Int)) (hkk:Rd.kindOf t≠10∧Rd.kindOf t≠16∧Rd.kindOf t≠19):
  Calls Tryz.prog 82 #[.pointer (some ⟨g,0,none⟩),.pointer (some ⟨mb,0,none⟩)] w (InPost (MtIn mb w.heap.size) (Rd.operR m) w (own3 (fun k=>k=mb) g b) lo g b ((t,c)::r) false):=by
 have hgl:=h.log
 have hlt:=h.lt
 have hbo:=h.blo
 have hml:=hm.blk.lt
 have hfa:Fr (fun _=>False) w (w.alloc (.cells #[.pointer (some ⟨mb,0,none⟩)] 127)):=Fr.alloc _ _ _
 have hcd:(w.alloc (.cells #[.pointer (some ⟨mb,0,none⟩)] 127)).cell? ⟨w.heap.size,0,none⟩=some (.pointer (some ⟨mb,0,none⟩)):=by rw[World.cell?_alloc_at (hn:=by simp)];rfl
 have hk1:(w.alloc (.cells #[.pointer (some ⟨mb,0,none⟩)] 127)).cell? ⟨mb,1,none⟩=some (.int .i64 m.kind):=(hm.fr hfa id).blk.cells 1 _ rfl
 have hkz:=(hm.fr hfa id).blk.fz
 have HM0:=hide (hm.fr hfa id)
 have HR0:=hide (h.fr hfa id id (fun _ _ _=>id))
 have HF0:=hide (hfa.mono (Y:=own3 (fun k=>k=mb) g b) fun _ _ q=>q.elim)
 have hs:(w.alloc (.cells #[.pointer (some ⟨mb,0,none⟩)] 127)).heap.size=w.heap.size+1:=by simp
 obtain⟨w1,hw1⟩:∃w1,w.alloc (.cells #[.pointer (some ⟨mb,0,none⟩)] 127)=w1:=⟨_,rfl⟩
 rw[hw1] at hcd hk1 HM0 HR0 HF0 hs hkz
 obtain⟨pb,hpb⟩:∃pb,w.heap.size=pb:=⟨_,rfl⟩
 rw[hpb] at hcd hs hlt hml
 have Hn:=hide (And.intro hml (And.intro hmb (And.intro hgl (And.intro hlt (And.intro hbo (And.intro hs hpb))))))
 have Hw:=hide hw1
 clear h hm hgl hlt hbo hml hfa hw1 hpb hs hmb
 have hmo:=more_any w1 lo g b ((t,c)::r) false HR0.out
 rw[show moreB ((t,c)::r) false=true from rfl] at hmo
 obtain⟨gt,ot,ct,gc,oc,cc,Bc,dc,e0,e1,k1,k2,k3,k4,k5⟩:=HR0.out.hd
 obtain⟨n,hn⟩:∃n,r.length+1=n:=⟨_,rfl⟩
 rw[hn] at e0
 have z0:(0:Int)<(n:Int):=by omega
 have zn:0<n:=by omega
 simp only[c8] at k1
 clear e1 k2 k3 k4 k5 hn
 go_enter Tryz.func82,Tryz.ntmps82
 go_upto_region 1 with fail
 rw[Hw.out,Hn.out.2.2.2.2.2.2]
 clear Hw
 go_wp2_with (go_at_call 79;fail)
 refine hmo.mono ?_
 rintro e w9 ⟨rfl,hw9⟩
 obtain rfl:=hw9.symm
 clear hmo
 obtain⟨K,hK⟩:∃K,wrap64 (bits BinOp.and IntKind.u8 (t.toNat:Int) 31)=K:=⟨_,rfl⟩
 have hKt:=(and31 t).symm.trans hK
 rw[hKt] at hop hkk
 obtain⟨ws,hws⟩:∃ws,w1.setCell ⟨mb,1,none⟩ (.int .i64 K)=ws:=⟨_,rfl⟩
 have hfs:Fr (fun k=>k=mb) w1 ws:=by rw[←hws];exact Fr.setCell w1 ⟨mb,1,none⟩ _ rfl
 have HM1:Hid (MtIn0 mb ({ m with kind:=K }:MT) ws):=hide (by rw[←hws];exact HM0.out.put 1 (by omega) (.int .i64 K) ⟨rfl,rfl,rfl,rfl,rfl,rfl⟩ (fun _ _ _ _ _ _ _ _ _ _ _ _=>rfl))
 have HR1:=hide (HR0.out.fr hfs (by have:=Hn.out;omega) (by have:=Hn.out;omega) (fun k h1 h2=>by have:=Hn.out;omega))
 have HF1:=hide (HF0.out.trans (hfs.mono (Y:=own3 (fun k=>k=mb) g b) fun _ _ q=>.inr (.inr q)))
 have HP1:=hide ((hfs.cell (p:=⟨pb,0,none⟩) (by have:=Hn.out;simp only;omega) (fun q=>by simp only at q;have:=Hn.out;omega)).trans hcd)
 have HZ1:Hid (pb<ws.heap.size):=hide (by have:=Hn.out;have:=hfs.size;omega)
 have ho:=opTag_any ws K
 rw[hop] at ho
 have e10:(K==10)=false:=beq_false_of_ne hkk.1
 have e16:(K==16)=false:=beq_false_of_ne hkk.2.1
 have e19:(K==19)=false:=beq_false_of_ne hkk.2.2
 have Hkk:=hide hkk
 have Hop:=hide hop
 clear hkk hop
 have hkc:=HM1.out.blk.cells 1 (.int .i64 K) rfl
 have hpc:=HP1.out
 clear hfs
 go_wp2_with (go_at_call 63;fail)
 try rw[hK]
 try rw[hws]
 refine ho.mono ?_
 rintro e w9 ⟨rfl,hw9⟩
 obtain rfl:=hw9.symm
 clear ho k1 hk1 hcd e0 HM0 HR0 HF0 hkz hK hws z0 zn
 have hin:=inner_any (fun (x:MT) W=>MtIn mb pb x W) (fun k=>k=mb) (Rd.contentR ({ m with kind:=K }:MT)) ws lo g b ((t,c)::r) false t 131 #[.pointer (some ⟨pb,0,none⟩)] (fun args w=>by go_simp) HR1.out (fun W hW=>operCl W b mb pb ({ m with kind:=K }:MT) (HM1.out.fr hW (by rintro (q | q)<;>(have:=Hn.out;omega))) ((hW.cell (p:=⟨pb,0,none⟩) HZ1.out (by rintro (q | q)<;>(simp only at q;have:=Hn.out;omega))).trans HP1.out) (by have:=HZ1.out;have:=hW.size;omega) ⟨by have:=Hn.out;omega,by have:=Hn.out;omega,by have:=Hn.out;omega⟩) (fun x W W' q1 q2=>q1.fr q2 (by have:=Hn.out;omega) (fun k hk=>by have:=Hn.out;omega)) (fun k hk=>⟨by have:=HZ1.out;have:=Hn.out;omega,by have:=Hn.out;omega,by have:=Hn.out;omega⟩)
 simp only[c8] at hin
 have Hin:=hide hin
 clear hin
 go_wp2_with (go_at_call 28;fail)
 refine Hin.out.mono ?_
 rintro e w5 hpost
 obtain⟨x,F5,rfl,hst,hr5,hf5,hq5⟩:=hpost.out
 clear hpost Hin
 have HS:=hide hst
 have HR5:=hide hr5
 have HF5:=hide (HF1.out.trans hf5)
 have HQ5:=hide hq5
 clear hst hr5 hf5 hq5 hkc hpc e10 e16 e19
 go_wp2
 go_returns
 have q5:=fun (_:false=false)=>HQ5.out (by first | rfl | trivial)
 have p5:=upd_post (u:=fun (_:MT) (x:MT)=>x) (m:=({ m with kind:=K }:MT)) q5
 have hr:=HR5.out
 try simp only[Bool.false_or] at hr
 rw[←Bool.false_or (Rd.innerR t (Rd.contentR ({ m with kind:=K }:MT)) ((t,c)::r)).isNone] at hr
 rw[p5.1] at hr
 have eo:Rd.operR m ((t,c)::r)=Rd.updR (Rd.innerR t (Rd.contentR ({ m with kind:=K }:MT))) (fun _ x=>x) ({ m with kind:=K }:MT) ((t,c)::r):=by unfold Rd.operR;simp only[hKt,Hop.out,if_true,if_neg Hkk.out.1,if_neg Hkk.out.2.1,if_neg Hkk.out.2.2]
 rw[←eo] at hr p5
 exact⟨⟨x,F5,rfl,by rw[Hn.out.2.2.2.2.2.2];exact HS.out,hr,HF5.out,p5.2⟩⟩
theorem oper_none (w:World) (lo g b:Nat) (t:UInt8) (c:List UInt8) (r:List Fd) (mb:Nat) (m:MT) (h:RdS w lo g b ((t,c)::r) false) (hm:MtIn0 mb m w) (hmb:mb≠g∧mb≠b∧(mb<lo∨g<mb)) (hop:opV (Rd.kindOf t)≠(t.toNat:Int)) (hkk:True):
  Calls Tryz.prog 82 #[.pointer (some ⟨g,0,none⟩),.pointer (some ⟨mb,0,none⟩)] w (InPost (MtIn mb w.heap.size) (Rd.operR m) w (own3 (fun k=>k=mb) g b) lo g b ((t,c)::r) false):=by
 have hgl:=h.log
 have hlt:=h.lt
 have hbo:=h.blo
 have hml:=hm.blk.lt
 have hfa:Fr (fun _=>False) w (w.alloc (.cells #[.pointer (some ⟨mb,0,none⟩)] 127)):=Fr.alloc _ _ _
 have hcd:(w.alloc (.cells #[.pointer (some ⟨mb,0,none⟩)] 127)).cell? ⟨w.heap.size,0,none⟩=some (.pointer (some ⟨mb,0,none⟩)):=by rw[World.cell?_alloc_at (hn:=by simp)];rfl
 have hk1:(w.alloc (.cells #[.pointer (some ⟨mb,0,none⟩)] 127)).cell? ⟨mb,1,none⟩=some (.int .i64 m.kind):=(hm.fr hfa id).blk.cells 1 _ rfl
 have hkz:=(hm.fr hfa id).blk.fz
 have HM0:=hide (hm.fr hfa id)
 have HR0:=hide (h.fr hfa id id (fun _ _ _=>id))
 have HF0:=hide (hfa.mono (Y:=own3 (fun k=>k=mb) g b) fun _ _ q=>q.elim)
 have hs:(w.alloc (.cells #[.pointer (some ⟨mb,0,none⟩)] 127)).heap.size=w.heap.size+1:=by simp
 obtain⟨w1,hw1⟩:∃w1,w.alloc (.cells #[.pointer (some ⟨mb,0,none⟩)] 127)=w1:=⟨_,rfl⟩
 rw[hw1] at hcd hk1 HM0 HR0 HF0 hs hkz
 obtain⟨pb,hpb⟩:∃pb,w.heap.size=pb:=⟨_,rfl⟩
 rw[hpb] at hcd hs hlt hml
 have Hn:=hide (And.intro hml (And.intro hmb (And.intro hgl (And.intro hlt (And.intro hbo (And.intro hs hpb))))))
 have Hw:=hide hw1
 clear h hm hgl hlt hbo hml hfa hw1 hpb hs hmb
 have hmo:=more_any w1 lo g b ((t,c)::r) false HR0.out
 rw[show moreB ((t,c)::r) false=true from rfl] at hmo
 obtain⟨gt,ot,ct,gc,oc,cc,Bc,dc,e0,e1,k1,k2,k3,k4,k5⟩:=HR0.out.hd
 obtain⟨n,hn⟩:∃n,r.length+1=n:=⟨_,rfl⟩
 rw[hn] at e0
 have z0:(0:Int)<(n:Int):=by omega
 have zn:0<n:=by omega
 simp only[c8] at k1
 clear e1 k2 k3 k4 k5 hn
 go_enter Tryz.func82,Tryz.ntmps82
 go_upto_region 1 with fail
 rw[Hw.out,Hn.out.2.2.2.2.2.2]
 clear Hw
 go_wp2_with (go_at_call 79;fail)
 refine hmo.mono ?_
 rintro e w9 ⟨rfl,hw9⟩
 obtain rfl:=hw9.symm
 clear hmo
 obtain⟨K,hK⟩:∃K,wrap64 (bits BinOp.and IntKind.u8 (t.toNat:Int) 31)=K:=⟨_,rfl⟩
 have hKt:=(and31 t).symm.trans hK
 rw[hKt] at hop
 obtain⟨ws,hws⟩:∃ws,w1.setCell ⟨mb,1,none⟩ (.int .i64 K)=ws:=⟨_,rfl⟩
 have hfs:Fr (fun k=>k=mb) w1 ws:=by rw[←hws];exact Fr.setCell w1 ⟨mb,1,none⟩ _ rfl
 have HM1:Hid (MtIn0 mb ({ m with kind:=K }:MT) ws):=hide (by rw[←hws];exact HM0.out.put 1 (by omega) (.int .i64 K) ⟨rfl,rfl,rfl,rfl,rfl,rfl⟩ (fun _ _ _ _ _ _ _ _ _ _ _ _=>rfl))
 have HR1:=hide (HR0.out.fr hfs (by have:=Hn.out;omega) (by have:=Hn.out;omega) (fun k h1 h2=>by have:=Hn.out;omega))
 have HF1:=hide (HF0.out.trans (hfs.mono (Y:=own3 (fun k=>k=mb) g b) fun _ _ q=>.inr (.inr q)))
 have HP1:=hide ((hfs.cell (p:=⟨pb,0,none⟩) (by have:=Hn.out;simp only;omega) (fun q=>by simp only at q;have:=Hn.out;omega)).trans hcd)
 have HZ1:Hid (pb<ws.heap.size):=hide (by have:=Hn.out;have:=hfs.size;omega)
 have ho:=opTag_any ws K
 obtain⟨ov,hov⟩:∃ov,opV K=ov:=⟨_,rfl⟩
 have Hop:=hide hop
 rw[hov] at ho hop
 have eov:(ov==(t.toNat:Int))=false:=beq_false_of_ne hop
 have eow:(ov !=(t.toNat:Int))=true:=bne_iff_ne.2 hop
 clear hkk hov
 have hkc:=HM1.out.blk.cells 1 (.int .i64 K) rfl
 have hpc:=HP1.out
 clear hfs
 go_wp2_with (go_at_call 63;fail)
 try rw[hK]
 try rw[hws]
 refine ho.mono ?_
 rintro e w9 ⟨rfl,hw9⟩
 obtain rfl:=hw9.symm
 clear ho k1 hk1 hcd e0 HM0 HR0 HF0 hkz hK hws z0 zn
 have hfl:=fail_any ws lo g b ((t,c)::r) false HR1.out
 go_wp2_with (go_at_call 78;fail)
 refine hfl.mono ?_
 rintro e w3 ⟨rfl,hr3,hf3⟩
 have HM3:=hide (HM1.out.fr hf3 (by rintro (q | q)<;>(have:=Hn.out;omega)))
 have HF3:=hide (HF1.out.trans (hf3.mono (Y:=own3 (fun k=>k=mb) g b) fun k _ q=>by rcases q with q | q;exact .inl q;exact .inr (.inl q)))
 have HR3:=hide hr3
 clear hr3 hf3 hfl
 go_wp2
 go_returns
 have eo:Rd.operR m ((t,c)::r)=none:=by unfold Rd.operR;simp only[hKt,if_neg Hop.out]
 exact⟨⟨({ m with kind:=K }:MT),((t,c)::r),rfl,HM3.out.mt _,by rw[eo];exact HR3.out,HF3.out,fun _ x0 F0 h0=>by rw[eo] at h0;cases h0⟩⟩
end Go.Proofs.YtpkedjohgmnhhaaGreat
namespace Go.Proofs.YtpkedjohgmnhhaaGreat
open Go.RowKit
set_option linter.unusedVariables false
theorem oper_nofield (w:World) (lo g b:Nat) (F:List Fd) (φ:Bool) (mb:Nat) (m:MT) (h:RdS w lo g b F φ) (hm:MtIn0 mb m w) (hmb:mb≠g∧mb≠b∧(mb<lo∨g<mb)) (hmf:moreB F φ=false):
  Calls Tryz.prog 82 #[.pointer (some ⟨g,0,none⟩),.pointer (some ⟨mb,0,none⟩)] w (InPost (MtIn mb w.heap.size) (Rd.operR m) w (own3 (fun k=>k=mb) g b) lo g b F φ):=by
 have hgl:=h.log
 have hlt:=h.lt
 have hbo:=h.blo
 have hml:=hm.blk.lt
 have hfa:Fr (fun _=>False) w (w.alloc (.cells #[.pointer (some ⟨mb,0,none⟩)] 127)):=Fr.alloc _ _ _
 have hcd:(w.alloc (.cells #[.pointer (some ⟨mb,0,none⟩)] 127)).cell? ⟨w.heap.size,0,none⟩=some (.pointer (some ⟨mb,0,none⟩)):=by rw[World.cell?_alloc_at (hn:=by simp)];rfl
 have hk1:(w.alloc (.cells #[.pointer (some ⟨mb,0,none⟩)] 127)).cell? ⟨mb,1,none⟩=some (.int .i64 m.kind):=(hm.fr hfa id).blk.cells 1 _ rfl
 have hkz:=(hm.fr hfa id).blk.fz
 have HM0:=hide (hm.fr hfa id)
 have HR0:=hide (h.fr hfa id id (fun _ _ _=>id))
 have HF0:=hide (hfa.mono (Y:=own3 (fun k=>k=mb) g b) fun _ _ q=>q.elim)
 have hs:(w.alloc (.cells #[.pointer (some ⟨mb,0,none⟩)] 127)).heap.size=w.heap.size+1:=by simp
 obtain⟨w1,hw1⟩:∃w1,w.alloc (.cells #[.pointer (some ⟨mb,0,none⟩)] 127)=w1:=⟨_,rfl⟩
 rw[hw1] at hcd hk1 HM0 HR0 HF0 hs hkz
 obtain⟨pb,hpb⟩:∃pb,w.heap.size=pb:=⟨_,rfl⟩
 rw[hpb] at hcd hs hlt hml
 have Hn:=hide (And.intro hml (And.intro hmb (And.intro hgl (And.intro hlt (And.intro hbo (And.intro hs hpb))))))
 have Hw:=hide hw1
 clear h hm hgl hlt hbo hml hfa hw1 hpb hs hmb
 have hmo:=more_any w1 lo g b F φ HR0.out
 rw[hmf] at hmo
 go_enter Tryz.func82,Tryz.ntmps82
 go_upto_region 1 with fail
 rw[Hw.out,Hn.out.2.2.2.2.2.2]
 clear Hw
 go_wp2_with (go_at_call 79;fail)
 refine hmo.mono ?_
 rintro e w9 ⟨rfl,hw9⟩
 obtain rfl:=hw9.symm
 clear hmo
 have hfl:=fail_any w1 lo g b F φ HR0.out
 go_wp2_with (go_at_call 78;fail)
 refine hfl.mono ?_
 rintro e w3 ⟨rfl,hr3,hf3⟩
 have HM3:=hide (HM0.out.fr hf3 (by rintro (q | q)<;>(have:=Hn.out;omega)))
 have HF3:=hide (HF0.out.trans (hf3.mono (Y:=own3 (fun k=>k=mb) g b) fun k _ q=>by rcases q with q | q;exact .inl q;exact .inr (.inl q)))
 have HR3:=hide hr3
 clear hr3 hf3 hfl
 go_wp2
 go_returns
 have eo:(φ||(Rd.operR m F).isNone)=true∧(φ=false→∀x0 F0,Rd.operR m F=some (x0,F0)→m=x0∧F=F0):=by
  cases φ with
  | true=>exact⟨rfl,fun h=>by cases h⟩
  | false=>cases F with
   | nil=>exact⟨rfl,fun _ x0 F0 h0=>by cases h0⟩
   | cons f r=>cases hmf
 exact⟨⟨m,F,rfl,HM3.out.mt _,by rw[eo.1];exact HR3.out,HF3.out,eo.2⟩⟩
theorem operation_any (w:World) (lo g b:Nat) (F:List Fd) (φ:Bool) (mb:Nat) (m:MT) (h:RdS w lo g b F φ) (hm:MtIn0 mb m w) (hmb:mb≠g∧mb≠b∧(mb<lo∨g<mb)):
  Calls Tryz.prog 82 #[.pointer (some ⟨g,0,none⟩),.pointer (some ⟨mb,0,none⟩)] w (InPost (MtIn mb w.heap.size) (Rd.operR m) w (own3 (fun k=>k=mb) g b) lo g b F φ):=by
 cases hmf:moreB F φ with
 | false=>exact oper_nofield w lo g b F φ mb m h hm hmb hmf
 | true=>
  obtain⟨rfl,hne⟩:=more_yes hmf
  obtain⟨⟨t,c⟩,r,rfl⟩:=List.exists_cons_of_ne_nil hne
  by_cases hop:opV (Rd.kindOf t)=(t.toNat:Int)
  ·by_cases h10:Rd.kindOf t=10
   ·exact oper_remove w lo g b t c r mb m h hm hmb hop h10
   ·by_cases h16:Rd.kindOf t=16
    ·exact oper_abandon w lo g b t c r mb m h hm hmb hop h16
    ·by_cases h19:Rd.kindOf t=19
     ·exact oper_reference w lo g b t c r mb m h hm hmb hop h19
     ·exact oper_content w lo g b t c r mb m h hm hmb hop ⟨h10,h16,h19⟩
  ·exact oper_none w lo g b t c r mb m h hm hmb hop trivial
end Go.Proofs.YtpkedjohgmnhhaaGreat
