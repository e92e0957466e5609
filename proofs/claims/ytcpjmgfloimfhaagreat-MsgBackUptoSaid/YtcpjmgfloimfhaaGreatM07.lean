/- Several texts in one: LFilterC, HAttr, HBare, HSmall, HFormed. By an AI agent. -/
import Derived.Test.YtcpjmgfloimfhaaGreatLFilterP
import Derived.Test.YtcpjmgfloimfhaaGreatM02
import Derived.Deep.CutRange
import Derived.Deep.CutBlock
set_option linter.unusedSimpArgs false
set_option linter.unusedVariables false
set_option maxRecDepth 100000
set_option maxHeartbeats 32000000
namespace Go.Proofs.YtcpjmgfloimfhaaGreat
open Go.RowKit
theorem ste_plain {W:World} {fb lo2:Nat} {k:Int} {a v f l:List UInt8} (h:Blk W fb [.int .i64 k,.string (txt a),.string (txt v),.string (txt f),.string (txt l),.slice none 0 0,.slice none 0 0]):StE elF fb lo2 (.mk k a v f l [] []) W:=
 ⟨⟨_,⟨none,0,none,0,[],rfl,⟨by unfold maxLen;simp,by unfold maxLen;simp⟩,HasP.none _,HasP.none _,rfl⟩,h⟩⟩
theorem pcsCl (k:Int) (al vl:List UInt8) (w:World) (b fb lo2:Nat) (hfb:fb<lo2) (hlo:lo2<=w.heap.size) (hbf:b≠fb) (hb2:b<lo2) (hB:Blk w fb [.int .i64 k,.string (txt al),.string (txt vl),.string ⟨#[]⟩,.string ⟨#[]⟩,.slice none 0 0,.slice none 0 0]):
  ClosedBy (fun x W=>StE elF fb lo2 (.mk k al vl x.1 x.2.2 x.2.1 []) W) (fun k=>k=fb) Rd.piecesR w b 183 #[.pointer (some ⟨fb,0,none⟩)]:=by
 intro W lo g F φ hfr hwl hr
 have hpc:=pieces_any W lo g b F φ fb lo2 k (txt al) (txt vl) al vl rfl rfl hr hfb (by have:=hfr.size;omega) hbf hb2 (by omega) (hB.fr hfr (fun e=>hbf e.symm))
 try simp only[List.append_toArray,List.cons_append,List.nil_append]
 clear hfr hwl hr hB hfb hlo hbf hb2
 go_enter Tryz.func183,Tryz.ntmps183
 go_wp2_with (go_at_call 184;fail)
 refine hpc.mono ?_
 rintro e w1 hpost
 obtain⟨x,F',rfl,h1,h2,h3,h4⟩:=hpost.out
 clear hpost hpc
 go_wp2
 go_returns
 exact⟨⟨x,F',rfl,h1,h2,h3,h4⟩⟩
theorem filtC_sub (d:Nat):FiltC d 4:=by
 intro w b fb db lo2 hfb hlo hbf hb2 hdb hdf hdn hB hD W lo g F φ hfr hwl hr
 have hgl:=hr.log
 have hlt:=hr.lt
 have hbo:=hr.blo
 have HB0:=hide (hB.fr hfr (fun e=>hbf e.symm))
 have HD0:Hid (W.cell? ⟨db,0,none⟩=some (.int .i64 ((d:Int)+1))):=hide ((hfr.cell (p:=⟨db,0,none⟩) (by simp only;omega) hdn).trans hD)
 have Hn:=hide (And.intro hfb (And.intro hlo (And.intro hbf (And.intro hb2 (And.intro hdb (And.intro hdf (And.intro hdn (And.intro hwl (And.intro hgl (And.intro hlt (And.intro hbo hfr.size)))))))))))
 have HR0:=hide hr
 have HF0:Hid (Fr (own3 (fun k=>k=fb) g b) W W):=hide (Fr.refl _ _)
 try simp only[List.append_toArray,List.cons_append,List.nil_append]
 have kk:=HB0.out.cells 0 _ rfl
 clear hfr hwl hr hgl hlt hbo hB hD hfb hlo hbf hb2 hdb hdf hdn
 go_enter Tryz.func182,Tryz.ntmps182
 go_wp2_with (go_at_call 130;fail)
 refine (zA3 W lo g b F φ HR0.out).mono ?_
 rintro e w1 hpost1
 obtain⟨x1,v1,F1,rfl,hrep1,hr1,hf1,hq1⟩:=hpost1.out
 clear hpost1
 unfold repT at hrep1
 subst hrep1
 have hB1:=HB0.out.fr hf1 (by rintro (q | q)<;>(have:=Hn.out;omega))
 have hs1:=hf1.size
 have HB1:=hide (hB1.set 1 (.string (txt x1)) (by simp))
 have HR1:=hide (hr1.fr (Fr.setCell (X:=fun k=>k=fb) w1 ⟨fb,1,none⟩ (.string (txt x1)) rfl) (by have:=Hn.out;omega) (by have:=Hn.out;omega) (fun k h1 h2=>by have:=Hn.out;omega))
 have HF1:=hide ((HF0.out.trans (hf1.mono (Y:=own3 (fun k=>k=fb) g b) fun k _ q=>by rcases q with q | q;exact .inl q;exact .inr (.inl q))).trans (Fr.setCell (X:=own3 (fun k=>k=fb) g b) w1 ⟨fb,1,none⟩ (.string (txt x1)) (.inr (.inr rfl))))
 have HQ1:=hide hq1
 have k1:=hB1.cells 1 _ rfl
 have z1:=hB1.fz
 have Hs1:=hide hs1
 clear hr1 hf1 hq1 hB1 hs1
 have hin:=zBk (fun x W=>StE elF fb lo2 (.mk 4 x1 [] x.1 x.2.2 x.2.1 []) W) (fun k=>k=fb) Rd.piecesR (w1.setCell ⟨fb,1,none⟩ (.string (txt x1))) lo g b F1 _ 48 183 #[.pointer (some ⟨fb,0,none⟩)] (fun args w=>by go_simp) HR1.out
  (fun W2 hW2=>pcsCl 4 x1 [] W2 b fb lo2 Hn.out.1 (by have:=hW2.size;have:=HF1.out.size;have:=Hn.out;omega) Hn.out.2.2.1 Hn.out.2.2.2.1 (HB1.out.fr hW2 (by rintro (q | q)<;>(have:=Hn.out;omega))))
  (fun y Wa Wb q1 q2=>StE.fr (x:=FT.mk 4 x1 [] y.1 y.2.2 y.2.1 []) (W:=Wa) (W':=Wb) (X:=fun k=>k=b) q1 q2 (by have:=Hn.out;omega) (fun k hk=>by have:=Hn.out;omega)) (fun k hk=>by subst hk;have:=HB1.out.lt;have:=Hn.out;exact⟨by omega,by omega,by omega⟩)
 rw[show c8 48=.int .u8 48 from rfl] at hin
 go_wp2_with (go_at_call 28;fail)
 refine hin.mono ?_
 rintro e w2 hpost
 obtain⟨x,F2,rfl,hst,hr2,hf2,hq2⟩:=hpost.out
 clear hpost hin
 have hap:=zA4 (p:=Rd.textR) (q:=Rd.innerR 48 Rd.piecesR) (f:=fun a p=>FT.mk 4 a [] p.1 p.2.2 p.2.1 []) HQ1.out hq2
 rw[hap.1] at hr2
 have HFF:=hide (HF1.out.trans hf2)
 have HR2:=hide hr2
 have HQ:=hide hap.2
 have HS:=hide hst
 clear hr2 hf2 hq2 hap hst k1 z1 kk
 go_wp2
 go_returns
 exact⟨⟨_,F2,rfl,HS.out,HR2.out,HFF.out,HQ.out⟩⟩
theorem filtC_val (d:Nat) (k:Int) (hk:k=3\/k=5\/k=6\/k=8):FiltC d k:=by
 intro w b fb db lo2 hfb hlo hbf hb2 hdb hdf hdn hB hD W lo g F φ hfr hwl hr
 have hgl:=hr.log
 have hlt:=hr.lt
 have hbo:=hr.blo
 have HB0:=hide (hB.fr hfr (fun e=>hbf e.symm))
 have HD0:Hid (W.cell? ⟨db,0,none⟩=some (.int .i64 ((d:Int)+1))):=hide ((hfr.cell (p:=⟨db,0,none⟩) (by simp only;omega) hdn).trans hD)
 have Hn:=hide (And.intro hfb (And.intro hlo (And.intro hbf (And.intro hb2 (And.intro hdb (And.intro hdf (And.intro hdn (And.intro hwl (And.intro hgl (And.intro hlt (And.intro hbo hfr.size)))))))))))
 have HR0:=hide hr
 have HF0:Hid (Fr (own3 (fun k=>k=fb) g b) W W):=hide (Fr.refl _ _)
 try simp only[List.append_toArray,List.cons_append,List.nil_append]
 have kk:=HB0.out.cells 0 _ rfl
 clear hfr hwl hr hgl hlt hbo hB hD hfb hlo hbf hb2 hdb hdf hdn
 have Hk:=hide hk
 have hbd:∀G,Rd.bodyR d k G=Rd.andR Rd.textR Rd.textR (fun a v=>FT.mk k a v [] [] [] []) G:=fun G=>by unfold Rd.bodyR;rw[if_neg (by omega),if_neg (by omega),if_pos hk]
 have Hbd:=hide hbd
 clear hbd
 have z0:(k==0)=false:=beq_false_of_ne (by omega)
 have z1_:(k==1)=false:=beq_false_of_ne (by omega)
 have z2_:(k==2)=false:=beq_false_of_ne (by omega)
 have z4_:(k==4)=false:=beq_false_of_ne (by omega)
 clear z0 z1_ z2_ z4_
 rcases hk with rfl | rfl | rfl | rfl
 ·go_enter Tryz.func182,Tryz.ntmps182
  go_wp2_with (go_at_call 130;fail)
  refine (zA3 W lo g b F φ HR0.out).mono ?_
  rintro e w1 hpost1
  obtain⟨x1,v1,F1,rfl,hrep1,hr1,hf1,hq1⟩:=hpost1.out
  clear hpost1
  unfold repT at hrep1
  subst hrep1
  have hB1:=HB0.out.fr hf1 (by rintro (q | q)<;>(have:=Hn.out;omega))
  have hs1:=hf1.size
  have HB1:=hide (hB1.set 1 (.string (txt x1)) (by simp))
  have HR1:=hide (hr1.fr (Fr.setCell (X:=fun k=>k=fb) w1 ⟨fb,1,none⟩ (.string (txt x1)) rfl) (by have:=Hn.out;omega) (by have:=Hn.out;omega) (fun k h1 h2=>by have:=Hn.out;omega))
  have HF1:=hide ((HF0.out.trans (hf1.mono (Y:=own3 (fun k=>k=fb) g b) fun k _ q=>by rcases q with q | q;exact .inl q;exact .inr (.inl q))).trans (Fr.setCell (X:=own3 (fun k=>k=fb) g b) w1 ⟨fb,1,none⟩ (.string (txt x1)) (.inr (.inr rfl))))
  have HQ1:=hide hq1
  have k1:=hB1.cells 1 _ rfl
  have z1:=hB1.fz
  have Hs1:=hide hs1
  clear hr1 hf1 hq1 hB1 hs1
  go_wp2_with (go_at_call 130;fail)
  refine (zA3 (w1.setCell ⟨fb,1,none⟩ (.string (txt x1))) lo g b F1 _ HR1.out).mono ?_
  rintro e w2 hpost2
  obtain⟨x2,v2,F2,rfl,hrep2,hr2,hf2,hq2⟩:=hpost2.out
  clear hpost2
  unfold repT at hrep2
  subst hrep2
  have hB2:=HB1.out.fr hf2 (by rintro (q | q)<;>(have:=Hn.out;omega))
  have hs2:=hf2.size
  have HB2:=hide (hB2.set 2 (.string (txt x2)) (by simp))
  have HR2:=hide (hr2.fr (Fr.setCell (X:=fun k=>k=fb) w2 ⟨fb,2,none⟩ (.string (txt x2)) rfl) (by have:=Hn.out;omega) (by have:=Hn.out;omega) (fun k h1 h2=>by have:=Hn.out;omega))
  have HF2:=hide ((HF1.out.trans (hf2.mono (Y:=own3 (fun k=>k=fb) g b) fun k _ q=>by rcases q with q | q;exact .inl q;exact .inr (.inl q))).trans (Fr.setCell (X:=own3 (fun k=>k=fb) g b) w2 ⟨fb,2,none⟩ (.string (txt x2)) (.inr (.inr rfl))))
  have HQ2:=hide hq2
  have k2:=hB2.cells 2 _ rfl
  have z2:=hB2.fz
  have Hs2:=hide hs2
  clear hr2 hf2 hq2 hB2 hs2 k1 z1
  go_wp2
  go_returns
  have hap:=zA4 (p:=Rd.textR) (q:=Rd.textR) (f:=fun a v=>FT.mk 3 a v [] [] [] []) HQ1.out HQ2.out
  have hr2:=HR2.out
  rw[hap.1,<-Hbd.out] at hr2
  have hq:=hap.2
  refine⟨⟨.mk 3 x1 x2 [] [] [] [],F2,rfl,ste_plain HB2.out,hr2,HF2.out,fun h0 x0 F0 hh=>hq h0 x0 F0 (by rw[<-Hbd.out];exact hh)⟩⟩
 ·go_enter Tryz.func182,Tryz.ntmps182
  go_wp2_with (go_at_call 130;fail)
  refine (zA3 W lo g b F φ HR0.out).mono ?_
  rintro e w1 hpost1
  obtain⟨x1,v1,F1,rfl,hrep1,hr1,hf1,hq1⟩:=hpost1.out
  clear hpost1
  unfold repT at hrep1
  subst hrep1
  have hB1:=HB0.out.fr hf1 (by rintro (q | q)<;>(have:=Hn.out;omega))
  have hs1:=hf1.size
  have HB1:=hide (hB1.set 1 (.string (txt x1)) (by simp))
  have HR1:=hide (hr1.fr (Fr.setCell (X:=fun k=>k=fb) w1 ⟨fb,1,none⟩ (.string (txt x1)) rfl) (by have:=Hn.out;omega) (by have:=Hn.out;omega) (fun k h1 h2=>by have:=Hn.out;omega))
  have HF1:=hide ((HF0.out.trans (hf1.mono (Y:=own3 (fun k=>k=fb) g b) fun k _ q=>by rcases q with q | q;exact .inl q;exact .inr (.inl q))).trans (Fr.setCell (X:=own3 (fun k=>k=fb) g b) w1 ⟨fb,1,none⟩ (.string (txt x1)) (.inr (.inr rfl))))
  have HQ1:=hide hq1
  have k1:=hB1.cells 1 _ rfl
  have z1:=hB1.fz
  have Hs1:=hide hs1
  clear hr1 hf1 hq1 hB1 hs1
  go_wp2_with (go_at_call 130;fail)
  refine (zA3 (w1.setCell ⟨fb,1,none⟩ (.string (txt x1))) lo g b F1 _ HR1.out).mono ?_
  rintro e w2 hpost2
  obtain⟨x2,v2,F2,rfl,hrep2,hr2,hf2,hq2⟩:=hpost2.out
  clear hpost2
  unfold repT at hrep2
  subst hrep2
  have hB2:=HB1.out.fr hf2 (by rintro (q | q)<;>(have:=Hn.out;omega))
  have hs2:=hf2.size
  have HB2:=hide (hB2.set 2 (.string (txt x2)) (by simp))
  have HR2:=hide (hr2.fr (Fr.setCell (X:=fun k=>k=fb) w2 ⟨fb,2,none⟩ (.string (txt x2)) rfl) (by have:=Hn.out;omega) (by have:=Hn.out;omega) (fun k h1 h2=>by have:=Hn.out;omega))
  have HF2:=hide ((HF1.out.trans (hf2.mono (Y:=own3 (fun k=>k=fb) g b) fun k _ q=>by rcases q with q | q;exact .inl q;exact .inr (.inl q))).trans (Fr.setCell (X:=own3 (fun k=>k=fb) g b) w2 ⟨fb,2,none⟩ (.string (txt x2)) (.inr (.inr rfl))))
  have HQ2:=hide hq2
  have k2:=hB2.cells 2 _ rfl
  have z2:=hB2.fz
  have Hs2:=hide hs2
  clear hr2 hf2 hq2 hB2 hs2 k1 z1
  go_wp2
  go_returns
  have hap:=zA4 (p:=Rd.textR) (q:=Rd.textR) (f:=fun a v=>FT.mk 5 a v [] [] [] []) HQ1.out HQ2.out
  have hr2:=HR2.out
  rw[hap.1,<-Hbd.out] at hr2
  have hq:=hap.2
  refine⟨⟨.mk 5 x1 x2 [] [] [] [],F2,rfl,ste_plain HB2.out,hr2,HF2.out,fun h0 x0 F0 hh=>hq h0 x0 F0 (by rw[<-Hbd.out];exact hh)⟩⟩
 ·go_enter Tryz.func182,Tryz.ntmps182
  go_wp2_with (go_at_call 130;fail)
  refine (zA3 W lo g b F φ HR0.out).mono ?_
  rintro e w1 hpost1
  obtain⟨x1,v1,F1,rfl,hrep1,hr1,hf1,hq1⟩:=hpost1.out
  clear hpost1
  unfold repT at hrep1
  subst hrep1
  have hB1:=HB0.out.fr hf1 (by rintro (q | q)<;>(have:=Hn.out;omega))
  have hs1:=hf1.size
  have HB1:=hide (hB1.set 1 (.string (txt x1)) (by simp))
  have HR1:=hide (hr1.fr (Fr.setCell (X:=fun k=>k=fb) w1 ⟨fb,1,none⟩ (.string (txt x1)) rfl) (by have:=Hn.out;omega) (by have:=Hn.out;omega) (fun k h1 h2=>by have:=Hn.out;omega))
  have HF1:=hide ((HF0.out.trans (hf1.mono (Y:=own3 (fun k=>k=fb) g b) fun k _ q=>by rcases q with q | q;exact .inl q;exact .inr (.inl q))).trans (Fr.setCell (X:=own3 (fun k=>k=fb) g b) w1 ⟨fb,1,none⟩ (.string (txt x1)) (.inr (.inr rfl))))
  have HQ1:=hide hq1
  have k1:=hB1.cells 1 _ rfl
  have z1:=hB1.fz
  have Hs1:=hide hs1
  clear hr1 hf1 hq1 hB1 hs1
  go_wp2_with (go_at_call 130;fail)
  refine (zA3 (w1.setCell ⟨fb,1,none⟩ (.string (txt x1))) lo g b F1 _ HR1.out).mono ?_
  rintro e w2 hpost2
  obtain⟨x2,v2,F2,rfl,hrep2,hr2,hf2,hq2⟩:=hpost2.out
  clear hpost2
  unfold repT at hrep2
  subst hrep2
  have hB2:=HB1.out.fr hf2 (by rintro (q | q)<;>(have:=Hn.out;omega))
  have hs2:=hf2.size
  have HB2:=hide (hB2.set 2 (.string (txt x2)) (by simp))
  have HR2:=hide (hr2.fr (Fr.setCell (X:=fun k=>k=fb) w2 ⟨fb,2,none⟩ (.string (txt x2)) rfl) (by have:=Hn.out;omega) (by have:=Hn.out;omega) (fun k h1 h2=>by have:=Hn.out;omega))
  have HF2:=hide ((HF1.out.trans (hf2.mono (Y:=own3 (fun k=>k=fb) g b) fun k _ q=>by rcases q with q | q;exact .inl q;exact .inr (.inl q))).trans (Fr.setCell (X:=own3 (fun k=>k=fb) g b) w2 ⟨fb,2,none⟩ (.string (txt x2)) (.inr (.inr rfl))))
  have HQ2:=hide hq2
  have k2:=hB2.cells 2 _ rfl
  have z2:=hB2.fz
  have Hs2:=hide hs2
  clear hr2 hf2 hq2 hB2 hs2 k1 z1
  go_wp2
  go_returns
  have hap:=zA4 (p:=Rd.textR) (q:=Rd.textR) (f:=fun a v=>FT.mk 6 a v [] [] [] []) HQ1.out HQ2.out
  have hr2:=HR2.out
  rw[hap.1,<-Hbd.out] at hr2
  have hq:=hap.2
  refine⟨⟨.mk 6 x1 x2 [] [] [] [],F2,rfl,ste_plain HB2.out,hr2,HF2.out,fun h0 x0 F0 hh=>hq h0 x0 F0 (by rw[<-Hbd.out];exact hh)⟩⟩
 ·go_enter Tryz.func182,Tryz.ntmps182
  go_wp2_with (go_at_call 130;fail)
  refine (zA3 W lo g b F φ HR0.out).mono ?_
  rintro e w1 hpost1
  obtain⟨x1,v1,F1,rfl,hrep1,hr1,hf1,hq1⟩:=hpost1.out
  clear hpost1
  unfold repT at hrep1
  subst hrep1
  have hB1:=HB0.out.fr hf1 (by rintro (q | q)<;>(have:=Hn.out;omega))
  have hs1:=hf1.size
  have HB1:=hide (hB1.set 1 (.string (txt x1)) (by simp))
  have HR1:=hide (hr1.fr (Fr.setCell (X:=fun k=>k=fb) w1 ⟨fb,1,none⟩ (.string (txt x1)) rfl) (by have:=Hn.out;omega) (by have:=Hn.out;omega) (fun k h1 h2=>by have:=Hn.out;omega))
  have HF1:=hide ((HF0.out.trans (hf1.mono (Y:=own3 (fun k=>k=fb) g b) fun k _ q=>by rcases q with q | q;exact .inl q;exact .inr (.inl q))).trans (Fr.setCell (X:=own3 (fun k=>k=fb) g b) w1 ⟨fb,1,none⟩ (.string (txt x1)) (.inr (.inr rfl))))
  have HQ1:=hide hq1
  have k1:=hB1.cells 1 _ rfl
  have z1:=hB1.fz
  have Hs1:=hide hs1
  clear hr1 hf1 hq1 hB1 hs1
  go_wp2_with (go_at_call 130;fail)
  refine (zA3 (w1.setCell ⟨fb,1,none⟩ (.string (txt x1))) lo g b F1 _ HR1.out).mono ?_
  rintro e w2 hpost2
  obtain⟨x2,v2,F2,rfl,hrep2,hr2,hf2,hq2⟩:=hpost2.out
  clear hpost2
  unfold repT at hrep2
  subst hrep2
  have hB2:=HB1.out.fr hf2 (by rintro (q | q)<;>(have:=Hn.out;omega))
  have hs2:=hf2.size
  have HB2:=hide (hB2.set 2 (.string (txt x2)) (by simp))
  have HR2:=hide (hr2.fr (Fr.setCell (X:=fun k=>k=fb) w2 ⟨fb,2,none⟩ (.string (txt x2)) rfl) (by have:=Hn.out;omega) (by have:=Hn.out;omega) (fun k h1 h2=>by have:=Hn.out;omega))
  have HF2:=hide ((HF1.out.trans (hf2.mono (Y:=own3 (fun k=>k=fb) g b) fun k _ q=>by rcases q with q | q;exact .inl q;exact .inr (.inl q))).trans (Fr.setCell (X:=own3 (fun k=>k=fb) g b) w2 ⟨fb,2,none⟩ (.string (txt x2)) (.inr (.inr rfl))))
  have HQ2:=hide hq2
  have k2:=hB2.cells 2 _ rfl
  have z2:=hB2.fz
  have Hs2:=hide hs2
  clear hr2 hf2 hq2 hB2 hs2 k1 z1
  go_wp2
  go_returns
  have hap:=zA4 (p:=Rd.textR) (q:=Rd.textR) (f:=fun a v=>FT.mk 8 a v [] [] [] []) HQ1.out HQ2.out
  have hr2:=HR2.out
  rw[hap.1,<-Hbd.out] at hr2
  have hq:=hap.2
  refine⟨⟨.mk 8 x1 x2 [] [] [] [],F2,rfl,ste_plain HB2.out,hr2,HF2.out,fun h0 x0 F0 hh=>hq h0 x0 F0 (by rw[<-Hbd.out];exact hh)⟩⟩
theorem filtC_no (d:Nat) (k:Int) (hk:k≠0/\k≠1/\k≠2/\k≠3/\k≠4/\k≠5/\k≠6/\k≠8):FiltC d k:=by
 intro w b fb db lo2 hfb hlo hbf hb2 hdb hdf hdn hB hD W lo g F φ hfr hwl hr
 have hgl:=hr.log
 have hlt:=hr.lt
 have hbo:=hr.blo
 have HB0:=hide (hB.fr hfr (fun e=>hbf e.symm))
 have HD0:Hid (W.cell? ⟨db,0,none⟩=some (.int .i64 ((d:Int)+1))):=hide ((hfr.cell (p:=⟨db,0,none⟩) (by simp only;omega) hdn).trans hD)
 have Hn:=hide (And.intro hfb (And.intro hlo (And.intro hbf (And.intro hb2 (And.intro hdb (And.intro hdf (And.intro hdn (And.intro hwl (And.intro hgl (And.intro hlt (And.intro hbo hfr.size)))))))))))
 have HR0:=hide hr
 have HF0:Hid (Fr (own3 (fun k=>k=fb) g b) W W):=hide (Fr.refl _ _)
 try simp only[List.append_toArray,List.cons_append,List.nil_append]
 have kk:=HB0.out.cells 0 _ rfl
 clear hfr hwl hr hgl hlt hbo hB hD hfb hlo hbf hb2 hdb hdf hdn
 have hbd:∀G,Rd.bodyR d k G=none:=fun G=>by unfold Rd.bodyR;rw[if_neg (by omega),if_neg (by omega),if_neg (by omega)]
 have Hbd:=hide hbd
 obtain⟨h0,h1,h2,h3,h4,h5,h6,h8⟩:=hk
 have e0:(k==0)=false:=beq_false_of_ne h0
 have e1:(k==1)=false:=beq_false_of_ne h1
 have e2:(k==2)=false:=beq_false_of_ne h2
 have e3:(k==3)=false:=beq_false_of_ne h3
 have e4:(k==4)=false:=beq_false_of_ne h4
 have e5:(k==5)=false:=beq_false_of_ne h5
 have e6:(k==6)=false:=beq_false_of_ne h6
 have e8:(k==8)=false:=beq_false_of_ne h8
 clear hbd h0 h1 h2 h3 h4 h5 h6 h8
 have hfl:=zBi W lo g b F φ HR0.out
 go_enter Tryz.func182,Tryz.ntmps182
 go_wp2_with (go_at_call 78;fail)
 refine hfl.mono ?_
 rintro e w1 ⟨rfl,hr1,hf1⟩
 have hB1:=HB0.out.fr hf1 (by rintro (q | q)<;>(have:=Hn.out;omega))
 have HB1:=hide hB1
 have HR1:=hide hr1
 have HF1:=hide (hf1.mono (Y:=own3 (fun k=>k=fb) g b) fun k _ q=>by rcases q with q | q;exact .inl q;exact .inr (.inl q))
 clear hfl hB1 hr1 hf1 kk e0 e1 e2 e3 e4 e5 e6 e8
 go_wp2
 go_returns
 refine⟨⟨.mk k [] [] [] [] [] [],F,rfl,ste_plain HB1.out,?_,HF1.out,fun h0 x0 F0 hh=>by rw[Hbd.out] at hh;cases hh⟩⟩
 rw[Hbd.out]
 simpa using HR1.out
theorem filtC_all (d:Nat) (hd:d<=20) (hP:FiltP d) (k:Int):FiltC d k:=by
 by_cases h1:k=0\/k=1\/k=2
 ·exact filtC_parts d hd hP k h1
 by_cases h4:k=4
 ·subst h4;exact filtC_sub d
 by_cases h3:k=3\/k=5\/k=6\/k=8
 ·exact filtC_val d k h3
 exact filtC_no d k ⟨by omega,by omega,by omega,by omega,h4,by omega,by omega,by omega⟩
theorem txt_at (l:List UInt8) (i:Nat) (hi:i<(txt l).size) (x:UInt8) (h:l[i]?=some x):(txt l)[i]'hi=x:=by
 have:=Lib.data_getElem? (txt l) i hi
 rw[zBa,h] at this
 exact (Option.some.inj this).symm
namespace FT
def plain0 (f l:List UInt8) (any:List (List UInt8)):Bool:=f==[]&&l==[]&&any==[]
section
variable (k:Int) (a v f l:List UInt8) (any:List (List UInt8)) (ps:List FT)
theorem bare_and (h:k=0\/k=1):bare (.mk k a v f l any ps)=(a==[]&&v==[]&&plain0 f l any):=by
 simp only[bare,plain0];rw[if_pos h]
theorem bare_not:bare (.mk 2 a v f l any ps)=(a==[]&&v==[]&&plain0 f l any&&ps.length==1):=by
 simp only[bare,plain0];rw[if_neg (by omega),if_pos trivial]
theorem bare_val (h:k=3\/k=5\/k=6\/k=8):bare (.mk k a v f l any ps)=(attrOk a&&fits v&&plain0 f l any&&ps.isEmpty):=by
 simp only[bare,plain0];rw[if_neg (by omega),if_neg (by omega),if_pos h]
theorem bare_has:bare (.mk 7 a v f l any ps)=(attrOk a&&v==[]&&plain0 f l any&&ps.isEmpty):=by
 simp only[bare,plain0];rw[if_neg (by omega),if_neg (by omega),if_neg (by omega),if_pos trivial]
theorem bare_sub:bare (.mk 4 a v f l any ps)=(any.all fits&&attrOk a&&v==[]&& !plain0 f l any&&ps.isEmpty&&f.length<=200&&l.length<=200):=by
 simp only[bare,plain0];rw[if_neg (by omega),if_neg (by omega),if_neg (by omega),if_neg (by omega),if_pos trivial]
theorem bare_else (h:k≠0/\k≠1/\k≠2/\k≠3/\k≠4/\k≠5/\k≠6/\k≠7/\k≠8):bare (.mk k a v f l any ps)=false:=by
 simp only[bare];rw[if_neg (by omega),if_neg (by omega),if_neg (by omega),if_neg (by omega),if_neg (by omega)]
end
end FT
theorem isEmpty_len {α:Type} (l:List α):l.isEmpty=(((l.length:Nat):Int)==0):=by
 cases l with
 | nil=>rfl
 | cons a r=>symm;exact beq_false_of_ne (by simp only[List.length_cons];omega)
theorem len_one {α:Type} (l:List α):(l.length==1)=(((l.length:Nat):Int)==1):=by
 by_cases h:l.length=1
 ·rw [h];rfl
 ·rw [beq_false_of_ne h,beq_false_of_ne (by omega)]
namespace FT
mutual
theorem small_bound:∀(t:FT) (d n:Int),0<=n->n<=60-> -1<=t.small d n/\t.small d n<=60
 | .mk k a v f l any ps,d,n,h0,h1=>by
  simp only[small]
  split
  ·omega
  ·split
   ·omega
   ·exact smallL_bound ps (d+1) (n-1) (by omega) (by omega)
theorem smallL_bound:∀(ps:List FT) (d n:Int),-1<=n->n<=60-> -1<=smallL ps d n/\smallL ps d n<=60
 | [],d,n,h0,h1=>by simp only[smallL];omega
 | p::r,d,n,h0,h1=>by
  simp only[smallL]
  split
  ·omega
  ·have:=small_bound p d n (by omega) h1
   exact smallL_bound r d _ this.1 this.2
end
theorem smallL_drop {ps:List FT} {i:Nat} {p:FT} {d n:Int} (h:ps[i]?=some p):smallL (ps.drop i) d n=if n<0 then -1 else smallL (ps.drop (i+1)) d (p.small d n):=by
 obtain⟨hi,he⟩:=List.getElem?_eq_some_iff.1 h
 rw[List.drop_eq_getElem_cons hi,he]
 simp only[smallL]
theorem smallL_end {ps:List FT} {i:Nat} {d n:Int} (h:ps.length<=i):smallL (ps.drop i) d n=n:=by
 rw[List.drop_eq_nil_of_le h]
 simp only[smallL]
end FT
inductive SmallWay (a v f l:List UInt8) (any:List (List UInt8)) (ps:List FT) (d n R:Int):Prop where
 | deep (h:40<d) (e:R= -1)
 | many (h:d<=40) (h1:100<any.length) (e:R= -1)
 | val (h:d<=40) (h1:any.length<=100) (h2:2000<v.length) (e:R= -1)
 | att (h:d<=40) (h1:any.length<=100) (h2:v.length<=2000) (h3:2000<a.length) (e:R= -1)
 | fst (h:d<=40) (h1:any.length<=100) (h2:v.length<=2000) (h3:a.length<=2000) (h4:2000<f.length) (e:R= -1)
 | lst (h:d<=40) (h1:any.length<=100) (h2:v.length<=2000) (h3:a.length<=2000) (h4:f.length<=2000) (h5:2000<l.length) (e:R= -1)
 | go (h:d<=40) (h1:any.length<=100) (h2:v.length<=2000) (h3:a.length<=2000) (h4:f.length<=2000) (h5:l.length<=2000)
  (e1:(∃x∈any,2000<x.length)->R= -1) (e2:(∀x∈any,x.length<=2000)->R=FT.smallL ps (d+1) (n-1))
theorem fsmall_way (k:Int) (a v f l:List UInt8) (any:List (List UInt8)) (ps:List FT) (d n:Int):SmallWay a v f l any ps d n (FT.small (.mk k a v f l any ps) d n):=by
 simp only[FT.small]
 by_cases h:40<d
 ·exact .deep h (by rw[if_pos (by simp[h])])
 by_cases h1:100<any.length
 ·exact .many (by omega) h1 (by rw[if_pos (by simp[h1])])
 by_cases h2:2000<v.length
 ·exact .val (by omega) (by omega) h2 (by rw[if_pos (by simp[h2])])
 by_cases h3:2000<a.length
 ·exact .att (by omega) (by omega) (by omega) h3 (by rw[if_pos (by simp[h3])])
 by_cases h4:2000<f.length
 ·exact .fst (by omega) (by omega) (by omega) (by omega) h4 (by rw[if_pos (by simp[h4])])
 by_cases h5:2000<l.length
 ·exact .lst (by omega) (by omega) (by omega) (by omega) (by omega) h5 (by rw[if_pos (by simp[h5])])
 refine .go (by omega) (by omega) (by omega) (by omega) (by omega) (by omega) (fun ⟨x,hx,hl⟩=>?_) (fun hx=>?_)
 ·rw [if_neg (by omega),if_pos (by simp only[List.any_eq_true,decide_eq_true_eq];exact⟨x,hx,hl⟩)]
 ·rw [if_neg (by omega),if_neg (by
   simp only[List.any_eq_true,decide_eq_true_eq]
   rintro ⟨x,h6,h7⟩
   have:=hx x h6
   omega)]
theorem fsmall_any (t:FT):∀(d n:Int),0<=d->d<=41->0<=n->n<=60->∀(w:World) (u0 u1 u2 u3 u4 u5 u6:Value),FIn w w.heap.size t [u0,u1,u2,u3,u4,u5,u6]->
  Calls Tryz.prog 57 #[.agg #[u0,u1,u2,u3,u4,u5,u6],.int .i64 d,.int .i64 n] w fun e w'=>e=.returned (.int .i64 (t.small d n))/\Below w.heap.size w w':=by
 induction t using FT.induct
 rename_i k a v f l any ps ih
 intro d n hd0 hd hn0 hn w u0 u1 u2 u3 u4 u5 u6 hF
 simp only[FIn] at hF
 obtain⟨A,c,D,dd,xs,hcs,⟨hml,hnl⟩,hA,hD,hP⟩:=hF
 cases hcs
 unfold maxLen at hml hnl
 have ha:=zBt a
 have hv:=zBt v
 have hf:=zBt f
 have hl:=zBt l
 obtain⟨R,hR⟩:∃R,FT.small (.mk k a v f l any ps) d n=R:=⟨_,rfl⟩
 have hB:=FT.small_bound (.mk k a v f l any ps) d n hn0 hn
 have hW:=fsmall_way k a v f l any ps d n
 rw[hR] at hW hB ⊢
 obtain⟨m,hm⟩:∃m,any.length=m:=⟨_,rfl⟩
 obtain⟨np,hnp⟩:∃np,ps.length=np:=⟨_,rfl⟩
 have hml1:(m:Int)<=9223372036854775807:=by omega
 have hnl1:(np:Int)<=9223372036854775807:=by omega
 have hX:=Box7.new w k (txt a) (txt v) (txt f) (txt l) A any.length c D ps.length dd 25
 have hb0:=below1 w (.cells #[.int .i64 k,.string (txt a),.string (txt v),.string (txt f),.string (txt l),.slice A any.length c,.slice D ps.length dd] 25)
 rw[hm,hnp] at hX hb0 ⊢
 cases hW with
 | deep h e0=>
  subst e0
  obtain⟨_,c0,c1,c2,c3,c4,c5,c6⟩:=hX
  have y0:40<d:=h
  generalize txt a=sa at *
  generalize txt v=sv at *
  generalize txt f=sf at *
  generalize txt l=sl at *
  clear ih hR hB hA hD hP ha hv hf hl hm hnp hml hnl hd0 hd hn0 hn
  go_enter Tryz.func57,Tryz.ntmps57
  go_wp2
  go_ret
  exact⟨rfl,hb0⟩
 | many h h1 e0=>
  subst e0
  obtain⟨_,c0,c1,c2,c3,c4,c5,c6⟩:=hX
  have z0:¬(40<d):=by omega
  have z1:((100:Int)<(m:Int)):=by omega
  generalize txt a=sa at *
  generalize txt v=sv at *
  generalize txt f=sf at *
  generalize txt l=sl at *
  clear ih hR hB hA hD hP ha hv hf hl hm hnp hml hnl hd0 hd hn0 hn
  go_enter Tryz.func57,Tryz.ntmps57
  go_wp2
  go_ret
  exact⟨rfl,hb0⟩
 | val h h1 h2 e0=>
  subst e0
  obtain⟨_,c0,c1,c2,c3,c4,c5,c6⟩:=hX
  have z0:¬(40<d):=by omega
  have z1:¬((100:Int)<(m:Int)):=by omega
  have z2:((2000:Int)<((txt v).size:Int)):=by omega
  generalize txt a=sa at *
  generalize txt v=sv at *
  generalize txt f=sf at *
  generalize txt l=sl at *
  clear ih hR hB hA hD hP ha hv hf hl hm hnp hml hnl hd0 hd hn0 hn
  go_enter Tryz.func57,Tryz.ntmps57
  go_wp2
  go_ret
  exact⟨rfl,hb0⟩
 | att h h1 h2 h3 e0=>
  subst e0
  obtain⟨_,c0,c1,c2,c3,c4,c5,c6⟩:=hX
  have z0:¬(40<d):=by omega
  have z1:¬((100:Int)<(m:Int)):=by omega
  have z2:¬((2000:Int)<((txt v).size:Int)):=by omega
  have z3:((2000:Int)<((txt a).size:Int)):=by omega
  generalize txt a=sa at *
  generalize txt v=sv at *
  generalize txt f=sf at *
  generalize txt l=sl at *
  clear ih hR hB hA hD hP ha hv hf hl hm hnp hml hnl hd0 hd hn0 hn
  go_enter Tryz.func57,Tryz.ntmps57
  go_wp2
  go_ret
  exact⟨rfl,hb0⟩
 | fst h h1 h2 h3 h4 e0=>
  subst e0
  obtain⟨_,c0,c1,c2,c3,c4,c5,c6⟩:=hX
  have z0:¬(40<d):=by omega
  have z1:¬((100:Int)<(m:Int)):=by omega
  have z2:¬((2000:Int)<((txt v).size:Int)):=by omega
  have z3:¬((2000:Int)<((txt a).size:Int)):=by omega
  have z4:((2000:Int)<((txt f).size:Int)):=by omega
  generalize txt a=sa at *
  generalize txt v=sv at *
  generalize txt f=sf at *
  generalize txt l=sl at *
  clear ih hR hB hA hD hP ha hv hf hl hm hnp hml hnl hd0 hd hn0 hn
  go_enter Tryz.func57,Tryz.ntmps57
  go_wp2
  go_ret
  exact⟨rfl,hb0⟩
 | lst h h1 h2 h3 h4 h5 e0=>
  subst e0
  obtain⟨_,c0,c1,c2,c3,c4,c5,c6⟩:=hX
  have z0:¬(40<d):=by omega
  have z1:¬((100:Int)<(m:Int)):=by omega
  have z2:¬((2000:Int)<((txt v).size:Int)):=by omega
  have z3:¬((2000:Int)<((txt a).size:Int)):=by omega
  have z4:¬((2000:Int)<((txt f).size:Int)):=by omega
  have z5:((2000:Int)<((txt l).size:Int)):=by omega
  generalize txt a=sa at *
  generalize txt v=sv at *
  generalize txt f=sf at *
  generalize txt l=sl at *
  clear ih hR hB hA hD hP ha hv hf hl hm hnp hml hnl hd0 hd hn0 hn
  go_enter Tryz.func57,Tryz.ntmps57
  go_wp2
  go_ret
  exact⟨rfl,hb0⟩
 | go h h1 h2 h3 h4 h5 e1 e2=>
  have z0:¬(40<d):=by omega
  have z1:¬((100:Int)<(m:Int)):=by omega
  have z2:¬((2000:Int)<((txt v).size:Int)):=by omega
  have z3:¬((2000:Int)<((txt a).size:Int)):=by omega
  have z4:¬((2000:Int)<((txt f).size:Int)):=by omega
  have z5:¬((2000:Int)<((txt l).size:Int)):=by omega
  have HX:=hide hX
  have HE1:=hide e1
  have HE2:=hide e2
  have HA:=hide hA
  have HD:=hide hD
  have HP:=hide hP
  have Hih:=hide ih
  have Hm:=hide hm
  have Hnp:=hide hnp
  have HBd:=hide hB
  obtain⟨_,c0,c1,c2,c3,c4,c5,c6⟩:=hX
  generalize txt a=sa at *
  generalize txt v=sv at *
  generalize txt f=sf at *
  generalize txt l=sl at *
  clear ih hR hB hA hD hP ha hv hf hl hm hnp hml hnl e1 e2 h1 h2 h3 h4 h5
  go_enter Tryz.func57,Tryz.ntmps57
  go_wp2
  go_loopg [44] m (fun r s44 wx=>∃i:Nat,i+r=m/\s44=.int .i64 (i:Int)/\Hid (Below w.heap.size w wx/\Box7 wx w.heap.size k sa sv sf sl A m c D np dd)/\Hid (∀x∈any.take i,x.length<=2000))
  case atStart=>exact⟨0,by omega,rfl,hide ⟨hb0,HX.out⟩,hide fun x hx=>by simp at hx⟩
  case round=>
   obtain⟨i,hig,rfl,hbr,hpre⟩:=hrel
   obtain⟨hb1,hX1⟩:=hbr.out
   clear c0 c1 c2 c3 c4 c5 c6 HX hb0
   cases gk with
   | succ r=>
    have hi:i<m:=by omega
    have hiz:(i:Int)<(m:Int):=by omega
    obtain⟨x,hx⟩:∃x,any[i]?=some x:=⟨_,List.getElem?_eq_getElem (by rw[Hm.out];exact hi)⟩
    have HA1:=HA.out
    rw[Hm.out] at HA1
    obtain⟨g,o,hAe,hg,hc⟩:=HA1.texts (fun h=>by rw[h] at hx;simp at hx)
    subst hAe
    have x0:=(hb1.cell (p:=⟨g,o+i,none⟩) hg).trans (hc i x hx)
    have hxs:=zBt x
    obtain⟨_,c0,c1,c2,c3,c4,c5,c6⟩:=hX1
    by_cases hxl:2000<x.length
    ·have zx:(2000:Int)<((txt x).size:Int):=by omega
     have hRr:Hid (R= -1):=hide (HE1.out ⟨x,List.mem_of_getElem? hx,hxl⟩)
     generalize txt x=sx at *
     clear HA1 hc hx hxs hxl HE1 HE2 HA HD HP Hih Hm Hnp HBd hpre
     go_wp2
     go_ret
     exact⟨by rw[hRr.out];rfl,hb1⟩
    ·have zx:¬((2000:Int)<((txt x).size:Int)):=by omega
     have hpre2:Hid (∀y∈any.take (i+1),y.length<=2000):=hide (fun y hy=>by
      rw[List.take_add_one,hx] at hy
      simp only[Option.toList_some,List.mem_append,List.mem_singleton] at hy
      rcases hy with hy | rfl
      ·exact hpre.out y hy
      ·omega)
     generalize txt x=sx at *
     clear HA1 hc hx hxs hxl HE1 HE2 HA HD HP Hih Hm Hnp HBd hpre
     go_wp2
     go_roundg r
     case measure=>omega
     case rel=>exact⟨i+1,by omega,by go_num,hbr,hpre2⟩
   | zero=>
    obtain rfl:i=m:=by omega
    have hiz:¬((i:Int)<(i:Int)):=by omega
    have HR:Hid (R=FT.smallL (ps.drop 0) (d+1) (n-1)):=hide (HE2.out (by
     have:=hpre.out
     rwa [List.take_of_length_le (by rw[Hm.out];exact Nat.le_refl _)] at this))
    obtain⟨_,c0,c1,c2,c3,c4,c5,c6⟩:=hX1
    clear HE1 HE2 HA hpre Hm
    go_wp2
    go_loopg [2,60] np (fun r s2 s60 wx=>∃(j:Nat) (q:Int),j+r=np/\s60=.int .i64 (j:Int)/\s2=.int .i64 q/\ -1<=q/\q<=60/\Hid (Below w.heap.size w wx/\Box7 wx w.heap.size k sa sv sf sl A i c D np dd)/\Hid (R=FT.smallL (ps.drop j) (d+1) q))
    case atStart=>exact⟨0,n-1,by omega,rfl,by go_num,by omega,by omega,hbr,HR⟩
    case round=>
     obtain⟨j,q,hjg,rfl,rfl,hq0,hq1,hbr2,hpre2⟩:=hrel
     obtain⟨hb2,hX2⟩:=hbr2.out
     clear c0 c1 c2 c3 c4 c5 c6 hbr hb1
     cases gk with
     | zero=>
      obtain rfl:j=np:=by omega
      have hjz:¬((j:Int)<(j:Int)):=by omega
      have hq:Hid (R=q):=hide (by rw[hpre2.out,FT.smallL_end (by rw[Hnp.out];exact Nat.le_refl _)])
      obtain⟨_,c0,c1,c2,c3,c4,c5,c6⟩:=hX2
      clear HD HP Hih Hnp HBd hpre2 HR
      go_wp2
      go_ret
      exact⟨by rw[hq.out];rfl,hb2⟩
     | succ r=>
      have hj:j<np:=by omega
      have hjz:(j:Int)<(np:Int):=by omega
      obtain⟨p,hp⟩:∃p,ps[j]?=some p:=⟨_,List.getElem?_eq_getElem (by rw[Hnp.out];exact hj)⟩
      have hst:=FT.smallL_drop (d:=d+1) (n:=q) hp
      rw[<-hpre2.out] at hst
      by_cases hqn:q<0
      ·rw [if_pos hqn] at hst
       have Hst:=hide hst
       obtain⟨_,c0,c1,c2,c3,c4,c5,c6⟩:=hX2
       clear HD HP Hih Hnp HBd hpre2 HR hp hst
       go_wp2
       go_ret
       exact⟨by rw[Hst.out];rfl,hb2⟩
      ·rw [if_neg hqn] at hst
       have Hst:=hide hst
       have HD1:=HD.out
       obtain⟨g,o,hDe,hg,hparts⟩:=HD1.part HP.out (fun h=>by rw[h] at hp;simp at hp)
       subst hDe
       obtain⟨u0,u1,u2,u3,u4,u5,u6,hpart⟩:=hparts j p hp
       obtain⟨hcp2,_,x0,x1,x2,x3,x4,x5,x6⟩:=hpart.below hb2
       replace hcp2:=hcp2.upto hb2.size
       have hcall:=Hih.out p (List.mem_of_getElem? hp) (d+1) q (by omega) (by omega) (by omega) hq1 wr _ _ _ _ _ _ _ hcp2
       have hbd:=FT.small_bound p (d+1) q (by omega) hq1
       obtain⟨z,hz⟩:∃z,p.small (d+1) q=z:=⟨_,rfl⟩
       rw[hz] at hcall hbd Hst
       obtain⟨_,c0,c1,c2,c3,c4,c5,c6⟩:=hX2
       have HX2:=hide hbr2.out.2
       clear HD HP Hih Hnp HBd hpre2 HR hp hst HD1 hparts hpart hcp2 hz
       go_wp2_with (go_at_call 57;fail)
       refine hcall.mono ?_
       rintro e w3 ⟨rfl,hb3⟩
       have hb4:=hb2.trans (hb3.mono hb2.size)
       have hX3:Hid (Below w.heap.size w w3/\Box7 w3 w.heap.size k sa sv sf sl A i c (some ⟨g,o,none⟩) np dd):=hide ⟨hb4,HX2.out.below HX2.out.lt hb3⟩
       clear hcall hb3 hb4 hbr2 hb2 c0 c1 c2 c3 c4 c5 c6
       go_wp2
       go_roundg r
       case measure=>omega
       case rel=>exact⟨j+1,z,by omega,by go_num,rfl,hbd.1,hbd.2,hX3,Hst⟩
theorem FT.all_mk (k:Int) (a v f l:List UInt8) (any:List (List UInt8)) (ps:List FT):FT.all (.mk k a v f l any ps)=(FT.bare (.mk k a v f l any ps)&&ps.all FT.all):=by
 rw[FT.all,FT.allL_all]
def FT.smallB (t:FT):Bool:=decide (0<=t.small 0 60)
theorem fSmall_any (t:FT) (w:World) (u0 u1 u2 u3 u4 u5 u6:Value) (hF:FIn w w.heap.size t [u0,u1,u2,u3,u4,u5,u6]):
  Calls Tryz.prog 20 #[.agg #[u0,u1,u2,u3,u4,u5,u6]] w fun e w'=>e=.returned (.bool t.smallB)/\Below w.heap.size w w':=by
 have hF0:=hF
 cases t with
 | mk k a v f l any ps=>
 simp only[FIn] at hF
 obtain⟨A,c,D,dd,xs,hcs,_⟩:=hF
 cases hcs
 obtain⟨m,hm⟩:∃m,any.length=m:=⟨_,rfl⟩
 obtain⟨np,hnp⟩:∃np,ps.length=np:=⟨_,rfl⟩
 have hX:=Box7.new w k (txt a) (txt v) (txt f) (txt l) A any.length c D ps.length dd 25
 have hb0:=below1 w (.cells #[.int .i64 k,.string (txt a),.string (txt v),.string (txt f),.string (txt l),.slice A any.length c,.slice D ps.length dd] 25)
 rw[hm,hnp] at hX hb0 hF0 ⊢
 obtain⟨t0,ht0⟩:∃t0,FT.mk k a v f l any ps=t0:=⟨_,rfl⟩
 rw[ht0] at hF0 ⊢
 have hS:=fsmall_any t0 0 60 (by omega) (by omega) (by omega) (by omega) _ _ _ _ _ _ _ _ (hF0.grow hb0)
 obtain⟨y,hy⟩:∃y,t0.small 0 60=y:=⟨_,rfl⟩
 obtain⟨R,hR⟩:∃R,t0.smallB=R:=⟨_,rfl⟩
 rw[hR]
 have HR:Hid (R=decide (0<=y)):=hide (by rw[<-hR,FT.smallB,hy])
 rw[hy] at hS
 clear hF0 hR hm hnp ht0 hy
 generalize txt a=sa at *
 generalize txt v=sv at *
 generalize txt f=sf at *
 generalize txt l=sl at *
 obtain⟨_,c0,c1,c2,c3,c4,c5,c6⟩:=hX
 go_enter Tryz.func20,Tryz.ntmps20
 go_wp2_with (go_at_call 57;fail)
 refine hS.mono ?_
 rintro e w2 ⟨rfl,hb2⟩
 have hb3:=hb0.trans (hb2.mono hb0.size)
 clear hS hb2 hb0 c0 c1 c2 c3 c4 c5 c6
 go_wp2
 go_ret
 exact⟨by rw[HR.out];rfl,hb3⟩
end Go.Proofs.YtcpjmgfloimfhaaGreat
