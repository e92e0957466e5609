/- Several texts in one: LFilterC, HCount, HAttr. By an AI agent. -/
import Derived.Test.YtpkedjohgmnhhaaGreatLFilterP
import Derived.Test.YtpkedjohgmnhhaaGreatM06
import Derived.Deep.CutRange
import Derived.Deep.CutBlock
set_option maxRecDepth 100000
set_option maxHeartbeats 32000000
set_option linter.unusedSimpArgs false
namespace Go.Proofs.YtpkedjohgmnhhaaGreat
open Go.RowKit
set_option linter.unusedVariables false
theorem ste_plain {W:World} {fb lo2:Nat} {k:Int} {a v f l:List UInt8} (h:Blk W fb [.int .i64 k,.string (txt a),.string (txt v),.string (txt f),.string (txt l),.slice none 0 0,.slice none 0 0]):StE elF fb lo2 (.mk k a v f l [] []) W:=
 ⟨⟨_,⟨none,0,none,0,[],rfl,⟨by unfold maxLen;simp,by unfold maxLen;simp⟩,HasP.none _,HasP.none _,rfl⟩,h⟩⟩
theorem pcsCl (k:Int) (al vl:List UInt8) (w:World) (b fb lo2:Nat) (hfb:fb<lo2) (hlo:lo2≤w.heap.size) (hbf:b≠fb) (hb2:b<lo2) (hB:Blk w fb [.int .i64 k,.string (txt al),.string (txt vl),.string ⟨#[]⟩,.string ⟨#[]⟩,.slice none 0 0,.slice none 0 0]):
  ClosedBy (fun x W=>StE elF fb lo2 (.mk k al vl x.1 x.2.2 x.2.1 []) W) (fun k=>k=fb) Rd.piecesR w b 183 #[.pointer (some ⟨fb,0,none⟩)]:=by
 intro W lo g F φ hfr hwl hr
 have hpc:=pieces_any W lo g b F φ fb lo2 k (txt al) (txt vl) al vl rfl rfl hr hfb (by have:=hfr.size;omega) hbf hb2 (by omega) (hB.fr hfr (fun e=>hbf e.symm))
 try simp only[List.append_toArray,List.cons_append,List.nil_append]
 clear hfr hwl hr hB hfb hlo hbf hb2
 go_enter Tryz.func183,Tryz.ntmps183
 go_wp2_with (go_at_call 184;fail)
 refine hpc.mono ?_
 rintro e w1 hpost
 obtain⟨x,F',rfl,h1,h2,h3,h4⟩:=hpost.out
 clear hpost hpc
 go_wp2
 go_returns
 exact⟨⟨x,F',rfl,h1,h2,h3,h4⟩⟩
theorem filtC_sub (d:Nat):FiltC d 4:=by
 intro w b fb db lo2 hfb hlo hbf hb2 hdb hdf hdn hB hD W lo g F φ hfr hwl hr
 have hgl:=hr.log
 have hlt:=hr.lt
 have hbo:=hr.blo
 have HB0:=hide (hB.fr hfr (fun e=>hbf e.symm))
 have HD0:Hid (W.cell? ⟨db,0,none⟩=some (.int .i64 ((d:Int)+1))):=hide ((hfr.cell (p:=⟨db,0,none⟩) (by simp only;omega) hdn).trans hD)
 have Hn:=hide (And.intro hfb (And.intro hlo (And.intro hbf (And.intro hb2 (And.intro hdb (And.intro hdf (And.intro hdn (And.intro hwl (And.intro hgl (And.intro hlt (And.intro hbo hfr.size)))))))))))
 have HR0:=hide hr
 have HF0:Hid (Fr (own3 (fun k=>k=fb) g b) W W):=hide (Fr.refl _ _)
 try simp only[List.append_toArray,List.cons_append,List.nil_append]
 have kk:=HB0.out.cells 0 _ rfl
 clear hfr hwl hr hgl hlt hbo hB hD hfb hlo hbf hb2 hdb hdf hdn
 go_enter Tryz.func182,Tryz.ntmps182
 go_wp2_with (go_at_call 130;fail)
 refine (text_any W lo g b F φ HR0.out).mono ?_
 rintro e w1 hpost1
 obtain⟨x1,v1,F1,rfl,hrep1,hr1,hf1,hq1⟩:=hpost1.out
 clear hpost1
 unfold repT at hrep1
 subst hrep1
 have hB1:=HB0.out.fr hf1 (by rintro (q | q)<;>(have:=Hn.out;omega))
 have hs1:=hf1.size
 have HB1:=hide (hB1.set 1 (.string (txt x1)) (by simp))
 have HR1:=hide (hr1.fr (Fr.setCell (X:=fun k=>k=fb) w1 ⟨fb,1,none⟩ (.string (txt x1)) rfl) (by have:=Hn.out;omega) (by have:=Hn.out;omega) (fun k h1 h2=>by have:=Hn.out;omega))
 have HF1:=hide ((HF0.out.trans (hf1.mono (Y:=own3 (fun k=>k=fb) g b) fun k _ q=>by rcases q with q | q;exact .inl q;exact .inr (.inl q))).trans (Fr.setCell (X:=own3 (fun k=>k=fb) g b) w1 ⟨fb,1,none⟩ (.string (txt x1)) (.inr (.inr rfl))))
 have HQ1:=hide hq1
 have k1:=hB1.cells 1 _ rfl
 have z1:=hB1.fz
 have Hs1:=hide hs1
 clear hr1 hf1 hq1 hB1 hs1
 have hin:=inner_any (fun x W=>StE elF fb lo2 (.mk 4 x1 [] x.1 x.2.2 x.2.1 []) W) (fun k=>k=fb) Rd.piecesR (w1.setCell ⟨fb,1,none⟩ (.string (txt x1))) lo g b F1 _ 48 183 #[.pointer (some ⟨fb,0,none⟩)] (fun args w=>by go_simp) HR1.out
  (fun W2 hW2=>pcsCl 4 x1 [] W2 b fb lo2 Hn.out.1 (by have:=hW2.size;have:=HF1.out.size;have:=Hn.out;omega) Hn.out.2.2.1 Hn.out.2.2.2.1 (HB1.out.fr hW2 (by rintro (q | q)<;>(have:=Hn.out;omega))))
  (fun y Wa Wb q1 q2=>StE.fr (x:=FT.mk 4 x1 [] y.1 y.2.2 y.2.1 []) (W:=Wa) (W':=Wb) (X:=fun k=>k=b) q1 q2 (by have:=Hn.out;omega) (fun k hk=>by have:=Hn.out;omega)) (fun k hk=>by subst hk;have:=HB1.out.lt;have:=Hn.out;exact⟨by omega,by omega,by omega⟩)
 rw[show c8 48=.int .u8 48 from rfl] at hin
 go_wp2_with (go_at_call 28;fail)
 refine hin.mono ?_
 rintro e w2 hpost
 obtain⟨x,F2,rfl,hst,hr2,hf2,hq2⟩:=hpost.out
 clear hpost hin
 have hap:=and_post (p:=Rd.textR) (q:=Rd.innerR 48 Rd.piecesR) (f:=fun a p=>FT.mk 4 a [] p.1 p.2.2 p.2.1 []) HQ1.out hq2
 rw[hap.1] at hr2
 have HFF:=hide (HF1.out.trans hf2)
 have HR2:=hide hr2
 have HQ:=hide hap.2
 have HS:=hide hst
 clear hr2 hf2 hq2 hap hst k1 z1 kk
 go_wp2
 go_returns
 exact⟨⟨_,F2,rfl,HS.out,HR2.out,HFF.out,HQ.out⟩⟩
theorem filtC_val (d:Nat) (k:Int) (hk:k=3∨k=5∨k=6∨k=8):FiltC d k:=by
 intro w b fb db lo2 hfb hlo hbf hb2 hdb hdf hdn hB hD W lo g F φ hfr hwl hr
 have hgl:=hr.log
 have hlt:=hr.lt
 have hbo:=hr.blo
 have HB0:=hide (hB.fr hfr (fun e=>hbf e.symm))
 have HD0:Hid (W.cell? ⟨db,0,none⟩=some (.int .i64 ((d:Int)+1))):=hide ((hfr.cell (p:=⟨db,0,none⟩) (by simp only;omega) hdn).trans hD)
 have Hn:=hide (And.intro hfb (And.intro hlo (And.intro hbf (And.intro hb2 (And.intro hdb (And.intro hdf (And.intro hdn (And.intro hwl (And.intro hgl (And.intro hlt (And.intro hbo hfr.size)))))))))))
 have HR0:=hide hr
 have HF0:Hid (Fr (own3 (fun k=>k=fb) g b) W W):=hide (Fr.refl _ _)
 try simp only[List.append_toArray,List.cons_append,List.nil_append]
 have kk:=HB0.out.cells 0 _ rfl
 clear hfr hwl hr hgl hlt hbo hB hD hfb hlo hbf hb2 hdb hdf hdn
 have Hk:=hide hk
 have hbd:∀G,Rd.bodyR d k G=Rd.andR Rd.textR Rd.textR (fun a v=>FT.mk k a v [] [] [] []) G:=fun G=>by unfold Rd.bodyR;rw[if_neg (by omega),if_neg (by omega),if_pos hk]
 have Hbd:=hide hbd
 clear hbd
 have z0:(k==0)=false:=beq_false_of_ne (by omega)
 have z1_:(k==1)=false:=beq_false_of_ne (by omega)
 have z2_:(k==2)=false:=beq_false_of_ne (by omega)
 have z4_:(k==4)=false:=beq_false_of_ne (by omega)
 clear z0 z1_ z2_ z4_
 rcases hk with rfl | rfl | rfl | rfl
 ·go_enter Tryz.func182,Tryz.ntmps182
  go_wp2_with (go_at_call 130;fail)
  refine (text_any W lo g b F φ HR0.out).mono ?_
  rintro e w1 hpost1
  obtain⟨x1,v1,F1,rfl,hrep1,hr1,hf1,hq1⟩:=hpost1.out
  clear hpost1
  unfold repT at hrep1
  subst hrep1
  have hB1:=HB0.out.fr hf1 (by rintro (q | q)<;>(have:=Hn.out;omega))
  have hs1:=hf1.size
  have HB1:=hide (hB1.set 1 (.string (txt x1)) (by simp))
  have HR1:=hide (hr1.fr (Fr.setCell (X:=fun k=>k=fb) w1 ⟨fb,1,none⟩ (.string (txt x1)) rfl) (by have:=Hn.out;omega) (by have:=Hn.out;omega) (fun k h1 h2=>by have:=Hn.out;omega))
  have HF1:=hide ((HF0.out.trans (hf1.mono (Y:=own3 (fun k=>k=fb) g b) fun k _ q=>by rcases q with q | q;exact .inl q;exact .inr (.inl q))).trans (Fr.setCell (X:=own3 (fun k=>k=fb) g b) w1 ⟨fb,1,none⟩ (.string (txt x1)) (.inr (.inr rfl))))
  have HQ1:=hide hq1
  have k1:=hB1.cells 1 _ rfl
  have z1:=hB1.fz
  have Hs1:=hide hs1
  clear hr1 hf1 hq1 hB1 hs1
  go_wp2_with (go_at_call 130;fail)
  refine (text_any (w1.setCell ⟨fb,1,none⟩ (.string (txt x1))) lo g b F1 _ HR1.out).mono ?_
  rintro e w2 hpost2
  obtain⟨x2,v2,F2,rfl,hrep2,hr2,hf2,hq2⟩:=hpost2.out
  clear hpost2
  unfold repT at hrep2
  subst hrep2
  have hB2:=HB1.out.fr hf2 (by rintro (q | q)<;>(have:=Hn.out;omega))
  have hs2:=hf2.size
  have HB2:=hide (hB2.set 2 (.string (txt x2)) (by simp))
  have HR2:=hide (hr2.fr (Fr.setCell (X:=fun k=>k=fb) w2 ⟨fb,2,none⟩ (.string (txt x2)) rfl) (by have:=Hn.out;omega) (by have:=Hn.out;omega) (fun k h1 h2=>by have:=Hn.out;omega))
  have HF2:=hide ((HF1.out.trans (hf2.mono (Y:=own3 (fun k=>k=fb) g b) fun k _ q=>by rcases q with q | q;exact .inl q;exact .inr (.inl q))).trans (Fr.setCell (X:=own3 (fun k=>k=fb) g b) w2 ⟨fb,2,none⟩ (.string (txt x2)) (.inr (.inr rfl))))
  have HQ2:=hide hq2
  have k2:=hB2.cells 2 _ rfl
  have z2:=hB2.fz
  have Hs2:=hide hs2
  clear hr2 hf2 hq2 hB2 hs2 k1 z1
  go_wp2
  go_returns
  have hap:=and_post (p:=Rd.textR) (q:=Rd.textR) (f:=fun a v=>FT.mk 3 a v [] [] [] []) HQ1.out HQ2.out
  have hr2:=HR2.out
  rw[hap.1,←Hbd.out] at hr2
  have hq:=hap.2
  refine⟨⟨.mk 3 x1 x2 [] [] [] [],F2,rfl,ste_plain HB2.out,hr2,HF2.out,fun h0 x0 F0 hh=>hq h0 x0 F0 (by rw[←Hbd.out];exact hh)⟩⟩
 ·go_enter Tryz.func182,Tryz.ntmps182
  go_wp2_with (go_at_call 130;fail)
  refine (text_any W lo g b F φ HR0.out).mono ?_
  rintro e w1 hpost1
  obtain⟨x1,v1,F1,rfl,hrep1,hr1,hf1,hq1⟩:=hpost1.out
  clear hpost1
  unfold repT at hrep1
  subst hrep1
  have hB1:=HB0.out.fr hf1 (by rintro (q | q)<;>(have:=Hn.out;omega))
  have hs1:=hf1.size
  have HB1:=hide (hB1.set 1 (.string (txt x1)) (by simp))
  have HR1:=hide (hr1.fr (Fr.setCell (X:=fun k=>k=fb) w1 ⟨fb,1,none⟩ (.string (txt x1)) rfl) (by have:=Hn.out;omega) (by have:=Hn.out;omega) (fun k h1 h2=>by have:=Hn.out;omega))
  have HF1:=hide ((HF0.out.trans (hf1.mono (Y:=own3 (fun k=>k=fb) g b) fun k _ q=>by rcases q with q | q;exact .inl q;exact .inr (.inl q))).trans (Fr.setCell (X:=own3 (fun k=>k=fb) g b) w1 ⟨fb,1,none⟩ (.string (txt x1)) (.inr (.inr rfl))))
  have HQ1:=hide hq1
  have k1:=hB1.cells 1 _ rfl
  have z1:=hB1.fz
  have Hs1:=hide hs1
  clear hr1 hf1 hq1 hB1 hs1
  go_wp2_with (go_at_call 130;fail)
  refine (text_any (w1.setCell ⟨fb,1,none⟩ (.string (txt x1))) lo g b F1 _ HR1.out).mono ?_
  rintro e w2 hpost2
  obtain⟨x2,v2,F2,rfl,hrep2,hr2,hf2,hq2⟩:=hpost2.out
  clear hpost2
  unfold repT at hrep2
  subst hrep2
  have hB2:=HB1.out.fr hf2 (by rintro (q | q)<;>(have:=Hn.out;omega))
  have hs2:=hf2.size
  have HB2:=hide (hB2.set 2 (.string (txt x2)) (by simp))
  have HR2:=hide (hr2.fr (Fr.setCell (X:=fun k=>k=fb) w2 ⟨fb,2,none⟩ (.string (txt x2)) rfl) (by have:=Hn.out;omega) (by have:=Hn.out;omega) (fun k h1 h2=>by have:=Hn.out;omega))
  have HF2:=hide ((HF1.out.trans (hf2.mono (Y:=own3 (fun k=>k=fb) g b) fun k _ q=>by rcases q with q | q;exact .inl q;exact .inr (.inl q))).trans (Fr.setCell (X:=own3 (fun k=>k=fb) g b) w2 ⟨fb,2,none⟩ (.string (txt x2)) (.inr (.inr rfl))))
  have HQ2:=hide hq2
  have k2:=hB2.cells 2 _ rfl
  have z2:=hB2.fz
  have Hs2:=hide hs2
  clear hr2 hf2 hq2 hB2 hs2 k1 z1
  go_wp2
  go_returns
  have hap:=and_post (p:=Rd.textR) (q:=Rd.textR) (f:=fun a v=>FT.mk 5 a v [] [] [] []) HQ1.out HQ2.out
  have hr2:=HR2.out
  rw[hap.1,←Hbd.out] at hr2
  have hq:=hap.2
  refine⟨⟨.mk 5 x1 x2 [] [] [] [],F2,rfl,ste_plain HB2.out,hr2,HF2.out,fun h0 x0 F0 hh=>hq h0 x0 F0 (by rw[←Hbd.out];exact hh)⟩⟩
 ·go_enter Tryz.func182,Tryz.ntmps182
  go_wp2_with (go_at_call 130;fail)
  refine (text_any W lo g b F φ HR0.out).mono ?_
  rintro e w1 hpost1
  obtain⟨x1,v1,F1,rfl,hrep1,hr1,hf1,hq1⟩:=hpost1.out
  clear hpost1
  unfold repT at hrep1
  subst hrep1
  have hB1:=HB0.out.fr hf1 (by rintro (q | q)<;>(have:=Hn.out;omega))
  have hs1:=hf1.size
  have HB1:=hide (hB1.set 1 (.string (txt x1)) (by simp))
  have HR1:=hide (hr1.fr (Fr.setCell (X:=fun k=>k=fb) w1 ⟨fb,1,none⟩ (.string (txt x1)) rfl) (by have:=Hn.out;omega) (by have:=Hn.out;omega) (fun k h1 h2=>by have:=Hn.out;omega))
  have HF1:=hide ((HF0.out.trans (hf1.mono (Y:=own3 (fun k=>k=fb) g b) fun k _ q=>by rcases q with q | q;exact .inl q;exact .inr (.inl q))).trans (Fr.setCell (X:=own3 (fun k=>k=fb) g b) w1 ⟨fb,1,none⟩ (.string (txt x1)) (.inr (.inr rfl))))
  have HQ1:=hide hq1
  have k1:=hB1.cells 1 _ rfl
  have z1:=hB1.fz
  have Hs1:=hide hs1
  clear hr1 hf1 hq1 hB1 hs1
  go_wp2_with (go_at_call 130;fail)
  refine (text_any (w1.setCell ⟨fb,1,none⟩ (.string (txt x1))) lo g b F1 _ HR1.out).mono ?_
  rintro e w2 hpost2
  obtain⟨x2,v2,F2,rfl,hrep2,hr2,hf2,hq2⟩:=hpost2.out
  clear hpost2
  unfold repT at hrep2
  subst hrep2
  have hB2:=HB1.out.fr hf2 (by rintro (q | q)<;>(have:=Hn.out;omega))
  have hs2:=hf2.size
  have HB2:=hide (hB2.set 2 (.string (txt x2)) (by simp))
  have HR2:=hide (hr2.fr (Fr.setCell (X:=fun k=>k=fb) w2 ⟨fb,2,none⟩ (.string (txt x2)) rfl) (by have:=Hn.out;omega) (by have:=Hn.out;omega) (fun k h1 h2=>by have:=Hn.out;omega))
  have HF2:=hide ((HF1.out.trans (hf2.mono (Y:=own3 (fun k=>k=fb) g b) fun k _ q=>by rcases q with q | q;exact .inl q;exact .inr (.inl q))).trans (Fr.setCell (X:=own3 (fun k=>k=fb) g b) w2 ⟨fb,2,none⟩ (.string (txt x2)) (.inr (.inr rfl))))
  have HQ2:=hide hq2
  have k2:=hB2.cells 2 _ rfl
  have z2:=hB2.fz
  have Hs2:=hide hs2
  clear hr2 hf2 hq2 hB2 hs2 k1 z1
  go_wp2
  go_returns
  have hap:=and_post (p:=Rd.textR) (q:=Rd.textR) (f:=fun a v=>FT.mk 6 a v [] [] [] []) HQ1.out HQ2.out
  have hr2:=HR2.out
  rw[hap.1,←Hbd.out] at hr2
  have hq:=hap.2
  refine⟨⟨.mk 6 x1 x2 [] [] [] [],F2,rfl,ste_plain HB2.out,hr2,HF2.out,fun h0 x0 F0 hh=>hq h0 x0 F0 (by rw[←Hbd.out];exact hh)⟩⟩
 ·go_enter Tryz.func182,Tryz.ntmps182
  go_wp2_with (go_at_call 130;fail)
  refine (text_any W lo g b F φ HR0.out).mono ?_
  rintro e w1 hpost1
  obtain⟨x1,v1,F1,rfl,hrep1,hr1,hf1,hq1⟩:=hpost1.out
  clear hpost1
  unfold repT at hrep1
  subst hrep1
  have hB1:=HB0.out.fr hf1 (by rintro (q | q)<;>(have:=Hn.out;omega))
  have hs1:=hf1.size
  have HB1:=hide (hB1.set 1 (.string (txt x1)) (by simp))
  have HR1:=hide (hr1.fr (Fr.setCell (X:=fun k=>k=fb) w1 ⟨fb,1,none⟩ (.string (txt x1)) rfl) (by have:=Hn.out;omega) (by have:=Hn.out;omega) (fun k h1 h2=>by have:=Hn.out;omega))
  have HF1:=hide ((HF0.out.trans (hf1.mono (Y:=own3 (fun k=>k=fb) g b) fun k _ q=>by rcases q with q | q;exact .inl q;exact .inr (.inl q))).trans (Fr.setCell (X:=own3 (fun k=>k=fb) g b) w1 ⟨fb,1,none⟩ (.string (txt x1)) (.inr (.inr rfl))))
  have HQ1:=hide hq1
  have k1:=hB1.cells 1 _ rfl
  have z1:=hB1.fz
  have Hs1:=hide hs1
  clear hr1 hf1 hq1 hB1 hs1
  go_wp2_with (go_at_call 130;fail)
  refine (text_any (w1.setCell ⟨fb,1,none⟩ (.string (txt x1))) lo g b F1 _ HR1.out).mono ?_
  rintro e w2 hpost2
  obtain⟨x2,v2,F2,rfl,hrep2,hr2,hf2,hq2⟩:=hpost2.out
  clear hpost2
  unfold repT at hrep2
  subst hrep2
  have hB2:=HB1.out.fr hf2 (by rintro (q | q)<;>(have:=Hn.out;omega))
  have hs2:=hf2.size
  have HB2:=hide (hB2.set 2 (.string (txt x2)) (by simp))
  have HR2:=hide (hr2.fr (Fr.setCell (X:=fun k=>k=fb) w2 ⟨fb,2,none⟩ (.string (txt x2)) rfl) (by have:=Hn.out;omega) (by have:=Hn.out;omega) (fun k h1 h2=>by have:=Hn.out;omega))
  have HF2:=hide ((HF1.out.trans (hf2.mono (Y:=own3 (fun k=>k=fb) g b) fun k _ q=>by rcases q with q | q;exact .inl q;exact .inr (.inl q))).trans (Fr.setCell (X:=own3 (fun k=>k=fb) g b) w2 ⟨fb,2,none⟩ (.string (txt x2)) (.inr (.inr rfl))))
  have HQ2:=hide hq2
  have k2:=hB2.cells 2 _ rfl
  have z2:=hB2.fz
  have Hs2:=hide hs2
  clear hr2 hf2 hq2 hB2 hs2 k1 z1
  go_wp2
  go_returns
  have hap:=and_post (p:=Rd.textR) (q:=Rd.textR) (f:=fun a v=>FT.mk 8 a v [] [] [] []) HQ1.out HQ2.out
  have hr2:=HR2.out
  rw[hap.1,←Hbd.out] at hr2
  have hq:=hap.2
  refine⟨⟨.mk 8 x1 x2 [] [] [] [],F2,rfl,ste_plain HB2.out,hr2,HF2.out,fun h0 x0 F0 hh=>hq h0 x0 F0 (by rw[←Hbd.out];exact hh)⟩⟩
theorem filtC_no (d:Nat) (k:Int) (hk:k≠0∧k≠1∧k≠2∧k≠3∧k≠4∧k≠5∧k≠6∧k≠8):FiltC d k:=by
 intro w b fb db lo2 hfb hlo hbf hb2 hdb hdf hdn hB hD W lo g F φ hfr hwl hr
 have hgl:=hr.log
 have hlt:=hr.lt
 have hbo:=hr.blo
 have HB0:=hide (hB.fr hfr (fun e=>hbf e.symm))
 have HD0:Hid (W.cell? ⟨db,0,none⟩=some (.int .i64 ((d:Int)+1))):=hide ((hfr.cell (p:=⟨db,0,none⟩) (by simp only;omega) hdn).trans hD)
 have Hn:=hide (And.intro hfb (And.intro hlo (And.intro hbf (And.intro hb2 (And.intro hdb (And.intro hdf (And.intro hdn (And.intro hwl (And.intro hgl (And.intro hlt (And.intro hbo hfr.size)))))))))))
 have HR0:=hide hr
 have HF0:Hid (Fr (own3 (fun k=>k=fb) g b) W W):=hide (Fr.refl _ _)
 try simp only[List.append_toArray,List.cons_append,List.nil_append]
 have kk:=HB0.out.cells 0 _ rfl
 clear hfr hwl hr hgl hlt hbo hB hD hfb hlo hbf hb2 hdb hdf hdn
 have hbd:∀G,Rd.bodyR d k G=none:=fun G=>by unfold Rd.bodyR;rw[if_neg (by omega),if_neg (by omega),if_neg (by omega)]
 have Hbd:=hide hbd
 obtain⟨h0,h1,h2,h3,h4,h5,h6,h8⟩:=hk
 have e0:(k==0)=false:=beq_false_of_ne h0
 have e1:(k==1)=false:=beq_false_of_ne h1
 have e2:(k==2)=false:=beq_false_of_ne h2
 have e3:(k==3)=false:=beq_false_of_ne h3
 have e4:(k==4)=false:=beq_false_of_ne h4
 have e5:(k==5)=false:=beq_false_of_ne h5
 have e6:(k==6)=false:=beq_false_of_ne h6
 have e8:(k==8)=false:=beq_false_of_ne h8
 clear hbd h0 h1 h2 h3 h4 h5 h6 h8
 have hfl:=fail_any W lo g b F φ HR0.out
 go_enter Tryz.func182,Tryz.ntmps182
 go_wp2_with (go_at_call 78;fail)
 refine hfl.mono ?_
 rintro e w1 ⟨rfl,hr1,hf1⟩
 have hB1:=HB0.out.fr hf1 (by rintro (q | q)<;>(have:=Hn.out;omega))
 have HB1:=hide hB1
 have HR1:=hide hr1
 have HF1:=hide (hf1.mono (Y:=own3 (fun k=>k=fb) g b) fun k _ q=>by rcases q with q | q;exact .inl q;exact .inr (.inl q))
 clear hfl hB1 hr1 hf1 kk e0 e1 e2 e3 e4 e5 e6 e8
 go_wp2
 go_returns
 refine⟨⟨.mk k [] [] [] [] [] [],F,rfl,ste_plain HB1.out,?_,HF1.out,fun h0 x0 F0 hh=>by rw[Hbd.out] at hh;cases hh⟩⟩
 rw[Hbd.out]
 simpa using HR1.out
theorem filtC_all (d:Nat) (hd:d≤20) (hP:FiltP d) (k:Int):FiltC d k:=by
 by_cases h1:k=0∨k=1∨k=2
 ·exact filtC_parts d hd hP k h1
 by_cases h4:k=4
 ·subst h4;exact filtC_sub d
 by_cases h3:k=3∨k=5∨k=6∨k=8
 ·exact filtC_val d k h3
 exact filtC_no d k ⟨by omega,by omega,by omega,by omega,h4,by omega,by omega,by omega⟩
end Go.Proofs.YtpkedjohgmnhhaaGreat
namespace Go.Proofs.YtpkedjohgmnhhaaGreat
open Go.RowKit
set_option linter.unusedVariables false
theorem rnodes_any (t:FT):∀(w:World) (u0 u1 u2 u3 u4 u5 u6:Value),FIn w w.heap.size t [u0,u1,u2,u3,u4,u5,u6]→
  Calls Tryz.prog 114 #[.agg #[u0,u1,u2,u3,u4,u5,u6]] w fun e w'=>e=.returned (.int .i64 ((min t.nodes 41:Nat):Int))∧Below w.heap.size w w':=by
 induction t using FT.induct
 rename_i k a v f l any ps ih
 intro w u0 u1 u2 u3 u4 u5 u6 hF
 simp only[FIn] at hF
 obtain⟨A,c,D,dd,xs,hcs,⟨hml,hnl⟩,hA,hD,hP⟩:=hF
 cases hcs
 unfold maxLen at hml hnl
 obtain⟨m,hm⟩:∃m,any.length=m:=⟨_,rfl⟩
 obtain⟨np,hnp⟩:∃np,ps.length=np:=⟨_,rfl⟩
 have hnl1:(np:Int)≤9223372036854775807:=by omega
 have hX:=Box7.new w k (txt a) (txt v) (txt f) (txt l) A any.length c D ps.length dd 25
 have hb0:=below1 w (.cells #[.int .i64 k,.string (txt a),.string (txt v),.string (txt f),.string (txt l),.slice A any.length c,.slice D ps.length dd] 25)
 rw[hm,hnp] at hX hb0 ⊢
 obtain⟨t0,ht0⟩:∃t0,FT.mk k a v f l any ps=t0:=⟨_,rfl⟩
 have htp:t0.parts=ps:=by rw[←ht0];rfl
 obtain⟨R,hR⟩:∃R:Nat,min t0.nodes 41=R:=⟨_,rfl⟩
 rw[ht0,hR]
 have HR:=hide hR
 have Ht:=hide htp
 have Ht0:=hide ht0
 have HD:=hide hD
 have HP:=hide hP
 have Hih:=hide ih
 have Hnp:=hide hnp
 have HX:=hide hX
 generalize txt a=sa at *
 generalize txt v=sv at *
 generalize txt f=sf at *
 generalize txt l=sl at *
 clear ih hA hD hP hm hnp hml hnl hR ht0 htp hX
 obtain⟨_,c0,c1,c2,c3,c4,c5,c6⟩:=HX.out
 go_enter Tryz.func114,Tryz.ntmps114
 go_wp2
 go_loopg [3,8] np (fun r s3 s8 wx=>∃(j q:Nat),j+r=np∧s8=.int .i64 (j:Int)∧s3=.int .i64 (q:Int)∧q≤81∧Hid (q=FT.capL (ps.take j)+1)∧Hid (Below w.heap.size w wx∧Box7 wx w.heap.size k sa sv sf sl A m c D np dd))
 case atStart=>exact⟨0,1,by omega,rfl,rfl,by omega,hide (by simp[FT.capL]),hide ⟨hb0,HX.out⟩⟩
 case round=>
  obtain⟨j,q,hjg,rfl,rfl,hq1,hpre,hbr⟩:=hrel
  obtain⟨hb2,hX2⟩:=hbr.out
  clear HX hb0 c0 c1 c2 c3 c4 c5 c6
  obtain⟨_,c0,c1,c2,c3,c4,c5,c6⟩:=hX2
  cases gk with
  | zero=>
   obtain rfl:j=np:=by omega
   have hjz:¬((j:Int)<(j:Int)):=by omega
   have hq:Hid (min q 41=R):=hide (by
    rw[hpre.out,List.take_of_length_le (by rw[Hnp.out];exact Nat.le_refl _),←HR.out,←Ht0.out,FT.cap_min,FT.nodes])
   clear HD HP Hih Hnp hpre HR Ht Ht0
   go_wp2
   all_goals (go_ret;refine⟨?_,hb2⟩;rw[←hq.out];(try simp);(try omega))
  | succ r=>
   have hj:j<np:=by omega
   have hjz:(j:Int)<(np:Int):=by omega
   obtain⟨p,hp⟩:∃p,ps[j]?=some p:=⟨_,List.getElem?_eq_getElem (by rw[Hnp.out];exact hj)⟩
   by_cases hqn:40<q
   ·have zq:(40:Int)<(q:Int):=by omega
    have hq:Hid (min q 41=R):=hide (by
     have:=FT.cap_over (ps:=ps) (i:=j) (by rw[hpre.out] at hqn;exact hqn) t0 Ht.out
     rw[HR.out] at this
     omega)
    clear HD HP Hih Hnp hpre HR Ht Ht0 hp
    go_wp2
    all_goals (go_ret;refine⟨?_,hb2⟩;rw[←hq.out];(try simp);(try omega))
   ·have zq:¬((40:Int)<(q:Int)):=by omega
    have HD1:=HD.out
    rw[Hnp.out] at HD1
    have HP1:=HP.out
    obtain⟨g,o,hDe,hg,hparts⟩:=HD.out.part HP1 (fun h=>by rw[h] at hp;simp at hp)
    subst hDe
    obtain⟨u0,u1,u2,u3,u4,u5,u6,hpart⟩:=hparts j p hp
    obtain⟨hcp2,_,x0,x1,x2,x3,x4,x5,x6⟩:=hpart.below hb2
    replace hcp2:=hcp2.upto hb2.size
    have hcall:=Hih.out p (List.mem_of_getElem? hp) wr _ _ _ _ _ _ _ hcp2
    obtain⟨y,hy⟩:∃y,min p.nodes 41=y:=⟨_,rfl⟩
    have hy41:y≤41:=by omega
    have hst:Hid (q+y=FT.capL (ps.take (j+1))+1):=hide (by rw[FT.capL_take hp,hpre.out,←hy];omega)
    rw[hy] at hcall
    have HX2:=hide hbr.out.2
    clear HD HP Hih Hnp hpre HR Ht Ht0 hp HD1 HP1 hparts hpart hcp2 hy
    go_wp2_with (go_at_call 114;fail)
    refine hcall.mono ?_
    rintro e w3 ⟨rfl,hb3⟩
    have hb4:=hb2.trans (hb3.mono hb2.size)
    have hX3:Hid (Below w.heap.size w w3∧Box7 w3 w.heap.size k sa sv sf sl A m c (some ⟨g,o,none⟩) np dd):=hide ⟨hb4,HX2.out.below HX2.out.lt hb3⟩
    clear hcall hb3 hb4 hbr hb2 c0 c1 c2 c3 c4 c5 c6
    go_wp2
    go_roundg r
    case measure=>omega
    case rel=>exact⟨j+1,q+y,by omega,by go_num,by go_num,by omega,hst,hX3⟩
theorem rdeep_any (t:FT):∀(M:Nat),M≤20→∀(w:World) (u0 u1 u2 u3 u4 u5 u6:Value),FIn w w.heap.size t [u0,u1,u2,u3,u4,u5,u6]→
  Calls Tryz.prog 115 #[.agg #[u0,u1,u2,u3,u4,u5,u6],.int .i64 (M:Int)] w fun e w'=>e=.returned (.int .i64 ((min t.depth (M+1):Nat):Int))∧Below w.heap.size w w':=by
 induction t using FT.induct
 rename_i k a v f l any ps ih
 intro M hM w u0 u1 u2 u3 u4 u5 u6 hF
 simp only[FIn] at hF
 obtain⟨A,c,D,dd,xs,hcs,⟨hml,hnl⟩,hA,hD,hP⟩:=hF
 cases hcs
 unfold maxLen at hml hnl
 obtain⟨m,hm⟩:∃m,any.length=m:=⟨_,rfl⟩
 obtain⟨np,hnp⟩:∃np,ps.length=np:=⟨_,rfl⟩
 have hnl1:(np:Int)≤9223372036854775807:=by omega
 have hX:=Box7.new w k (txt a) (txt v) (txt f) (txt l) A any.length c D ps.length dd 25
 have hb0:=below1 w (.cells #[.int .i64 k,.string (txt a),.string (txt v),.string (txt f),.string (txt l),.slice A any.length c,.slice D ps.length dd] 25)
 rw[hm,hnp] at hX hb0 ⊢
 obtain⟨t0,ht0⟩:∃t0,FT.mk k a v f l any ps=t0:=⟨_,rfl⟩
 have htp:t0.parts=ps:=by rw[←ht0];rfl
 obtain⟨R,hR⟩:∃R:Nat,min t0.depth (M+1)=R:=⟨_,rfl⟩
 rw[ht0,hR]
 have HR:=hide hR
 have Ht0:=hide ht0
 have HD:=hide hD
 have HP:=hide hP
 have Hih:=hide ih
 have Hnp:=hide hnp
 have HX:=hide hX
 generalize txt a=sa at *
 generalize txt v=sv at *
 generalize txt f=sf at *
 generalize txt l=sl at *
 clear ih hA hD hP hm hnp hml hnl hR ht0 htp hX
 obtain⟨_,c0,c1,c2,c3,c4,c5,c6⟩:=HX.out
 cases M with
 | zero=>
  have hR1:Hid (R=1):=hide (by have:=FT.depth_pos t0;have:=HR.out;omega)
  clear HD HP Hih Hnp HR Ht0
  go_enter Tryz.func115,Tryz.ntmps115
  go_wp2
  go_ret
  exact⟨by rw[hR1.out];rfl,hb0⟩
 | succ M=>
  have zM:(((M+1:Nat):Int)==0)=false:=beq_false_of_ne (by omega)
  have z20:M+1≤20:=hM
  obtain⟨y0,hy0⟩:∃y0:Int,((M+1:Nat):Int)=y0:=⟨_,rfl⟩
  have hy1:1≤y0:=by omega
  have hy2:y0≤20:=by omega
  have HY:Hid ((M:Int)=y0-1):=hide (by omega)
  rw[hy0] at zM ⊢
  clear hy0
  go_enter Tryz.func115,Tryz.ntmps115
  go_wp2
  go_loopg [5,12] np (fun r s5 s12 wx=>∃(j q:Nat),j+r=np∧s12=.int .i64 (j:Int)∧s5=.int .i64 (q:Int)∧q≤20∧Hid (q=FT.deepL (ps.take j) (M+1))∧Hid (Below w.heap.size w wx∧Box7 wx w.heap.size k sa sv sf sl A m c D np dd))
  case atStart=>exact⟨0,0,by omega,rfl,rfl,by omega,hide (by simp[FT.deepL]),hide ⟨hb0,HX.out⟩⟩
  case round=>
   obtain⟨j,q,hjg,rfl,rfl,hq1,hpre,hbr⟩:=hrel
   obtain⟨hb2,hX2⟩:=hbr.out
   clear HX hb0 c0 c1 c2 c3 c4 c5 c6
   obtain⟨_,c0,c1,c2,c3,c4,c5,c6⟩:=hX2
   cases gk with
   | zero=>
    obtain rfl:j=np:=by omega
    have hjz:¬((j:Int)<(j:Int)):=by omega
    have hq:Hid (q+1=R):=hide (by
     rw[hpre.out,List.take_of_length_le (by rw[Hnp.out];exact Nat.le_refl _),←HR.out,←Ht0.out,FT.deepL_min,FT.depth]
     omega)
    clear HD HP Hih Hnp hpre HR Ht0
    go_wp2
    go_ret
    refine⟨?_,hb2⟩
    rw[←hq.out]
    (try simp)
    (try go_num)
   | succ r=>
    have hj:j<np:=by omega
    have hjz:(j:Int)<(np:Int):=by omega
    obtain⟨p,hp⟩:∃p,ps[j]?=some p:=⟨_,List.getElem?_eq_getElem (by rw[Hnp.out];exact hj)⟩
    have HD1:=HD.out
    rw[Hnp.out] at HD1
    have HP1:=HP.out
    obtain⟨g,o,hDe,hg,hparts⟩:=HD.out.part HP1 (fun h=>by rw[h] at hp;simp at hp)
    subst hDe
    obtain⟨u0,u1,u2,u3,u4,u5,u6,hpart⟩:=hparts j p hp
    obtain⟨hcp2,_,x0,x1,x2,x3,x4,x5,x6⟩:=hpart.below hb2
    replace hcp2:=hcp2.upto hb2.size
    have hcall:=Hih.out p (List.mem_of_getElem? hp) M (by omega) wr _ _ _ _ _ _ _ hcp2
    obtain⟨y,hy⟩:∃y,min p.depth (M+1)=y:=⟨_,rfl⟩
    have hy20:y≤20:=by omega
    have hst:Hid (max q y=FT.deepL (ps.take (j+1)) (M+1)):=hide (by rw[FT.deepL_take hp,←hpre.out,hy])
    rw[hy,HY.out] at hcall
    have HX2:=hide hbr.out.2
    clear HD HP Hih Hnp hpre HR Ht0 hp HD1 HP1 hparts hpart hcp2 hy
    go_wp2_with (go_at_call 115;fail)
    refine hcall.mono ?_
    rintro e w3 ⟨rfl,hb3⟩
    have hb4:=hb2.trans (hb3.mono hb2.size)
    have hX3:Hid (Below w.heap.size w w3∧Box7 w3 w.heap.size k sa sv sf sl A m c (some ⟨g,o,none⟩) np dd):=hide ⟨hb4,HX2.out.below HX2.out.lt hb3⟩
    clear hcall hb3 hb4 hbr hb2 c0 c1 c2 c3 c4 c5 c6
    go_wp2
    all_goals (go_roundg r)
    all_goals (first | omega | exact⟨j+1,max q y,by omega,by go_num,by congr 1;omega,by omega,hst,hX3⟩)
end Go.Proofs.YtpkedjohgmnhhaaGreat
namespace Go.Proofs.YtpkedjohgmnhhaaGreat
open Go.RowKit
set_option linter.unusedVariables false
theorem rletter_any (c:UInt8) (w:World):Calls Tryz.prog 181 #[.int .u8 (c.toNat:Int)] w fun e w'=>e=.returned (.bool (FT.letter c))∧w'=w:=by
 have hlt:c.toNat<256:=c.toNat_lt
 obtain⟨b,hb⟩:∃b,FT.letter c=b:=⟨_,rfl⟩
 rw[hb]
 unfold FT.letter at hb
 generalize c.toNat=n at *
 by_cases h1:97≤n
 ·have z1:(97:Int)≤(n:Int):=by omega
  by_cases h2:n≤122
  ·have z2:(n:Int)≤122:=by omega
   obtain rfl:b=true:=by rw[←hb];simp;omega
   clear hb h1 h2
   go_enter Tryz.func181,Tryz.ntmps181
   go_wp2
   go_ret
   exact⟨rfl,rfl⟩
  ·have z2:¬((n:Int)≤122):=by omega
   have z3:(65:Int)≤(n:Int):=by omega
   have z4:¬((n:Int)≤90):=by omega
   obtain rfl:b=false:=by rw[←hb];simp;omega
   clear hb h1 h2
   go_enter Tryz.func181,Tryz.ntmps181
   go_wp2
   go_ret
   exact⟨rfl,rfl⟩
 ·have z1:¬((97:Int)≤(n:Int)):=by omega
  by_cases h3:65≤n
  ·have z3:(65:Int)≤(n:Int):=by omega
   by_cases h4:n≤90
   ·have z4:(n:Int)≤90:=by omega
    obtain rfl:b=true:=by rw[←hb];simp;omega
    clear hb h1 h3 h4
    go_enter Tryz.func181,Tryz.ntmps181
    go_wp2
    go_ret
    exact⟨rfl,rfl⟩
   ·have z4:¬((n:Int)≤90):=by omega
    obtain rfl:b=false:=by rw[←hb];simp;omega
    clear hb h1 h3 h4
    go_enter Tryz.func181,Tryz.ntmps181
    go_wp2
    go_ret
    exact⟨rfl,rfl⟩
  ·have z3:¬((65:Int)≤(n:Int)):=by omega
   obtain rfl:b=false:=by rw[←hb];simp;omega
   clear hb h1 h3
   go_enter Tryz.func181,Tryz.ntmps181
   go_wp2
   go_ret
   exact⟨rfl,rfl⟩
theorem rfits_any (t:List UInt8) (w:World):Calls Tryz.prog 171 #[.string (txt t)] w fun e w'=>e=.returned (.bool (FT.fits t))∧w'=w:=by
 have hsz:=txt_size t
 obtain⟨b,hb⟩:∃b,FT.fits t=b:=⟨_,rfl⟩
 rw[hb]
 unfold FT.fits at hb
 generalize t.length=n at *
 generalize txt t=X at *
 by_cases h1:1≤n
 ·have z1:(1:Int)≤(X.size:Int):=by omega
  by_cases h2:n≤200
  ·have z2:(X.size:Int)≤200:=by omega
   obtain rfl:b=true:=by rw[←hb];simp;omega
   clear hb h1 h2 hsz
   go_enter Tryz.func171,Tryz.ntmps171
   go_wp2
   go_ret
   exact⟨rfl,rfl⟩
  ·have z2:¬((X.size:Int)≤200):=by omega
   obtain rfl:b=false:=by rw[←hb];simp;omega
   clear hb h1 h2 hsz
   go_enter Tryz.func171,Tryz.ntmps171
   go_wp2
   go_ret
   exact⟨rfl,rfl⟩
 ·have z1:¬((1:Int)≤(X.size:Int)):=by omega
  obtain rfl:b=false:=by rw[←hb];simp;omega
  clear hb h1 hsz
  go_enter Tryz.func171,Tryz.ntmps171
  go_wp2
  go_ret
  exact⟨rfl,rfl⟩
theorem txt_at (l:List UInt8) (i:Nat) (hi:i<(txt l).size) (x:UInt8) (h:l[i]?=some x):(txt l)[i]'hi=x:=by
 have:=Lib.data_getElem? (txt l) i hi
 rw[txt_toList,h] at this
 exact (Option.some.inj this).symm
theorem rattr_any (t:List UInt8) (w:World):Calls Tryz.prog 170 #[.string (txt t)] w fun e w'=>e=.returned (.bool (FT.attrOk t))∧w'=w:=by
 have hsz:=txt_size t
 have HL:=fun c w=>rletter_any c w
 obtain⟨b,hb⟩:∃b,FT.attrOk t=b:=⟨_,rfl⟩
 rw[hb]
 have hat:=txt_at t
 have Hb:=hide hb
 by_cases h1:t.length<1
 ·have z1:((txt t).size:Int)<1:=by omega
  obtain rfl:b=false:=by rw[←hb];unfold FT.attrOk;simp;omega
  clear hb hat HL
  generalize txt t=X at *
  go_enter Tryz.func170,Tryz.ntmps170
  go_wp2
  go_ret
  exact⟨rfl,rfl⟩
 by_cases h2:40<t.length
 ·have z1:¬(((txt t).size:Int)<1):=by omega
  have z2:(40:Int)<((txt t).size:Int):=by omega
  obtain rfl:b=false:=by rw[←hb];unfold FT.attrOk;simp;omega
  clear hb hat HL
  generalize txt t=X at *
  go_enter Tryz.func170,Tryz.ntmps170
  go_wp2
  go_ret
  exact⟨rfl,rfl⟩
 have z1:¬(((txt t).size:Int)<1):=by omega
 have z2:¬((40:Int)<((txt t).size:Int)):=by omega
 have z0:(0:Int)<((txt t).size:Int):=by omega
 have n0:0<(txt t).size:=by omega
 obtain⟨x0,hx0⟩:∃x0,t[0]?=some x0:=⟨_,List.getElem?_eq_getElem (by omega)⟩
 have ha0:=hat 0 n0 x0 hx0
 have hok:FT.attrOk t=(FT.letter x0&&t.all FT.sign8):=by
  unfold FT.attrOk
  have e1:t.headD 0=x0:=by cases t with | nil=>simp at hx0 | cons a r=>simpa using hx0
  rw[e1]
  have e2:decide (1≤t.length)=true:=by simp;omega
  have e3:decide (t.length≤40)=true:=by simp;omega
  rw[e2,e3]
  simp
 rw[hok] at Hb
 have hlen:t.length≤40:=by omega
 obtain⟨n,hn⟩:∃n,t.length=n:=⟨_,rfl⟩
 have Hn:=hide hn
 have hX:(txt t).size=n:=by omega
 have hn40:n≤40:=by omega
 have Hat:=hide hat
 clear hb hok h1 h2 hlen hx0 hn hat
 generalize txt t=X at *
 clear hsz
 cases hl0:FT.letter x0 with
 | false=>
  rw[hl0] at Hb
  obtain rfl:b=false:=by rw[←Hb.out];rfl
  have hcall:=HL x0 w
  rw[hl0] at hcall
  rw[←ha0] at hcall
  clear HL Hat Hn hl0 ha0
  go_enter Tryz.func170,Tryz.ntmps170
  go_wp2_with (go_at_call 181;fail)
  refine hcall.mono ?_
  rintro e w1 ⟨rfl,hw1⟩
  obtain rfl:=hw1.symm
  clear hcall hw1
  go_wp2
  go_ret
  exact⟨rfl,rfl⟩
 | true=>
  rw[hl0,Bool.true_and] at Hb
  have hcall:=HL x0 w
  rw[hl0] at hcall
  rw[←ha0] at hcall
  clear hl0 ha0
  go_enter Tryz.func170,Tryz.ntmps170
  go_wp2_with (go_at_call 181;fail)
  refine hcall.mono ?_
  rintro e w1 ⟨rfl,hw1⟩
  obtain rfl:=hw1.symm
  clear hcall hw1
  go_wp2
  go_loopg [3] n (fun r s3 wx=>∃i:Nat,i+r=n∧s3=.int .i64 (i:Int)∧wx=w∧Hid (∀x∈t.take i,FT.sign8 x=true))
  case atStart=>exact⟨0,by omega,rfl,rfl,hide (fun x hx=>by simp at hx)⟩
  case round=>
   obtain⟨i,hig,rfl,hw2,hpre⟩:=hrel
   obtain rfl:=hw2.symm
   clear hw2
   cases gk with
   | zero=>
    obtain rfl:i=n:=by omega
    have hiz:¬((i:Int)<(X.size:Int)):=by omega
    have hbt:Hid (b=true):=hide (by
     rw[←Hb.out]
     have:=hpre.out
     rw[List.take_of_length_le (by rw[Hn.out];exact Nat.le_refl _)] at this
     rwa [List.all_eq_true])
    clear HL Hat Hn hpre Hb
    go_wp2
    go_ret
    exact⟨by rw[hbt.out];rfl,rfl⟩
   | succ r=>
    have hi:i<n:=by omega
    have hiX:i<X.size:=by omega
    have hiz:(i:Int)<(X.size:Int):=by omega
    obtain⟨x,hx⟩:∃x,t[i]?=some x:=⟨_,List.getElem?_eq_getElem (by rw[Hn.out];exact hi)⟩
    have hax:=Hat.out i hiX x hx
    have hcall:=HL x w
    have hyes:FT.sign8 x=true→Hid (∀y∈t.take (i+1),FT.sign8 y=true):=fun h=>hide (fun y hy=>by
     rw[List.take_add_one,hx] at hy
     simp only[Option.toList_some,List.mem_append,List.mem_singleton] at hy
     rcases hy with hy | rfl
     ·exact hpre.out y hy
     ·exact h)
    have hno:FT.sign8 x=false→Hid (b=false):=fun h=>hide (by
     rw[←Hb.out,List.all_eq_false]
     exact⟨x,List.mem_of_getElem? hx,by rw[h];exact Bool.false_ne_true⟩)
    have HY:=hide hyes
    have HN:=hide hno
    clear hyes hno HL Hat Hn hpre Hb hx
    obtain⟨q,hq⟩:∃q:Int,(x.toNat:Int)=q:=⟨_,rfl⟩
    cases hlx:FT.letter x with
    | true=>
     have hst:=HY.out (by unfold FT.sign8;rw[hlx];rfl)
     rw[hlx,←hax] at hcall
     clear HY HN hax hlx hq
     go_wp2_with (go_at_call 181;fail)
     refine hcall.mono ?_
     rintro e w1 ⟨rfl,hw1⟩
     obtain rfl:=hw1.symm
     clear hcall hw1
     go_wp2
     go_roundg r
     case measure=>omega
     case rel=>exact⟨i+1,by omega,by go_num,rfl,hst⟩
    | false=>
     rw[hlx] at hcall
     have hxn:x.toNat<256:=x.toNat_lt
     by_cases d1:48≤x.toNat
     ·have y1:(48:Int)≤(x.toNat:Int):=by omega
      by_cases d2:x.toNat≤57
      ·have y2:(x.toNat:Int)≤57:=by omega
       have hst:=HY.out (by unfold FT.sign8;simp;omega)
       rw[←hax] at hcall y1 y2
       clear HY HN hax hlx hq d1 d2
       go_wp2_with (go_at_call 181;fail)
       refine hcall.mono ?_
       rintro e w1 ⟨rfl,hw1⟩
       obtain rfl:=hw1.symm
       clear hcall hw1
       go_wp2
       go_roundg r
       case measure=>omega
       case rel=>exact⟨i+1,by omega,by go_num,rfl,hst⟩
      ·have y2:¬((x.toNat:Int)≤57):=by omega
       have y3:((x.toNat:Int)==45)=false:=beq_false_of_ne (by omega)
       have y4:decide ((x.toNat:Int)≤57)=false:=decide_eq_false (by omega)
       have y5:((x.toNat:Int)!=45)=true:=by unfold bne;rw[y3];rfl
       have hst:=HN.out (by unfold FT.sign8;rw[hlx];simp;omega)
       rw[←hax] at hcall y1 y2 y3 y4 y5
       clear HY HN hax hlx hq d1 d2
       go_wp2_with (go_at_call 181;fail)
       refine hcall.mono ?_
       rintro e w1 ⟨rfl,hw1⟩
       obtain rfl:=hw1.symm
       clear hcall hw1
       go_wp2
       go_ret
       exact⟨by rw[hst.out];rfl,rfl⟩
     ·have y1:¬((48:Int)≤(x.toNat:Int)):=by omega
      by_cases d3:x.toNat=45
      ·have y3:((x.toNat:Int)==45)=true:=by rw[d3];rfl
       have hst:=HY.out (by unfold FT.sign8;simp;omega)
       rw[←hax] at hcall y1 y3
       clear HY HN hax hlx hq d1 d3
       go_wp2_with (go_at_call 181;fail)
       refine hcall.mono ?_
       rintro e w1 ⟨rfl,hw1⟩
       obtain rfl:=hw1.symm
       clear hcall hw1
       go_wp2
       go_roundg r
       case measure=>omega
       case rel=>exact⟨i+1,by omega,by go_num,rfl,hst⟩
      ·have y3:((x.toNat:Int)==45)=false:=beq_false_of_ne (by omega)
       have hst:=HN.out (by unfold FT.sign8;rw[hlx];simp;omega)
       rw[←hax] at hcall y1 y3
       clear HY HN hax hlx hq d1 d3
       go_wp2_with (go_at_call 181;fail)
       refine hcall.mono ?_
       rintro e w1 ⟨rfl,hw1⟩
       obtain rfl:=hw1.symm
       clear hcall hw1
       go_wp2
       go_ret
       exact⟨by rw[hst.out];rfl,rfl⟩
end Go.Proofs.YtpkedjohgmnhhaaGreat
