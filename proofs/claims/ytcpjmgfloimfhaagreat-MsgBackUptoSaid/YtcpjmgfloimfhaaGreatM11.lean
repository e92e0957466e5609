/- Several texts in one: LSearch, LZero, LCompare. By an AI agent. -/
import Derived.Test.YtcpjmgfloimfhaaGreatM10
import Derived.Test.YtcpjmgfloimfhaaGreatM08
set_option linter.unusedSimpArgs false
set_option linter.unusedVariables false
set_option maxRecDepth 100000
set_option maxHeartbeats 32000000
namespace Go.Proofs.YtcpjmgfloimfhaaGreat
open Go.RowKit
theorem MtIn.putFilt {mb lo3:Nat} {m:MT} {W:World} {t:FT} {c0 c1 c2 c3 c4 c5 c6:Value} (h:MtIn mb lo3 m W) (hml:mb<lo3) (hv:FInP W (fun k=>lo3<=k/\k<W.heap.size) t [c0,c1,c2,c3,c4,c5,c6]):MtIn mb lo3 { m with filt:=t } (W.setCells mb 10 [c0,c1,c2,c3,c4,c5,c6]):=by
 obtain⟨f0,f1,f2,f3,f4,f5,f6,va,vl,vc,vr,vk,hB,hr⟩:=h.out
 have hf:Fr (fun k=>k=mb) W (W.setCells mb 10 [c0,c1,c2,c3,c4,c5,c6]):=Fr.setCells W mb 10 _ rfl
 have hm:∀p:Addr,(lo3<=p.block/\p.block<W.heap.size)->(W.setCells mb 10 [c0,c1,c2,c3,c4,c5,c6]).cell? p=W.cell? p:=fun p hp=>hf.cell hp.2 (by have:=hp.1;omega)
 have hP:∀k,(lo3<=k/\k<W.heap.size)->lo3<=k/\k<(W.setCells mb 10 [c0,c1,c2,c3,c4,c5,c6]).heap.size:=fun k hk=>⟨hk.1,Nat.lt_of_lt_of_le hk.2 hf.size⟩
 have hr2:=hr.move hm hP
 exact⟨c0,c1,c2,c3,c4,c5,c6,va,vl,vc,vr,vk,hB.sets 10 [c0,c1,c2,c3,c4,c5,c6] (by simp[mcells]) _ rfl,⟨hv.move hm hP,hr2.attrs,hr2.lst,hr2.chs,hr2.refs,hr2.ctls⟩⟩
theorem formed_post {t:FT} {F F1:List Fd} {φ:Bool} (h:φ=false->∀x0 F0,Rd.filterR 20 F=some (x0,F0)->t=x0/\F1=F0):
  ((φ||(Rd.filterR 20 F).isNone)|| !t.formed)=(φ||(Rd.formedR F).isNone)/\(φ=false->∀x0 F0,Rd.formedR F=some (x0,F0)->t=x0/\F1=F0):=by
 unfold Rd.formedR
 cases φ with
 | true=>exact⟨rfl,fun h=>by cases h⟩
 | false=>
  cases hp:Rd.filterR 20 F with
  | none=>exact⟨rfl,fun _ x0 F0 h0=>by cases h0⟩
  | some q=>
   obtain⟨y,G⟩:=q
   obtain⟨rfl,rfl⟩:=h rfl _ _ hp
   cases ht:t.formed with
   | true=>exact⟨by simp[ht],fun _ x0 F0 h0=>by simpa[ht] using h0⟩
   | false=>exact⟨by simp[ht],fun _ x0 F0 h0=>by simp[ht] at h0⟩
namespace Rd
def headR:MR:=thenR (thenR (thenR (thenR (thenR nameR (updR (numR 10 2) fun m x=>{ m with scope:=x })) (updR (numR 10 3) fun m x=>{ m with deref:=x })) (updR (numR 2 2147483647) fun m x=>{ m with size:=x })) (updR (numR 2 2147483647) fun m x=>{ m with time:=x })) (updR flagR fun m x=>{ m with tonly:=x })
def searchR:MR:=thenR (thenR headR (updR formedR fun m x=>{ m with filt:=x })) (updR (listR 48 textR) fun m x=>{ m with attrs:=x })
end Rd
theorem search_any (w:World) (lo g b:Nat) (F:List Fd) (φ:Bool) (mb lo3:Nat) (m:MT) (h:RdS w lo g b F φ) (hm:MtIn mb lo3 m w) (hml:mb<lo3) (hg3:g<lo3) (hlo3:lo3<=w.heap.size) (hmb:mb≠g/\mb≠b/\(mb<lo\/g<mb)):
  Calls Tryz.prog 153 #[.pointer (some ⟨g,0,none⟩),.pointer (some ⟨mb,0,none⟩)] w (InPost (MtIn mb lo3) (Rd.searchR m) w (own3 (fun k=>k=mb) g b) lo g b F φ):=by
 have hgl:=h.log
 have hlt:=h.lt
 have hbo:=h.blo
 have HM0:=hide hm
 have Hn:=hide (And.intro hml (And.intro hg3 (And.intro hlo3 (And.intro hmb (And.intro hgl (And.intro hlt hbo))))))
 have HR0:=hide h
 have HF0:Hid (Fr (own3 (fun k=>k=mb) g b) w w):=hide (Fr.refl _ _)
 clear h hm hml hg3 hlo3 hmb hgl hlt hbo
 go_enter Tryz.func153,Tryz.ntmps153
 go_wp2_with (go_at_call 130;fail)
 refine (zA3 w lo g b F φ HR0.out).mono ?_
 rintro e w1 hpost1
 obtain⟨x1,v1,F1,rfl,hrep1,hr1,hf1,hq1⟩:=hpost1.out
 clear hpost1
 unfold repT at hrep1
 subst hrep1
 have hm1:=HM0.out.fr hf1 (by rintro (q | q)<;>(have:=Hn.out;omega)) (fun k hk=>(by rintro (q | q)<;>(have:=Hn.out;omega)))
 obtain⟨f0,f1,f2,f3,f4,f5,f6,va,vl,vc,vr,vk,hB1,hz1⟩:=hm1.out
 have k1:w1.cell? ⟨mb,2,none⟩=some (.string (txt m.name)):=hB1.cells 2 _ rfl
 have z1:=hB1.fz
 have hs1:=hf1.size
 have HM1:=hide (hm1.put (m':=({ m with name:=x1 }:MT)) (by have:=Hn.out;omega) 2 (by omega) (.string (txt x1)) ⟨rfl,rfl,rfl,rfl,rfl,rfl⟩ (fun _ _ _ _ _ _ _ _ _ _ _ _=>rfl))
 have HR1:=hide (hr1.fr (Fr.setCell (X:=fun k=>k=mb) w1 ⟨mb,2,none⟩ (.string (txt x1)) rfl) (by have:=Hn.out;omega) (by have:=Hn.out;omega) (fun k h1 h2=>by have:=Hn.out;omega))
 have HF1:=hide ((HF0.out.trans (hf1.mono (Y:=own3 (fun k=>k=mb) g b) fun k _ q=>by rcases q with q | q;exact .inl q;exact .inr (.inl q))).trans (Fr.setCell (X:=own3 (fun k=>k=mb) g b) w1 ⟨mb,2,none⟩ (.string (txt x1)) (.inr (.inr rfl))))
 have HQ1:=hide hq1
 clear hr1 hf1 hq1 hB1 hz1 hm1 hs1 f0 f1 f2 f3 f4 f5 f6 vl vc vk va vr
 go_wp2_with (go_at_call 81;fail)
 refine (zBr (w1.setCell ⟨mb,2,none⟩ (.string (txt x1))) lo g b F1 _ 10 2 HR1.out).mono ?_
 rintro e w2 hpost2
 obtain⟨x2,v2,F2,rfl,hrep2,hr2,hf2,hq2⟩:=hpost2.out
 clear hpost2
 unfold repI at hrep2
 subst hrep2
 have hm2:=HM1.out.fr hf2 (by rintro (q | q)<;>(have:=Hn.out;omega)) (fun k hk=>(by rintro (q | q)<;>(have:=Hn.out;omega)))
 obtain⟨f0,f1,f2,f3,f4,f5,f6,va,vl,vc,vr,vk,hB2,hz2⟩:=hm2.out
 have k2:w2.cell? ⟨mb,5,none⟩=some (.int .i64 m.scope):=hB2.cells 5 _ rfl
 have z2:=hB2.fz
 have hs2:=hf2.size
 have HM2:=hide (hm2.put (m':=({ ({ m with name:=x1 }:MT) with scope:=x2 }:MT)) (by have:=Hn.out;omega) 5 (by omega) (.int .i64 x2) ⟨rfl,rfl,rfl,rfl,rfl,rfl⟩ (fun _ _ _ _ _ _ _ _ _ _ _ _=>rfl))
 have HR2:=hide (hr2.fr (Fr.setCell (X:=fun k=>k=mb) w2 ⟨mb,5,none⟩ (.int .i64 x2) rfl) (by have:=Hn.out;omega) (by have:=Hn.out;omega) (fun k h1 h2=>by have:=Hn.out;omega))
 have HF2:=hide ((HF1.out.trans (hf2.mono (Y:=own3 (fun k=>k=mb) g b) fun k _ q=>by rcases q with q | q;exact .inl q;exact .inr (.inl q))).trans (Fr.setCell (X:=own3 (fun k=>k=mb) g b) w2 ⟨mb,5,none⟩ (.int .i64 x2) (.inr (.inr rfl))))
 have HQ2:=hide hq2
 clear hr2 hf2 hq2 hB2 hz2 hm2 hs2 f0 f1 f2 f3 f4 f5 f6 vl vc vk va vr
 go_wp2_with (go_at_call 81;fail)
 refine (zBr (w2.setCell ⟨mb,5,none⟩ (.int .i64 x2)) lo g b F2 _ 10 3 HR2.out).mono ?_
 rintro e w3 hpost3
 obtain⟨x3,v3,F3,rfl,hrep3,hr3,hf3,hq3⟩:=hpost3.out
 clear hpost3
 unfold repI at hrep3
 subst hrep3
 have hm3:=HM2.out.fr hf3 (by rintro (q | q)<;>(have:=Hn.out;omega)) (fun k hk=>(by rintro (q | q)<;>(have:=Hn.out;omega)))
 obtain⟨f0,f1,f2,f3,f4,f5,f6,va,vl,vc,vr,vk,hB3,hz3⟩:=hm3.out
 have k3:w3.cell? ⟨mb,6,none⟩=some (.int .i64 m.deref):=hB3.cells 6 _ rfl
 have z3:=hB3.fz
 have hs3:=hf3.size
 have HM3:=hide (hm3.put (m':=({ ({ ({ m with name:=x1 }:MT) with scope:=x2 }:MT) with deref:=x3 }:MT)) (by have:=Hn.out;omega) 6 (by omega) (.int .i64 x3) ⟨rfl,rfl,rfl,rfl,rfl,rfl⟩ (fun _ _ _ _ _ _ _ _ _ _ _ _=>rfl))
 have HR3:=hide (hr3.fr (Fr.setCell (X:=fun k=>k=mb) w3 ⟨mb,6,none⟩ (.int .i64 x3) rfl) (by have:=Hn.out;omega) (by have:=Hn.out;omega) (fun k h1 h2=>by have:=Hn.out;omega))
 have HF3:=hide ((HF2.out.trans (hf3.mono (Y:=own3 (fun k=>k=mb) g b) fun k _ q=>by rcases q with q | q;exact .inl q;exact .inr (.inl q))).trans (Fr.setCell (X:=own3 (fun k=>k=mb) g b) w3 ⟨mb,6,none⟩ (.int .i64 x3) (.inr (.inr rfl))))
 have HQ3:=hide hq3
 clear hr3 hf3 hq3 hB3 hz3 hm3 hs3 f0 f1 f2 f3 f4 f5 f6 vl vc vk va vr
 go_wp2_with (go_at_call 81;fail)
 refine (zBr (w3.setCell ⟨mb,6,none⟩ (.int .i64 x3)) lo g b F3 _ 2 2147483647 HR3.out).mono ?_
 rintro e w4 hpost4
 obtain⟨x4,v4,F4,rfl,hrep4,hr4,hf4,hq4⟩:=hpost4.out
 clear hpost4
 unfold repI at hrep4
 subst hrep4
 have hm4:=HM3.out.fr hf4 (by rintro (q | q)<;>(have:=Hn.out;omega)) (fun k hk=>(by rintro (q | q)<;>(have:=Hn.out;omega)))
 obtain⟨f0,f1,f2,f3,f4,f5,f6,va,vl,vc,vr,vk,hB4,hz4⟩:=hm4.out
 have k4:w4.cell? ⟨mb,7,none⟩=some (.int .i64 m.size):=hB4.cells 7 _ rfl
 have z4:=hB4.fz
 have hs4:=hf4.size
 have HM4:=hide (hm4.put (m':=({ ({ ({ ({ m with name:=x1 }:MT) with scope:=x2 }:MT) with deref:=x3 }:MT) with size:=x4 }:MT)) (by have:=Hn.out;omega) 7 (by omega) (.int .i64 x4) ⟨rfl,rfl,rfl,rfl,rfl,rfl⟩ (fun _ _ _ _ _ _ _ _ _ _ _ _=>rfl))
 have HR4:=hide (hr4.fr (Fr.setCell (X:=fun k=>k=mb) w4 ⟨mb,7,none⟩ (.int .i64 x4) rfl) (by have:=Hn.out;omega) (by have:=Hn.out;omega) (fun k h1 h2=>by have:=Hn.out;omega))
 have HF4:=hide ((HF3.out.trans (hf4.mono (Y:=own3 (fun k=>k=mb) g b) fun k _ q=>by rcases q with q | q;exact .inl q;exact .inr (.inl q))).trans (Fr.setCell (X:=own3 (fun k=>k=mb) g b) w4 ⟨mb,7,none⟩ (.int .i64 x4) (.inr (.inr rfl))))
 have HQ4:=hide hq4
 clear hr4 hf4 hq4 hB4 hz4 hm4 hs4 f0 f1 f2 f3 f4 f5 f6 vl vc vk va vr
 go_wp2_with (go_at_call 81;fail)
 refine (zBr (w4.setCell ⟨mb,7,none⟩ (.int .i64 x4)) lo g b F4 _ 2 2147483647 HR4.out).mono ?_
 rintro e w5 hpost5
 obtain⟨x5,v5,F5,rfl,hrep5,hr5,hf5,hq5⟩:=hpost5.out
 clear hpost5
 unfold repI at hrep5
 subst hrep5
 have hm5:=HM4.out.fr hf5 (by rintro (q | q)<;>(have:=Hn.out;omega)) (fun k hk=>(by rintro (q | q)<;>(have:=Hn.out;omega)))
 obtain⟨f0,f1,f2,f3,f4,f5,f6,va,vl,vc,vr,vk,hB5,hz5⟩:=hm5.out
 have k5:w5.cell? ⟨mb,8,none⟩=some (.int .i64 m.time):=hB5.cells 8 _ rfl
 have z5:=hB5.fz
 have hs5:=hf5.size
 have HM5:=hide (hm5.put (m':=({ ({ ({ ({ ({ m with name:=x1 }:MT) with scope:=x2 }:MT) with deref:=x3 }:MT) with size:=x4 }:MT) with time:=x5 }:MT)) (by have:=Hn.out;omega) 8 (by omega) (.int .i64 x5) ⟨rfl,rfl,rfl,rfl,rfl,rfl⟩ (fun _ _ _ _ _ _ _ _ _ _ _ _=>rfl))
 have HR5:=hide (hr5.fr (Fr.setCell (X:=fun k=>k=mb) w5 ⟨mb,8,none⟩ (.int .i64 x5) rfl) (by have:=Hn.out;omega) (by have:=Hn.out;omega) (fun k h1 h2=>by have:=Hn.out;omega))
 have HF5:=hide ((HF4.out.trans (hf5.mono (Y:=own3 (fun k=>k=mb) g b) fun k _ q=>by rcases q with q | q;exact .inl q;exact .inr (.inl q))).trans (Fr.setCell (X:=own3 (fun k=>k=mb) g b) w5 ⟨mb,8,none⟩ (.int .i64 x5) (.inr (.inr rfl))))
 have HQ5:=hide hq5
 clear hr5 hf5 hq5 hB5 hz5 hm5 hs5 f0 f1 f2 f3 f4 f5 f6 vl vc vk va vr
 go_wp2_with (go_at_call 135;fail)
 refine (flag_any (w5.setCell ⟨mb,8,none⟩ (.int .i64 x5)) lo g b F5 _ HR5.out).mono ?_
 rintro e w6 hpost6
 obtain⟨x6,v6,F6,rfl,hrep6,hr6,hf6,hq6⟩:=hpost6.out
 clear hpost6
 unfold repB at hrep6
 subst hrep6
 have hm6:=HM5.out.fr hf6 (by rintro (q | q)<;>(have:=Hn.out;omega)) (fun k hk=>(by rintro (q | q)<;>(have:=Hn.out;omega)))
 obtain⟨f0,f1,f2,f3,f4,f5,f6,va,vl,vc,vr,vk,hB6,hz6⟩:=hm6.out
 have k6:w6.cell? ⟨mb,9,none⟩=some (.bool m.tonly):=hB6.cells 9 _ rfl
 have z6:=hB6.fz
 have hs6:=hf6.size
 have HM6:=hide (hm6.put (m':=({ ({ ({ ({ ({ ({ m with name:=x1 }:MT) with scope:=x2 }:MT) with deref:=x3 }:MT) with size:=x4 }:MT) with time:=x5 }:MT) with tonly:=x6 }:MT)) (by have:=Hn.out;omega) 9 (by omega) (.bool x6) ⟨rfl,rfl,rfl,rfl,rfl,rfl⟩ (fun _ _ _ _ _ _ _ _ _ _ _ _=>rfl))
 have HR6:=hide (hr6.fr (Fr.setCell (X:=fun k=>k=mb) w6 ⟨mb,9,none⟩ (.bool x6) rfl) (by have:=Hn.out;omega) (by have:=Hn.out;omega) (fun k h1 h2=>by have:=Hn.out;omega))
 have HF6:=hide ((HF5.out.trans (hf6.mono (Y:=own3 (fun k=>k=mb) g b) fun k _ q=>by rcases q with q | q;exact .inl q;exact .inr (.inl q))).trans (Fr.setCell (X:=own3 (fun k=>k=mb) g b) w6 ⟨mb,9,none⟩ (.bool x6) (.inr (.inr rfl))))
 have HQ6:=hide hq6
 clear hr6 hf6 hq6 hB6 hz6 hm6 hs6 f0 f1 f2 f3 f4 f5 f6 vl vc vk va vr
 have q1:=HQ1.out
 have p1:=zAr (u:=fun m x=>{ m with name:=x }) (m:=m) q1
 have t1:=p1
 have q2:=HQ2.out
 rw[p1.1] at q2
 have p2:=zAr (u:=fun m x=>{ m with scope:=x }) (m:=({ m with name:=x1 }:MT)) q2
 have t2:=zAu t1.2 p2.2
 have q3:=HQ3.out
 rw[p1.1,p2.1,t2.1] at q3
 have p3:=zAr (u:=fun m x=>{ m with deref:=x }) (m:=({ ({ m with name:=x1 }:MT) with scope:=x2 }:MT)) q3
 have t3:=zAu t2.2 p3.2
 have q4:=HQ4.out
 rw[p1.1,p2.1,t2.1,p3.1,t3.1] at q4
 have p4:=zAr (u:=fun m x=>{ m with size:=x }) (m:=({ ({ ({ m with name:=x1 }:MT) with scope:=x2 }:MT) with deref:=x3 }:MT)) q4
 have t4:=zAu t3.2 p4.2
 have q5:=HQ5.out
 rw[p1.1,p2.1,t2.1,p3.1,t3.1,p4.1,t4.1] at q5
 have p5:=zAr (u:=fun m x=>{ m with time:=x }) (m:=({ ({ ({ ({ m with name:=x1 }:MT) with scope:=x2 }:MT) with deref:=x3 }:MT) with size:=x4 }:MT)) q5
 have t5:=zAu t4.2 p5.2
 have q6:=HQ6.out
 rw[p1.1,p2.1,t2.1,p3.1,t3.1,p4.1,t4.1,p5.1,t5.1] at q6
 have p6:=zAr (u:=fun m x=>{ m with tonly:=x }) (m:=({ ({ ({ ({ ({ m with name:=x1 }:MT) with scope:=x2 }:MT) with deref:=x3 }:MT) with size:=x4 }:MT) with time:=x5 }:MT)) q6
 have t6:=zAu t5.2 p6.2
 have hR:=HR6.out
 rw[p1.1,p2.1,t2.1,p3.1,t3.1,p4.1,t4.1,p5.1,t5.1,p6.1,t6.1] at hR
 have key:∃mm,MtIn mb lo3 mm (w6.setCell ⟨mb,9,none⟩ (.bool x6))/\RdS (w6.setCell ⟨mb,9,none⟩ (.bool x6)) lo g b F6 (φ||(Rd.headR m F).isNone)/\Fr (own3 (fun k=>k=mb) g b) w (w6.setCell ⟨mb,9,none⟩ (.bool x6))/\(φ=false->∀m0 F0,Rd.headR m F=some (m0,F0)->mm=m0/\F6=F0):=⟨_,HM6.out,hR,HF6.out,t6.2⟩
 have Key:=hide key
 clear key hR t1 t2 t3 t4 t5 t6 p1 p2 p3 p4 p5 p6 q1 q2 q3 q4 q5 q6 HR1 HR2 HR3 HR4 HR5 HR6 HM1 HM2 HM3 HM4 HM5 HM6 HF1 HF2 HF3 HF4 HF5 HF6 HQ1 HQ2 HQ3 HQ4 HQ5 HQ6 k1 k2 k3 k4 k5 z1 z2 z3 z4 z5
 go_upto_region 6 with fail
 clear k6 z6
 generalize (w6.setCell ⟨mb,9,none⟩ (.bool x6))=ws at *
 obtain⟨mm,hM,hR,hF,hT⟩:=Key.out
 clear Key
 have HM:=hide hM
 have HR:=hide hR
 have HF:=hide hF
 have HT:=hide hT
 clear hM hR hF hT HM0 HR0 HF0
 have hfi:=filter_any 20 (by omega) ws lo g b F6 _ HR.out
 rw[show (((20:Nat):Int))=20 from rfl] at hfi
 go_wp2_with (go_at_call 173;fail)
 refine hfi.mono ?_
 rintro e w7 hpost
 obtain⟨x7,v7,F7,rfl,hrep,hr,hf,hq⟩:=hpost.out
 clear hpost hfi
 obtain⟨kk,ka,kv,kf,kl,kany,kps⟩:=x7
 obtain⟨cs7,rfl,hfin⟩:=hrep
 have hfin0:=hfin
 simp only[elF,FInP] at hfin
 obtain⟨A7,c7,D7,d7,xs7,rfl,-,-,-,-⟩:=hfin
 have hm:=HM.out.fr hf (by rintro (q | q)<;>(have:=Hn.out;omega)) (fun k hk=>(by rintro (q | q)<;>(have:=Hn.out;omega)))
 obtain⟨f0,f1,f2,f3,f4,f5,f6,va,vl,vc,vr,vk,hB,hz⟩:=hm.out
 have g0:w7.cell? ⟨mb,10,none⟩=some f0:=hB.cells 10 _ rfl
 have g1:w7.cell? ⟨mb,11,none⟩=some f1:=hB.cells 11 _ rfl
 have g2:w7.cell? ⟨mb,12,none⟩=some f2:=hB.cells 12 _ rfl
 have g3:w7.cell? ⟨mb,13,none⟩=some f3:=hB.cells 13 _ rfl
 have g4:w7.cell? ⟨mb,14,none⟩=some f4:=hB.cells 14 _ rfl
 have g5:w7.cell? ⟨mb,15,none⟩=some f5:=hB.cells 15 _ rfl
 have g6:w7.cell? ⟨mb,16,none⟩=some f6:=hB.cells 16 _ rfl
 have gz:=hB.fz
 have hs:=hf.size
 have HM7:=hide (hm.putFilt (by have:=Hn.out;omega) (FInP.move (fun _ _=>rfl) (fun k hk=>⟨by have:=Hn.out;have:=HF.out.size;omega,hk.2⟩) hfin0))
 have HR7:=hide (hr.fr (Fr.setCells (X:=fun k=>k=mb) w7 mb 10 [.int .i64 kk,.string (txt ka),.string (txt kv),.string (txt kf),.string (txt kl),.slice A7 kany.length c7,.slice D7 kps.length d7] rfl) (by have:=Hn.out;omega) (by have:=Hn.out;omega) (fun k h1 h2=>by have:=Hn.out;omega))
 have HF7:=hide ((HF.out.trans (hf.mono (Y:=own3 (fun k=>k=mb) g b) fun k _ q=>by rcases q with q | q;exact .inl q;exact .inr (.inl q))).trans (Fr.setCells (X:=own3 (fun k=>k=mb) g b) w7 mb 10 [.int .i64 kk,.string (txt ka),.string (txt kv),.string (txt kf),.string (txt kl),.slice A7 kany.length c7,.slice D7 kps.length d7] (.inr (.inr rfl))))
 have HQ7:=hide hq
 clear hr hf hq hB hz hm hs hfin0 va vl vc vr vk HM HR HF
 go_upto_region 7 with fail
 clear g0 g1 g2 g3 g4 g5 g6 gz f0 f1 f2 f3 f4 f5 f6
 rw[show w7.setCells mb 10 [.int .i64 kk,.string (txt ka),.string (txt kv),.string (txt kf),.string (txt kl),.slice A7 kany.length c7,.slice D7 kps.length d7]=(((((((w7.setCell ⟨mb,10,none⟩ (.int .i64 kk)).setCell ⟨mb,11,none⟩ (.string (txt ka))).setCell ⟨mb,12,none⟩ (.string (txt kv))).setCell ⟨mb,13,none⟩ (.string (txt kf))).setCell ⟨mb,14,none⟩ (.string (txt kl))).setCell ⟨mb,15,none⟩ (.slice A7 kany.length c7)).setCell ⟨mb,16,none⟩ (.slice D7 kps.length d7)) from rfl] at HM7 HR7 HF7
 generalize (((((((w7.setCell ⟨mb,10,none⟩ (.int .i64 kk)).setCell ⟨mb,11,none⟩ (.string (txt ka))).setCell ⟨mb,12,none⟩ (.string (txt kv))).setCell ⟨mb,13,none⟩ (.string (txt kf))).setCell ⟨mb,14,none⟩ (.string (txt kl))).setCell ⟨mb,15,none⟩ (.slice A7 kany.length c7)).setCell ⟨mb,16,none⟩ (.slice D7 kps.length d7))=wz at *
 clear w7
 obtain⟨t,ht⟩:∃t,FT.mk kk ka kv kf kl kany kps=t:=⟨_,rfl⟩
 rw[ht] at HM7 HQ7
 clear ht
 obtain⟨f0,f1,f2,f3,f4,f5,f6,va,vl,vc,vr,vk,hB,hz⟩:=HM7.out.out
 have g0:wz.cell? ⟨mb,10,none⟩=some f0:=hB.cells 10 _ rfl
 have g1:wz.cell? ⟨mb,11,none⟩=some f1:=hB.cells 11 _ rfl
 have g2:wz.cell? ⟨mb,12,none⟩=some f2:=hB.cells 12 _ rfl
 have g3:wz.cell? ⟨mb,13,none⟩=some f3:=hB.cells 13 _ rfl
 have g4:wz.cell? ⟨mb,14,none⟩=some f4:=hB.cells 14 _ rfl
 have g5:wz.cell? ⟨mb,15,none⟩=some f5:=hB.cells 15 _ rfl
 have g6:wz.cell? ⟨mb,16,none⟩=some f6:=hB.cells 16 _ rfl
 have hJ:=jFormed_any t wz f0 f1 f2 f3 f4 f5 f6 (FInP.fin (fun k hk=>hk.2) hz.filt)
 have HJ:=hide hJ
 clear hJ hz hB va vl vc vr vk
 go_wp2_with (go_at_call 21;fail)
 refine HJ.out.mono ?_
 rintro e w8 ⟨rfl,hw8⟩
 have hf8:Fr (fun _=>False) wz w8:=Fr.of hw8
 clear hw8 HJ g0 g1 g2 g3 g4 g5 g6
 have HM8:=hide (HM7.out.fr hf8 id (fun _ _=>id))
 have HR8:=hide (HR7.out.fr hf8 id id (fun _ _ _=>id))
 have HF8:=hide (HF7.out.trans (hf8.mono (Y:=own3 (fun k=>k=mb) g b) fun k _ q=>q.elim))
 clear hf8 HM7 HR7 HF7
 have fp:=formed_post (t:=t) (F:=F6) (F1:=F7) HQ7.out
 cases htf:t.formed with
 | true=>
  go_wp2_with (go_at_call 152;fail)
  refine (listT_any Rd.textR text_eats w8 lo g b F7 _ 48 HR8.out (readsT _ b)).mono ?_
  rintro e w10 hpost10
  obtain⟨x10,v10,F10,rfl,hrep10,hr10,hf10,hq10⟩:=hpost10.out
  clear hpost10
  have hrep10x:=hrep10
  obtain⟨A10,c10,xs10,rfl,-⟩:=hrep10x
  have hm10:=HM8.out.fr hf10 (by rintro (q | q)<;>(have:=Hn.out;omega)) (fun k hk=>(by rintro (q | q)<;>(have:=Hn.out;omega)))
  obtain⟨f0,f1,f2,f3,f4,f5,f6,va,vl,vc,vr,vk,hB10,hz10⟩:=hm10.out
  have k10:w10.cell? ⟨mb,17,none⟩=some (va):=hB10.cells 17 _ rfl
  have z10:=hB10.fz
  have hs10:=hf10.size
  have HM10:=hide (hm10.putAttrs (by have:=Hn.out;omega) (zA7 (fun _ _=>rfl) (fun k hk=>⟨by have:=Hn.out;have:=HF8.out.size;omega,hk.2⟩) hrep10))
  have HR10:=hide (hr10.fr (Fr.setCell (X:=fun k=>k=mb) w10 ⟨mb,17,none⟩ (.slice A10 x10.length c10) rfl) (by have:=Hn.out;omega) (by have:=Hn.out;omega) (fun k h1 h2=>by have:=Hn.out;omega))
  have HF10:=hide ((HF8.out.trans (hf10.mono (Y:=own3 (fun k=>k=mb) g b) fun k _ q=>by rcases q with q | q;exact .inl q;exact .inr (.inl q))).trans (Fr.setCell (X:=own3 (fun k=>k=mb) g b) w10 ⟨mb,17,none⟩ (.slice A10 x10.length c10) (.inr (.inr rfl))))
  have HQ10:=hide hq10
  clear hr10 hf10 hq10 hB10 hz10 hm10 hs10 f0 f1 f2 f3 f4 f5 f6 vl vc vk hrep10
  go_wp2
  go_returns
  have hr:=HR10.out
  have q10:=HQ10.out
  rw[htf] at fp
  simp only[Bool.not_true,Bool.or_false] at fp
  rw[fp.1] at hr q10
  have p8:=zAr (u:=fun m x=>{ m with filt:=x }) (m:=mm) fp.2
  rw[p8.1] at hr q10
  have t8:=zAu HT.out p8.2
  rw[t8.1] at hr q10
  have p10:=zAr (u:=fun m x=>{ m with attrs:=x }) (m:={ mm with filt:=t }) q10
  rw[p10.1] at hr
  have tt:=zAu t8.2 p10.2
  rw[tt.1] at hr
  exact⟨⟨({ ({ mm with filt:=t }:MT) with attrs:=x10 }:MT),F10,rfl,HM10.out,hr,HF10.out,tt.2⟩⟩
 | false=>
  have hfl:=zBi w8 lo g b F7 _ HR8.out
  go_wp2_with (go_at_call 78;fail)
  refine hfl.mono ?_
  rintro e w9 ⟨rfl,hr9,hf9⟩
  have HM9:=hide (HM8.out.fr hf9 (by rintro (q | q)<;>(have:=Hn.out;omega)) (fun k hk=>(by rintro (q | q)<;>(have:=Hn.out;omega))))
  have HF9:=hide (HF8.out.trans (hf9.mono (Y:=own3 (fun k=>k=mb) g b) fun k _ q=>by rcases q with q | q;exact .inl q;exact .inr (.inl q)))
  have HR9:=hide hr9
  clear hr9 hf9 hfl HM8 HR8 HF8
  go_wp2_with (go_at_call 152;fail)
  refine (listT_any Rd.textR text_eats w9 lo g b F7 _ 48 HR9.out (readsT _ b)).mono ?_
  rintro e w10 hpost10
  obtain⟨x10,v10,F10,rfl,hrep10,hr10,hf10,hq10⟩:=hpost10.out
  clear hpost10
  have hrep10x:=hrep10
  obtain⟨A10,c10,xs10,rfl,-⟩:=hrep10x
  have hm10:=HM9.out.fr hf10 (by rintro (q | q)<;>(have:=Hn.out;omega)) (fun k hk=>(by rintro (q | q)<;>(have:=Hn.out;omega)))
  obtain⟨f0,f1,f2,f3,f4,f5,f6,va,vl,vc,vr,vk,hB10,hz10⟩:=hm10.out
  have k10:w10.cell? ⟨mb,17,none⟩=some (va):=hB10.cells 17 _ rfl
  have z10:=hB10.fz
  have hs10:=hf10.size
  have HM10:=hide (hm10.putAttrs (by have:=Hn.out;omega) (zA7 (fun _ _=>rfl) (fun k hk=>⟨by have:=Hn.out;have:=HF9.out.size;omega,hk.2⟩) hrep10))
  have HR10:=hide (hr10.fr (Fr.setCell (X:=fun k=>k=mb) w10 ⟨mb,17,none⟩ (.slice A10 x10.length c10) rfl) (by have:=Hn.out;omega) (by have:=Hn.out;omega) (fun k h1 h2=>by have:=Hn.out;omega))
  have HF10:=hide ((HF9.out.trans (hf10.mono (Y:=own3 (fun k=>k=mb) g b) fun k _ q=>by rcases q with q | q;exact .inl q;exact .inr (.inl q))).trans (Fr.setCell (X:=own3 (fun k=>k=mb) g b) w10 ⟨mb,17,none⟩ (.slice A10 x10.length c10) (.inr (.inr rfl))))
  have HQ10:=hide hq10
  clear hr10 hf10 hq10 hB10 hz10 hm10 hs10 f0 f1 f2 f3 f4 f5 f6 vl vc vk hrep10
  go_wp2
  go_returns
  have hr:=HR10.out
  have q10:=HQ10.out
  rw[htf] at fp
  simp only[Bool.not_false,Bool.or_true] at fp
  rw[fp.1] at hr q10
  have p8:=zAr (u:=fun m x=>{ m with filt:=x }) (m:=mm) fp.2
  rw[p8.1] at hr q10
  have t8:=zAu HT.out p8.2
  rw[t8.1] at hr q10
  have p10:=zAr (u:=fun m x=>{ m with attrs:=x }) (m:={ mm with filt:=t }) q10
  rw[p10.1] at hr
  have tt:=zAu t8.2 p10.2
  rw[tt.1] at hr
  exact⟨⟨({ ({ mm with filt:=t }:MT) with attrs:=x10 }:MT),F10,rfl,HM10.out,hr,HF10.out,tt.2⟩⟩
structure MtIn0 (mb:Nat) (m:MT) (W:World):Prop where
 blk:Blk W mb (mcells m (.int .i64 0) (.string ⟨#[]⟩) (.string ⟨#[]⟩) (.string ⟨#[]⟩) (.string ⟨#[]⟩) (.slice none 0 0) (.slice none 0 0) (.slice none 0 0) (.slice none 0 0) (.slice none 0 0) (.slice none 0 0) (.slice none 0 0))
 zero:m.filt=.mk 0 [] [] [] [] [] []/\m.attrs=[]/\m.lst=[]/\m.chs=[]/\m.refs=[]/\m.ctls=[]
section
variable {W W':World} {X:Nat->Prop} {m m':MT} {mb:Nat}
theorem MtIn0.fr (h:MtIn0 mb m W) (hf:Fr X W W') (hm:¬X mb):MtIn0 mb m W':=⟨h.blk.fr hf hm,h.zero⟩
theorem MtIn0.put (h:MtIn0 mb m W) (i:Nat) (hi:i<32) (v:Value) (hs:m'.filt=m.filt/\m'.attrs=m.attrs/\m'.lst=m.lst/\m'.chs=m.chs/\m'.refs=m.refs/\m'.ctls=m.ctls)
  (hc:∀f0 f1 f2 f3 f4 f5 f6 va vl vc vr vk,mcells m' f0 f1 f2 f3 f4 f5 f6 va vl vc vr vk=(mcells m f0 f1 f2 f3 f4 f5 f6 va vl vc vr vk).set i v):MtIn0 mb m' (W.setCell ⟨mb,i,none⟩ v):=by
 obtain⟨s1,s2,s3,s4,s5,s6⟩:=hs
 obtain⟨z1,z2,z3,z4,z5,z6⟩:=h.zero
 exact⟨by rw[hc];exact h.blk.set i v hi,s1.trans z1,s2.trans z2,s3.trans z3,s4.trans z4,s5.trans z5,s6.trans z6⟩
theorem zBg {α:Type} {E:Elem α} {P:Nat->Prop}:repL E W P [] (.slice none 0 0):=⟨none,0,[],rfl,by simp,HasP.none _,rfl⟩
theorem MtIn0.mt (h:MtIn0 mb m W) (lo3:Nat):MtIn mb lo3 m W:=by
 obtain⟨z1,z2,z3,z4,z5,z6⟩:=h.zero
 refine⟨_,_,_,_,_,_,_,_,_,_,_,_,h.blk,⟨?_,?_,?_,?_,?_,?_⟩⟩
 ·rw [z1];exact⟨none,0,none,0,[],rfl,⟨by unfold maxLen;simp,by unfold maxLen;simp⟩,HasP.none _,HasP.none _,rfl⟩
 ·rw [z2];exact zBg
 ·rw [z3];exact zBg
 ·rw [z4];exact zBg
 ·rw [z5];exact zBg
 ·rw [z6];exact zBg
end
theorem compareCl (w:World) (b mb pb:Nat) (m:MT) (hm:MtIn0 mb m w) (hp:w.cell? ⟨pb,0,none⟩=some (.pointer (some ⟨mb,0,none⟩))) (hpb:pb<w.heap.size) (hne:mb≠b/\pb≠b/\pb≠mb):
  ClosedBy (fun (x:List UInt8 × List UInt8) W=>MtIn0 mb { m with attr:=x.1,value:=x.2 } W) (fun k=>k=mb) (Rd.andR Rd.textR Rd.textR Prod.mk) w b 159 #[.pointer (some ⟨pb,0,none⟩)]:=by
 intro W lo g F φ hfr hwl hr
 have hgl:=hr.log
 have hlt:=hr.lt
 have hbo:=hr.blo
 have hml:=hm.blk.lt
 have HM0:=hide (hm.fr hfr (fun e=>hne.1 e))
 have HP0:=hide ((hfr.cell (p:=⟨pb,0,none⟩) hpb hne.2.1).trans hp)
 have Hn:=hide (And.intro hml (And.intro hne (And.intro hpb (And.intro hwl (And.intro hgl (And.intro hlt (And.intro hbo hfr.size)))))))
 have HR0:=hide hr
 have HF0:Hid (Fr (own3 (fun k=>k=mb) g b) W W):=hide (Fr.refl _ _)
 try simp only[List.append_toArray,List.cons_append,List.nil_append]
 clear hfr hwl hr hgl hlt hbo hm hp hpb hne hml
 go_enter Tryz.func159,Tryz.ntmps159
 go_wp2_with fail
 refine zAp (wayC ⟨pb,0,none⟩ (.pointer (some ⟨mb,0,none⟩))) [5] (by kernel_rfl) ?_
 have HRd1:=hide (HR0.out.fr (Fr.drew (fun _=>False) W) id id (fun _ _ _=>id))
 have HMd1:=hide (HM0.out.fr (Fr.drew (fun _=>False) W) id)
 have HFd1:=hide (HF0.out.trans (Fr.drew (own3 (fun k=>k=mb) g b) W))
 have HPd1:Hid (World.cell? (W).drew ⟨pb,0,none⟩=some (.pointer (some ⟨mb,0,none⟩))):=hide HP0.out
 generalize (W).drew=W1 at *
 refine zAm 0 (some 3) (v:=?vc10) rfl rfl (by kernel_rfl) rfl (by kernel_rfl) (by rfl) (fun Wq hW=>?yc10) ?_
 case yc10=>
  have cW:Wq.cell? ⟨pb,0,none⟩=some (.pointer (some ⟨mb,0,none⟩)):=hW HPd1.out
  go_simp<;>with_reducible rfl
 try simp only[pU]
 refine zAe 1 (some 4) rfl rfl (by kernel_rfl) rfl (by rfl) (fun Wq=>by go_simp<;>with_reducible rfl) ?_
 try simp only[pU]
 refine zAf 2 rfl (by kernel_rfl) (fun K hK2=>?_)
 go_simp
 refine (zA3 W1 lo g b F _ HRd1.out).mono ?_
 rintro e w1 hpost
 obtain⟨x1,v1,F1,rfl,hrep,hr,hf,hq⟩:=hpost.out
 clear hpost
 unfold repT at hrep
 subst hrep
 have hP1:=(hf.cell (p:=⟨pb,0,none⟩) (by have:=Hn.out;have:=HFd1.out.size;simp only;omega) (by rintro (q | q)<;>(simp only at q;have:=Hn.out;omega))).trans HPd1.out
 have hM1:=HMd1.out.fr hf (by rintro (q | q)<;>(have:=Hn.out;omega))
 have hg:=hr.fr (Fr.setCell (X:=fun k=>k=mb) w1 ⟨mb,24,none⟩ (.string (txt x1)) rfl) (by have:=Hn.out;omega) (by have:=Hn.out;omega) (fun k h1 h2=>by have:=Hn.out;omega)
 have hF1:=(HFd1.out.trans (hf.mono (Y:=own3 (fun k=>k=mb) g b) fun k _ q=>by rcases q with q | q;exact .inl q;exact .inr (.inl q))).trans (Fr.setCell (X:=own3 (fun k=>k=mb) g b) w1 ⟨mb,24,none⟩ (.string (txt x1)) (.inr (.inr rfl)))
 have hPz:=((Fr.setCell (X:=fun k=>k=mb) w1 ⟨mb,24,none⟩ (.string (txt x1)) rfl).cell (p:=⟨pb,0,none⟩) (by have:=Hn.out;have:=HFd1.out.size;have:=hf.size;simp only;omega) (fun q=>by simp only at q;have:=Hn.out;omega)).trans hP1
 have HM1b:=hide hM1.blk
 have HM1:=hide (hM1.put (m':=({ m with attr:=x1 }:MT)) 24 (by omega) (.string (txt x1)) ⟨rfl,rfl,rfl,rfl,rfl,rfl⟩ (fun _ _ _ _ _ _ _ _ _ _ _ _=>rfl))
 have HR1:=hide hg
 have HF1:=hide hF1
 have HP1:=hide hPz
 have HQ1:=hide hq
 refine hK2.out _ _ (fun _ _=>hP1) ?_
 clear hK2 K hr hf hq hP1 hM1 hg hF1 hPz
 try simp only[pU]
 refine zAe 3 (some 6) rfl rfl (by kernel_rfl) rfl (by rfl) (fun Wq=>by go_simp<;>with_reducible rfl) ?_
 try simp only[pU]
 refine zAe 4 (some 7) rfl rfl (by kernel_rfl) rfl (by rfl) (fun Wq=>by go_simp<;>with_reducible rfl) ?_
 try simp only[pU]
 refine zAf 5 rfl (by kernel_rfl) (fun K hK2=>?_)
 have kk:=HM1b.out.cells 24 _ rfl
 have zz:=HM1b.out.fz
 go_simp
 refine hK2.out _ _ (fun h=>absurd (by decide) h) ?_
 clear hK2 K kk zz
 try simp only[pU]
 refine zAj (by kernel_rfl) ?_ _
 go_wp2_with fail
 refine zAp (wayC ⟨pb,0,none⟩ (.pointer (some ⟨mb,0,none⟩))) [5] (by kernel_rfl) ?_
 have HRd2:=hide (HR1.out.fr (Fr.drew (fun _=>False) (w1.setCell ⟨mb,24,none⟩ (.string (txt x1)))) id id (fun _ _ _=>id))
 have HMd2:=hide (HM1.out.fr (Fr.drew (fun _=>False) (w1.setCell ⟨mb,24,none⟩ (.string (txt x1)))) id)
 have HFd2:=hide (HF1.out.trans (Fr.drew (own3 (fun k=>k=mb) g b) (w1.setCell ⟨mb,24,none⟩ (.string (txt x1)))))
 have HPd2:Hid (World.cell? ((w1.setCell ⟨mb,24,none⟩ (.string (txt x1)))).drew ⟨pb,0,none⟩=some (.pointer (some ⟨mb,0,none⟩))):=hide HP1.out
 generalize ((w1.setCell ⟨mb,24,none⟩ (.string (txt x1)))).drew=W2 at *
 refine zAm 0 (some 8) (v:=?vc20) rfl rfl (by kernel_rfl) rfl (by kernel_rfl) (by rfl) (fun Wq hW=>?yc20) ?_
 case yc20=>
  have cW:Wq.cell? ⟨pb,0,none⟩=some (.pointer (some ⟨mb,0,none⟩)):=hW HPd2.out
  go_simp<;>with_reducible rfl
 try simp only[pU]
 refine zAe 1 (some 9) rfl rfl (by kernel_rfl) rfl (by rfl) (fun Wq=>by go_simp<;>with_reducible rfl) ?_
 try simp only[pU]
 refine zAf 2 rfl (by kernel_rfl) (fun K hK2=>?_)
 go_simp
 refine (zA3 W2 lo g b F1 _ HRd2.out).mono ?_
 rintro e w2 hpost
 obtain⟨x2,v2,F2,rfl,hrep,hr,hf,hq⟩:=hpost.out
 clear hpost
 unfold repT at hrep
 subst hrep
 have hP2:=(hf.cell (p:=⟨pb,0,none⟩) (by have:=Hn.out;have:=HFd2.out.size;simp only;omega) (by rintro (q | q)<;>(simp only at q;have:=Hn.out;omega))).trans HPd2.out
 have hM2:=HMd2.out.fr hf (by rintro (q | q)<;>(have:=Hn.out;omega))
 have hg:=hr.fr (Fr.setCell (X:=fun k=>k=mb) w2 ⟨mb,25,none⟩ (.string (txt x2)) rfl) (by have:=Hn.out;omega) (by have:=Hn.out;omega) (fun k h1 h2=>by have:=Hn.out;omega)
 have hF2:=(HFd2.out.trans (hf.mono (Y:=own3 (fun k=>k=mb) g b) fun k _ q=>by rcases q with q | q;exact .inl q;exact .inr (.inl q))).trans (Fr.setCell (X:=own3 (fun k=>k=mb) g b) w2 ⟨mb,25,none⟩ (.string (txt x2)) (.inr (.inr rfl)))
 have hPz:=((Fr.setCell (X:=fun k=>k=mb) w2 ⟨mb,25,none⟩ (.string (txt x2)) rfl).cell (p:=⟨pb,0,none⟩) (by have:=Hn.out;have:=HFd2.out.size;have:=hf.size;simp only;omega) (fun q=>by simp only at q;have:=Hn.out;omega)).trans hP2
 have HM2b:=hide hM2.blk
 have HM2:=hide (hM2.put (m':=({ ({ m with attr:=x1 }:MT) with value:=x2 }:MT)) 25 (by omega) (.string (txt x2)) ⟨rfl,rfl,rfl,rfl,rfl,rfl⟩ (fun _ _ _ _ _ _ _ _ _ _ _ _=>rfl))
 have HR2:=hide hg
 have HF2:=hide hF2
 have HP2:=hide hPz
 have HQ2:=hide hq
 refine hK2.out _ _ (fun _ _=>hP2) ?_
 clear hK2 K hr hf hq hP2 hM2 hg hF2 hPz
 try simp only[pU]
 refine zAe 3 (some 11) rfl rfl (by kernel_rfl) rfl (by rfl) (fun Wq=>by go_simp<;>with_reducible rfl) ?_
 try simp only[pU]
 refine zAe 4 (some 12) rfl rfl (by kernel_rfl) rfl (by rfl) (fun Wq=>by go_simp<;>with_reducible rfl) ?_
 try simp only[pU]
 refine zAf 5 rfl (by kernel_rfl) (fun K hK2=>?_)
 have kk:=HM2b.out.cells 25 _ rfl
 have zz:=HM2b.out.fz
 go_simp
 refine hK2.out _ _ (fun h=>absurd (by decide) h) ?_
 clear hK2 K kk zz
 try simp only[pU]
 refine zAj (by kernel_rfl) ?_ _
 go_wp2
 go_returns
 have hap:=zA4 (p:=Rd.textR) (q:=Rd.textR) (f:=Prod.mk) HQ1.out HQ2.out
 have hr2:=HR2.out
 rw[hap.1] at hr2
 exact⟨⟨(x1,x2),F2,rfl,HM2.out,hr2,HF2.out,hap.2⟩⟩
end Go.Proofs.YtcpjmgfloimfhaaGreat
