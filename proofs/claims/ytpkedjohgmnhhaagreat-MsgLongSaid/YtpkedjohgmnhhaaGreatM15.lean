/- Several texts in one: LModName, LResult. By an AI agent. -/
import Derived.Test.YtpkedjohgmnhhaaGreatM14
set_option maxRecDepth 100000
set_option maxHeartbeats 32000000
set_option linter.unusedSimpArgs false
namespace Go.Proofs.YtpkedjohgmnhhaaGreat
open Go.RowKit
set_option linter.unusedVariables false
theorem if_no {m:MT} {F:List Fd} {φ:Bool} {X:Option (MT × List Fd)} (h:moreB F φ=false):φ=(φ||(if F=[] then some (m,F) else X).isNone)∧(φ=false→∀m0 F0,(if F=[] then some (m,F) else X)=some (m0,F0)→m=m0∧F=F0):=by
 cases φ with
 | true=>exact⟨rfl,fun h=>by cases h⟩
 | false=>
  cases F with
  | nil=>exact⟨rfl,fun _ m0 F0 h0=>by simpa using h0⟩
  | cons f r=>cases h
theorem more_yes {F:List Fd} {φ:Bool} (h:moreB F φ=true):φ=false∧F≠[]:=by
 cases φ with
 | true=>cases h
 | false=>exact⟨rfl,fun e=>by subst e;cases h⟩
theorem modName_any (w:World) (lo g b:Nat) (F:List Fd) (φ:Bool) (mb lo3:Nat) (m:MT) (h:RdS w lo g b F φ) (hm:MtIn mb lo3 m w) (hml:mb<lo3) (hg3:g<lo3) (hlo3:lo3≤w.heap.size) (hmb:mb≠g∧mb≠b∧(mb<lo∨g<mb)):
  Calls Tryz.prog 158 #[.pointer (some ⟨g,0,none⟩),.pointer (some ⟨mb,0,none⟩)] w (InPost (MtIn mb lo3) (Rd.modNameR m) w (own3 (fun k=>k=mb) g b) lo g b F φ):=by
 have hgl:=h.log
 have hlt:=h.lt
 have hbo:=h.blo
 have HM0:=hide hm
 have Hn:=hide (And.intro hml (And.intro hg3 (And.intro hlo3 (And.intro hmb (And.intro hgl (And.intro hlt hbo))))))
 have HR0:=hide h
 have HF0:Hid (Fr (own3 (fun k=>k=mb) g b) w w):=hide (Fr.refl _ _)
 clear h hm hml hg3 hlo3 hmb hgl hlt hbo
 go_enter Tryz.func158,Tryz.ntmps158
 go_wp2_with (go_at_call 130;fail)
 refine (text_any w lo g b F φ HR0.out).mono ?_
 rintro e w1 hpost1
 obtain⟨x1,v1,F1,rfl,hrep1,hr1,hf1,hq1⟩:=hpost1.out
 clear hpost1
 unfold repT at hrep1
 subst hrep1
 have hm1:=HM0.out.fr hf1 (by rintro (q | q)<;>(have:=Hn.out;omega)) (fun k hk=>(by rintro (q | q)<;>(have:=Hn.out;omega)))
 obtain⟨f0,f1,f2,f3,f4,f5,f6,va,vl,vc,vr,vk,hB1,hz1⟩:=hm1.out
 have k1:w1.cell? ⟨mb,2,none⟩=some (.string (txt m.name)):=hB1.cells 2 _ rfl
 have z1:=hB1.fz
 have hs1:=hf1.size
 have HM1:=hide (hm1.put (m':=({ m with name:=x1 }:MT)) (by have:=Hn.out;omega) 2 (by omega) (.string (txt x1)) ⟨rfl,rfl,rfl,rfl,rfl,rfl⟩ (fun _ _ _ _ _ _ _ _ _ _ _ _=>rfl))
 have HR1:=hide (hr1.fr (Fr.setCell (X:=fun k=>k=mb) w1 ⟨mb,2,none⟩ (.string (txt x1)) rfl) (by have:=Hn.out;omega) (by have:=Hn.out;omega) (fun k h1 h2=>by have:=Hn.out;omega))
 have HF1:=hide ((HF0.out.trans (hf1.mono (Y:=own3 (fun k=>k=mb) g b) fun k _ q=>by rcases q with q | q;exact .inl q;exact .inr (.inl q))).trans (Fr.setCell (X:=own3 (fun k=>k=mb) g b) w1 ⟨mb,2,none⟩ (.string (txt x1)) (.inr (.inr rfl))))
 have HQ1:=hide hq1
 clear hr1 hf1 hq1 hB1 hz1 hm1 hs1 f0 f1 f2 f3 f4 f5 f6 vl vc vk va vr
 go_wp2_with (go_at_call 130;fail)
 refine (text_any (w1.setCell ⟨mb,2,none⟩ (.string (txt x1))) lo g b F1 _ HR1.out).mono ?_
 rintro e w2 hpost2
 obtain⟨x2,v2,F2,rfl,hrep2,hr2,hf2,hq2⟩:=hpost2.out
 clear hpost2
 unfold repT at hrep2
 subst hrep2
 have hm2:=HM1.out.fr hf2 (by rintro (q | q)<;>(have:=Hn.out;omega)) (fun k hk=>(by rintro (q | q)<;>(have:=Hn.out;omega)))
 obtain⟨f0,f1,f2,f3,f4,f5,f6,va,vl,vc,vr,vk,hB2,hz2⟩:=hm2.out
 have k2:w2.cell? ⟨mb,20,none⟩=some (.string (txt m.nrdn)):=hB2.cells 20 _ rfl
 have z2:=hB2.fz
 have hs2:=hf2.size
 have HM2:=hide (hm2.put (m':=({ ({ m with name:=x1 }:MT) with nrdn:=x2 }:MT)) (by have:=Hn.out;omega) 20 (by omega) (.string (txt x2)) ⟨rfl,rfl,rfl,rfl,rfl,rfl⟩ (fun _ _ _ _ _ _ _ _ _ _ _ _=>rfl))
 have HR2:=hide (hr2.fr (Fr.setCell (X:=fun k=>k=mb) w2 ⟨mb,20,none⟩ (.string (txt x2)) rfl) (by have:=Hn.out;omega) (by have:=Hn.out;omega) (fun k h1 h2=>by have:=Hn.out;omega))
 have HF2:=hide ((HF1.out.trans (hf2.mono (Y:=own3 (fun k=>k=mb) g b) fun k _ q=>by rcases q with q | q;exact .inl q;exact .inr (.inl q))).trans (Fr.setCell (X:=own3 (fun k=>k=mb) g b) w2 ⟨mb,20,none⟩ (.string (txt x2)) (.inr (.inr rfl))))
 have HQ2:=hide hq2
 clear hr2 hf2 hq2 hB2 hz2 hm2 hs2 f0 f1 f2 f3 f4 f5 f6 vl vc vk va vr
 go_wp2_with (go_at_call 135;fail)
 refine (flag_any (w2.setCell ⟨mb,20,none⟩ (.string (txt x2))) lo g b F2 _ HR2.out).mono ?_
 rintro e w3 hpost3
 obtain⟨x3,v3,F3,rfl,hrep3,hr3,hf3,hq3⟩:=hpost3.out
 clear hpost3
 unfold repB at hrep3
 subst hrep3
 have hm3:=HM2.out.fr hf3 (by rintro (q | q)<;>(have:=Hn.out;omega)) (fun k hk=>(by rintro (q | q)<;>(have:=Hn.out;omega)))
 obtain⟨f0,f1,f2,f3,f4,f5,f6,va,vl,vc,vr,vk,hB3,hz3⟩:=hm3.out
 have k3:w3.cell? ⟨mb,21,none⟩=some (.bool m.delold):=hB3.cells 21 _ rfl
 have z3:=hB3.fz
 have hs3:=hf3.size
 have HM3:=hide (hm3.put (m':=({ ({ ({ m with name:=x1 }:MT) with nrdn:=x2 }:MT) with delold:=x3 }:MT)) (by have:=Hn.out;omega) 21 (by omega) (.bool x3) ⟨rfl,rfl,rfl,rfl,rfl,rfl⟩ (fun _ _ _ _ _ _ _ _ _ _ _ _=>rfl))
 have HR3:=hide (hr3.fr (Fr.setCell (X:=fun k=>k=mb) w3 ⟨mb,21,none⟩ (.bool x3) rfl) (by have:=Hn.out;omega) (by have:=Hn.out;omega) (fun k h1 h2=>by have:=Hn.out;omega))
 have HF3:=hide ((HF2.out.trans (hf3.mono (Y:=own3 (fun k=>k=mb) g b) fun k _ q=>by rcases q with q | q;exact .inl q;exact .inr (.inl q))).trans (Fr.setCell (X:=own3 (fun k=>k=mb) g b) w3 ⟨mb,21,none⟩ (.bool x3) (.inr (.inr rfl))))
 have HQ3:=hide hq3
 clear hr3 hf3 hq3 hB3 hz3 hm3 hs3 f0 f1 f2 f3 f4 f5 f6 vl vc vk va vr
 go_wp2_with (go_at_call 79;fail)
 refine (more_any (w3.setCell ⟨mb,21,none⟩ (.bool x3)) lo g b F3 _ HR3.out).mono ?_
 rintro e w9 ⟨rfl,hw9⟩
 obtain rfl:=hw9.symm
 cases hmb:moreB F3 _ with
 | false=>
  go_wp2
  go_returns
  have q1:=HQ1.out
  have p1:=upd_post (u:=fun m x=>{ m with name:=x }) (m:=m) q1
  have t1:=p1
  have q2:=HQ2.out
  rw[p1.1] at q2
  have p2:=upd_post (u:=fun m x=>{ m with nrdn:=x }) (m:=({ m with name:=x1 }:MT)) q2
  have t2:=then_post t1.2 p2.2
  have q3:=HQ3.out
  rw[p1.1,p2.1,t2.1] at q3
  have p3:=upd_post (u:=fun m x=>{ m with delold:=x }) (m:=({ ({ m with name:=x1 }:MT) with nrdn:=x2 }:MT)) q3
  have t3:=then_post t2.2 p3.2
  have hr:=HR3.out
  rw[p1.1,p2.1,t2.1,p3.1,t3.1] at hr hmb
  have hno:=if_no (m:=({ ({ ({ m with name:=x1 }:MT) with nrdn:=x2 }:MT) with delold:=x3 }:MT)) (X:=(Rd.taggedR 0x80 F3).map fun q=>({ ({ ({ ({ m with name:=x1 }:MT) with nrdn:=x2 }:MT) with delold:=x3 }:MT) with hassup:=true,sup:=q.1 },q.2)) hmb
  have tt:=then_post (b:=Rd.supR) t3.2 hno.2
  rw[hno.1] at hr
  rw[show ∀a:Bool,(a||(if F3=[] then some (({ ({ ({ m with name:=x1 }:MT) with nrdn:=x2 }:MT) with delold:=x3 }:MT),F3) else (Rd.taggedR 0x80 F3).map fun q=>({ ({ ({ ({ m with name:=x1 }:MT) with nrdn:=x2 }:MT) with delold:=x3 }:MT) with hassup:=true,sup:=q.1 },q.2)).isNone)=(a||(Rd.supR ({ ({ ({ m with name:=x1 }:MT) with nrdn:=x2 }:MT) with delold:=x3 }:MT) F3).isNone) from fun _=>rfl,tt.1] at hr
  exact⟨⟨({ ({ ({ m with name:=x1 }:MT) with nrdn:=x2 }:MT) with delold:=x3 }:MT),F3,rfl,HM3.out,hr,HF3.out,tt.2⟩⟩
 | true=>
  obtain⟨f0,f1,f2,f3,f4,f5,f6,va,vl,vc,vr,vk,hB4,hz4⟩:=HM3.out.out
  have k4:(w3.setCell ⟨mb,21,none⟩ (.bool x3)).cell? ⟨mb,22,none⟩=some (.bool m.hassup):=hB4.cells 22 _ rfl
  have z4:=hB4.fz
  have HM4:=hide (HM3.out.put (m':=({ ({ ({ ({ m with name:=x1 }:MT) with nrdn:=x2 }:MT) with delold:=x3 }:MT) with hassup:=true }:MT)) (by have:=Hn.out;omega) 22 (by omega) (.bool true) ⟨rfl,rfl,rfl,rfl,rfl,rfl⟩ (fun _ _ _ _ _ _ _ _ _ _ _ _=>rfl))
  have HR4:=hide (HR3.out.fr (Fr.setCell (X:=fun k=>k=mb) (w3.setCell ⟨mb,21,none⟩ (.bool x3)) ⟨mb,22,none⟩ (.bool true) rfl) (by have:=Hn.out;omega) (by have:=Hn.out;omega) (fun k h1 h2=>by have:=Hn.out;omega))
  have HF4:=hide (HF3.out.trans (Fr.setCell (X:=own3 (fun k=>k=mb) g b) (w3.setCell ⟨mb,21,none⟩ (.bool x3)) ⟨mb,22,none⟩ (.bool true) (.inr (.inr rfl))))
  clear hB4 hz4 f0 f1 f2 f3 f4 f5 f6 va vl vc vr vk
  go_wp2_with (go_at_call 128;fail)
  refine (tagged_any ((w3.setCell ⟨mb,21,none⟩ (.bool x3)).setCell ⟨mb,22,none⟩ (.bool true)) lo g b F3 _ 128 HR4.out).mono ?_
  rintro e w5 hpost5
  obtain⟨x5,v5,F5,rfl,hrep5,hr5,hf5,hq5⟩:=hpost5.out
  clear hpost5
  unfold repT at hrep5
  subst hrep5
  have hm5:=HM4.out.fr hf5 (by rintro (q | q)<;>(have:=Hn.out;omega)) (fun k hk=>(by rintro (q | q)<;>(have:=Hn.out;omega)))
  obtain⟨f0,f1,f2,f3,f4,f5,f6,va,vl,vc,vr,vk,hB5,hz5⟩:=hm5.out
  have k5:w5.cell? ⟨mb,23,none⟩=some (.string (txt m.sup)):=hB5.cells 23 _ rfl
  have z5:=hB5.fz
  have hs5:=hf5.size
  have HM5:=hide (hm5.put (m':=({ ({ ({ ({ ({ m with name:=x1 }:MT) with nrdn:=x2 }:MT) with delold:=x3 }:MT) with hassup:=true }:MT) with sup:=x5 }:MT)) (by have:=Hn.out;omega) 23 (by omega) (.string (txt x5)) ⟨rfl,rfl,rfl,rfl,rfl,rfl⟩ (fun _ _ _ _ _ _ _ _ _ _ _ _=>rfl))
  have HR5:=hide (hr5.fr (Fr.setCell (X:=fun k=>k=mb) w5 ⟨mb,23,none⟩ (.string (txt x5)) rfl) (by have:=Hn.out;omega) (by have:=Hn.out;omega) (fun k h1 h2=>by have:=Hn.out;omega))
  have HF5:=hide ((HF4.out.trans (hf5.mono (Y:=own3 (fun k=>k=mb) g b) fun k _ q=>by rcases q with q | q;exact .inl q;exact .inr (.inl q))).trans (Fr.setCell (X:=own3 (fun k=>k=mb) g b) w5 ⟨mb,23,none⟩ (.string (txt x5)) (.inr (.inr rfl))))
  have HQ5:=hide hq5
  clear hr5 hf5 hq5 hB5 hz5 hm5 hs5 f0 f1 f2 f3 f4 f5 f6 vl vc vk va vr
  go_wp2
  go_returns
  have q1:=HQ1.out
  have p1:=upd_post (u:=fun m x=>{ m with name:=x }) (m:=m) q1
  have t1:=p1
  have q2:=HQ2.out
  rw[p1.1] at q2
  have p2:=upd_post (u:=fun m x=>{ m with nrdn:=x }) (m:=({ m with name:=x1 }:MT)) q2
  have t2:=then_post t1.2 p2.2
  have q3:=HQ3.out
  rw[p1.1,p2.1,t2.1] at q3
  have p3:=upd_post (u:=fun m x=>{ m with delold:=x }) (m:=({ ({ m with name:=x1 }:MT) with nrdn:=x2 }:MT)) q3
  have t3:=then_post t2.2 p3.2
  have hr:=HR5.out
  have q5:=HQ5.out
  rw[p1.1,p2.1,t2.1,p3.1,t3.1] at hr hmb q5
  obtain⟨hp0,hne⟩:=more_yes hmb
  have p5:=upd_post (u:=fun m x=>{ m with hassup:=true,sup:=x }) (m:=({ ({ ({ m with name:=x1 }:MT) with nrdn:=x2 }:MT) with delold:=x3 }:MT)) q5
  rw[p5.1] at hr
  have he:Rd.updR (Rd.taggedR 128) (fun m x=>{ m with hassup:=true,sup:=x }) ({ ({ ({ m with name:=x1 }:MT) with nrdn:=x2 }:MT) with delold:=x3 }:MT) F3=Rd.supR ({ ({ ({ m with name:=x1 }:MT) with nrdn:=x2 }:MT) with delold:=x3 }:MT) F3:=by unfold Rd.supR;rw[if_neg hne];rfl
  rw[he] at hr p5
  have tt:=then_post (b:=Rd.supR) t3.2 p5.2
  rw[tt.1] at hr
  exact⟨⟨({ ({ ({ ({ ({ m with name:=x1 }:MT) with nrdn:=x2 }:MT) with delold:=x3 }:MT) with hassup:=true }:MT) with sup:=x5 }:MT),F5,rfl,HM5.out,hr,HF5.out,tt.2⟩⟩
end Go.Proofs.YtpkedjohgmnhhaaGreat
namespace Go.Proofs.YtpkedjohgmnhhaaGreat
open Go.RowKit
set_option linter.unusedVariables false
theorem result_any (w:World) (lo g b:Nat) (F:List Fd) (φ:Bool) (mb lo3:Nat) (m:MT) (h:RdS w lo g b F φ) (hm:MtIn mb lo3 m w) (hml:mb<lo3) (hg3:g<lo3) (hlo3:lo3≤w.heap.size) (hmb:mb≠g∧mb≠b∧(mb<lo∨g<mb)):
  Calls Tryz.prog 160 #[.pointer (some ⟨g,0,none⟩),.pointer (some ⟨mb,0,none⟩)] w (InPost (MtIn mb lo3) (Rd.resultR m) w (own3 (fun k=>k=mb) g b) lo g b F φ):=by
 have hgl:=h.log
 have hlt:=h.lt
 have hbo:=h.blo
 have HM0:=hide hm
 have Hn:=hide (And.intro hml (And.intro hg3 (And.intro hlo3 (And.intro hmb (And.intro hgl (And.intro hlt hbo))))))
 have HR0:=hide h
 have HF0:Hid (Fr (own3 (fun k=>k=mb) g b) w w):=hide (Fr.refl _ _)
 clear h hm hml hg3 hlo3 hmb hgl hlt hbo
 go_enter Tryz.func160,Tryz.ntmps160
 go_wp2_with (go_at_call 81;fail)
 refine (number_any w lo g b F φ 10 2147483647 HR0.out).mono ?_
 rintro e w1 hpost1
 obtain⟨x1,v1,F1,rfl,hrep1,hr1,hf1,hq1⟩:=hpost1.out
 clear hpost1
 unfold repI at hrep1
 subst hrep1
 have hm1:=HM0.out.fr hf1 (by rintro (q | q)<;>(have:=Hn.out;omega)) (fun k hk=>(by rintro (q | q)<;>(have:=Hn.out;omega)))
 obtain⟨f0,f1,f2,f3,f4,f5,f6,va,vl,vc,vr,vk,hB1,hz1⟩:=hm1.out
 have k1:w1.cell? ⟨mb,27,none⟩=some (.int .i64 m.code):=hB1.cells 27 _ rfl
 have z1:=hB1.fz
 have hs1:=hf1.size
 have HM1:=hide (hm1.put (m':=({ m with code:=x1 }:MT)) (by have:=Hn.out;omega) 27 (by omega) (.int .i64 x1) ⟨rfl,rfl,rfl,rfl,rfl,rfl⟩ (fun _ _ _ _ _ _ _ _ _ _ _ _=>rfl))
 have HR1:=hide (hr1.fr (Fr.setCell (X:=fun k=>k=mb) w1 ⟨mb,27,none⟩ (.int .i64 x1) rfl) (by have:=Hn.out;omega) (by have:=Hn.out;omega) (fun k h1 h2=>by have:=Hn.out;omega))
 have HF1:=hide ((HF0.out.trans (hf1.mono (Y:=own3 (fun k=>k=mb) g b) fun k _ q=>by rcases q with q | q;exact .inl q;exact .inr (.inl q))).trans (Fr.setCell (X:=own3 (fun k=>k=mb) g b) w1 ⟨mb,27,none⟩ (.int .i64 x1) (.inr (.inr rfl))))
 have HQ1:=hide hq1
 clear hr1 hf1 hq1 hB1 hz1 hm1 hs1 f0 f1 f2 f3 f4 f5 f6 vl vc vk va vr
 go_wp2_with (go_at_call 130;fail)
 refine (text_any (w1.setCell ⟨mb,27,none⟩ (.int .i64 x1)) lo g b F1 _ HR1.out).mono ?_
 rintro e w2 hpost2
 obtain⟨x2,v2,F2,rfl,hrep2,hr2,hf2,hq2⟩:=hpost2.out
 clear hpost2
 unfold repT at hrep2
 subst hrep2
 have hm2:=HM1.out.fr hf2 (by rintro (q | q)<;>(have:=Hn.out;omega)) (fun k hk=>(by rintro (q | q)<;>(have:=Hn.out;omega)))
 obtain⟨f0,f1,f2,f3,f4,f5,f6,va,vl,vc,vr,vk,hB2,hz2⟩:=hm2.out
 have k2:w2.cell? ⟨mb,28,none⟩=some (.string (txt m.matched)):=hB2.cells 28 _ rfl
 have z2:=hB2.fz
 have hs2:=hf2.size
 have HM2:=hide (hm2.put (m':=({ ({ m with code:=x1 }:MT) with matched:=x2 }:MT)) (by have:=Hn.out;omega) 28 (by omega) (.string (txt x2)) ⟨rfl,rfl,rfl,rfl,rfl,rfl⟩ (fun _ _ _ _ _ _ _ _ _ _ _ _=>rfl))
 have HR2:=hide (hr2.fr (Fr.setCell (X:=fun k=>k=mb) w2 ⟨mb,28,none⟩ (.string (txt x2)) rfl) (by have:=Hn.out;omega) (by have:=Hn.out;omega) (fun k h1 h2=>by have:=Hn.out;omega))
 have HF2:=hide ((HF1.out.trans (hf2.mono (Y:=own3 (fun k=>k=mb) g b) fun k _ q=>by rcases q with q | q;exact .inl q;exact .inr (.inl q))).trans (Fr.setCell (X:=own3 (fun k=>k=mb) g b) w2 ⟨mb,28,none⟩ (.string (txt x2)) (.inr (.inr rfl))))
 have HQ2:=hide hq2
 clear hr2 hf2 hq2 hB2 hz2 hm2 hs2 f0 f1 f2 f3 f4 f5 f6 vl vc vk va vr
 go_wp2_with (go_at_call 130;fail)
 refine (text_any (w2.setCell ⟨mb,28,none⟩ (.string (txt x2))) lo g b F2 _ HR2.out).mono ?_
 rintro e w3 hpost3
 obtain⟨x3,v3,F3,rfl,hrep3,hr3,hf3,hq3⟩:=hpost3.out
 clear hpost3
 unfold repT at hrep3
 subst hrep3
 have hm3:=HM2.out.fr hf3 (by rintro (q | q)<;>(have:=Hn.out;omega)) (fun k hk=>(by rintro (q | q)<;>(have:=Hn.out;omega)))
 obtain⟨f0,f1,f2,f3,f4,f5,f6,va,vl,vc,vr,vk,hB3,hz3⟩:=hm3.out
 have k3:w3.cell? ⟨mb,29,none⟩=some (.string (txt m.text)):=hB3.cells 29 _ rfl
 have z3:=hB3.fz
 have hs3:=hf3.size
 have HM3:=hide (hm3.put (m':=({ ({ ({ m with code:=x1 }:MT) with matched:=x2 }:MT) with text:=x3 }:MT)) (by have:=Hn.out;omega) 29 (by omega) (.string (txt x3)) ⟨rfl,rfl,rfl,rfl,rfl,rfl⟩ (fun _ _ _ _ _ _ _ _ _ _ _ _=>rfl))
 have HR3:=hide (hr3.fr (Fr.setCell (X:=fun k=>k=mb) w3 ⟨mb,29,none⟩ (.string (txt x3)) rfl) (by have:=Hn.out;omega) (by have:=Hn.out;omega) (fun k h1 h2=>by have:=Hn.out;omega))
 have HF3:=hide ((HF2.out.trans (hf3.mono (Y:=own3 (fun k=>k=mb) g b) fun k _ q=>by rcases q with q | q;exact .inl q;exact .inr (.inl q))).trans (Fr.setCell (X:=own3 (fun k=>k=mb) g b) w3 ⟨mb,29,none⟩ (.string (txt x3)) (.inr (.inr rfl))))
 have HQ3:=hide hq3
 clear hr3 hf3 hq3 hB3 hz3 hm3 hs3 f0 f1 f2 f3 f4 f5 f6 vl vc vk va vr
 go_wp2_with (go_at_call 79;fail)
 refine (more_any (w3.setCell ⟨mb,29,none⟩ (.string (txt x3))) lo g b F3 _ HR3.out).mono ?_
 rintro e w9 ⟨rfl,hw9⟩
 obtain rfl:=hw9.symm
 cases hmb:moreB F3 _ with
 | false=>
  go_wp2
  go_returns
  have q1:=HQ1.out
  have p1:=upd_post (u:=fun m x=>{ m with code:=x }) (m:=m) q1
  have t1:=p1
  have q2:=HQ2.out
  rw[p1.1] at q2
  have p2:=upd_post (u:=fun m x=>{ m with matched:=x }) (m:=({ m with code:=x1 }:MT)) q2
  have t2:=then_post t1.2 p2.2
  have q3:=HQ3.out
  rw[p1.1,p2.1,t2.1] at q3
  have p3:=upd_post (u:=fun m x=>{ m with text:=x }) (m:=({ ({ m with code:=x1 }:MT) with matched:=x2 }:MT)) q3
  have t3:=then_post t2.2 p3.2
  have hr:=HR3.out
  rw[p1.1,p2.1,t2.1,p3.1,t3.1] at hr hmb
  have hno:=if_no (m:=({ ({ ({ m with code:=x1 }:MT) with matched:=x2 }:MT) with text:=x3 }:MT)) (X:=(Rd.someR 0xa3 Rd.textR F3).map fun q=>({ ({ ({ ({ m with code:=x1 }:MT) with matched:=x2 }:MT) with text:=x3 }:MT) with refs:=q.1 },q.2)) hmb
  have tt:=then_post (b:=Rd.refsR) t3.2 hno.2
  rw[hno.1] at hr
  rw[show ∀a:Bool,(a||(if F3=[] then some (({ ({ ({ m with code:=x1 }:MT) with matched:=x2 }:MT) with text:=x3 }:MT),F3) else (Rd.someR 0xa3 Rd.textR F3).map fun q=>({ ({ ({ ({ m with code:=x1 }:MT) with matched:=x2 }:MT) with text:=x3 }:MT) with refs:=q.1 },q.2)).isNone)=(a||(Rd.refsR ({ ({ ({ m with code:=x1 }:MT) with matched:=x2 }:MT) with text:=x3 }:MT) F3).isNone) from fun _=>rfl,tt.1] at hr
  exact⟨⟨({ ({ ({ m with code:=x1 }:MT) with matched:=x2 }:MT) with text:=x3 }:MT),F3,rfl,HM3.out,hr,HF3.out,tt.2⟩⟩
 | true=>
  go_wp2_with (go_at_call 129;fail)
  refine (someT_any Rd.textR text_eats (w3.setCell ⟨mb,29,none⟩ (.string (txt x3))) lo g b F3 _ 163 HR3.out (readsT _ b)).mono ?_
  rintro e w4 hpost4
  obtain⟨x4,v4,F4,rfl,hrep4,hr4,hf4,hq4⟩:=hpost4.out
  clear hpost4
  have hrep4x:=hrep4
  obtain⟨A4,c4,xs4,rfl,-⟩:=hrep4x
  have hm4:=HM3.out.fr hf4 (by rintro (q | q)<;>(have:=Hn.out;omega)) (fun k hk=>(by rintro (q | q)<;>(have:=Hn.out;omega)))
  obtain⟨f0,f1,f2,f3,f4,f5,f6,va,vl,vc,vr,vk,hB4,hz4⟩:=hm4.out
  have k4:w4.cell? ⟨mb,30,none⟩=some (vr):=hB4.cells 30 _ rfl
  have z4:=hB4.fz
  have hs4:=hf4.size
  have HM4:=hide (hm4.putRefs (by have:=Hn.out;omega) (repL_move (fun _ _=>rfl) (fun k hk=>⟨by have:=Hn.out;have:=HF3.out.size;omega,hk.2⟩) hrep4))
  have HR4:=hide (hr4.fr (Fr.setCell (X:=fun k=>k=mb) w4 ⟨mb,30,none⟩ (.slice A4 x4.length c4) rfl) (by have:=Hn.out;omega) (by have:=Hn.out;omega) (fun k h1 h2=>by have:=Hn.out;omega))
  have HF4:=hide ((HF3.out.trans (hf4.mono (Y:=own3 (fun k=>k=mb) g b) fun k _ q=>by rcases q with q | q;exact .inl q;exact .inr (.inl q))).trans (Fr.setCell (X:=own3 (fun k=>k=mb) g b) w4 ⟨mb,30,none⟩ (.slice A4 x4.length c4) (.inr (.inr rfl))))
  have HQ4:=hide hq4
  clear hr4 hf4 hq4 hB4 hz4 hm4 hs4 f0 f1 f2 f3 f4 f5 f6 vl vc vk hrep4
  go_wp2
  go_returns
  have q1:=HQ1.out
  have p1:=upd_post (u:=fun m x=>{ m with code:=x }) (m:=m) q1
  have t1:=p1
  have q2:=HQ2.out
  rw[p1.1] at q2
  have p2:=upd_post (u:=fun m x=>{ m with matched:=x }) (m:=({ m with code:=x1 }:MT)) q2
  have t2:=then_post t1.2 p2.2
  have q3:=HQ3.out
  rw[p1.1,p2.1,t2.1] at q3
  have p3:=upd_post (u:=fun m x=>{ m with text:=x }) (m:=({ ({ m with code:=x1 }:MT) with matched:=x2 }:MT)) q3
  have t3:=then_post t2.2 p3.2
  have hr:=HR4.out
  have q4:=HQ4.out
  rw[p1.1,p2.1,t2.1,p3.1,t3.1] at hr hmb q4
  obtain⟨hp0,hne⟩:=more_yes hmb
  have p4:=upd_post (u:=fun m x=>{ m with refs:=x }) (m:=({ ({ ({ m with code:=x1 }:MT) with matched:=x2 }:MT) with text:=x3 }:MT)) q4
  rw[p4.1] at hr
  have he:Rd.updR (Rd.someR 0xa3 Rd.textR) (fun m x=>{ m with refs:=x }) ({ ({ ({ m with code:=x1 }:MT) with matched:=x2 }:MT) with text:=x3 }:MT) F3=Rd.refsR ({ ({ ({ m with code:=x1 }:MT) with matched:=x2 }:MT) with text:=x3 }:MT) F3:=by unfold Rd.refsR;rw[if_neg hne];rfl
  rw[he] at hr p4
  have tt:=then_post (b:=Rd.refsR) t3.2 p4.2
  rw[tt.1] at hr
  exact⟨⟨({ ({ ({ ({ m with code:=x1 }:MT) with matched:=x2 }:MT) with text:=x3 }:MT) with refs:=x4 }:MT),F4,rfl,HM4.out,hr,HF4.out,tt.2⟩⟩
end Go.Proofs.YtpkedjohgmnhhaaGreat
