/- The numbers, texts and flags of a message, as arrays; two arrays compared. By an AI agent. -/
import Derived.Test.YtpkedjohgmnhhaaGreatLDecode
import Derived.Laws.StructEq
set_option maxRecDepth 100000
set_option maxHeartbeats 16000000
set_option linter.unusedSimpArgs false
namespace Go.Proofs.YtpkedjohgmnhhaaGreat
open Go.RowKit
set_option linter.unusedVariables false
theorem txt_inj {a b:List UInt8} (h:txt a=txt b):a=b:=by
 rw[←txt_toList a,←txt_toList b,h]
theorem numbers_any (w:World) (m:MT) (f0 f1 f2 f3 f4 f5 f6 va vl vc vr vk:Value):
  Calls Tryz.prog 47 #[.agg (mcells m f0 f1 f2 f3 f4 f5 f6 va vl vc vr vk).toArray] w fun e w'=>e=.returned (.agg #[.int .i64 m.id,.int .i64 m.kind,.int .i64 m.ver,.int .i64 m.scope,.int .i64 m.deref,.int .i64 m.size,.int .i64 m.time,.int .i64 m.target,.int .i64 m.code])∧Below w.heap.size w w':=by
 obtain⟨cs,hcs⟩:∃cs,(mcells m f0 f1 f2 f3 f4 f5 f6 va vl vc vr vk)=cs:=⟨_,rfl⟩
 have hB1:Blk (w.alloc (.cells cs.toArray 42)) w.heap.size cs:=Blk.new w cs 42
 have hfa:Fr (fun _=>False) w (w.alloc (.cells cs.toArray 42)):=Fr.alloc _ _ _
 obtain⟨w1,hw1⟩:∃w1,w.alloc (.cells cs.toArray 42)=w1:=⟨_,rfl⟩
 rw[hw1] at hB1 hfa
 have hs1:w1.heap.size=w.heap.size+1:=by rw[←hw1];simp
 have hB2:Blk (w1.alloc (.cells #[.int .i64 0,.int .i64 0,.int .i64 0,.int .i64 0,.int .i64 0,.int .i64 0,.int .i64 0,.int .i64 0,.int .i64 0] 95)) w1.heap.size [.int .i64 0,.int .i64 0,.int .i64 0,.int .i64 0,.int .i64 0,.int .i64 0,.int .i64 0,.int .i64 0,.int .i64 0]:=Blk.new w1 [.int .i64 0,.int .i64 0,.int .i64 0,.int .i64 0,.int .i64 0,.int .i64 0,.int .i64 0,.int .i64 0,.int .i64 0] 95
 have hfb:Fr (fun _=>False) w1 (w1.alloc (.cells #[.int .i64 0,.int .i64 0,.int .i64 0,.int .i64 0,.int .i64 0,.int .i64 0,.int .i64 0,.int .i64 0,.int .i64 0] 95)):=Fr.alloc _ _ _
 obtain⟨w2,hw2⟩:∃w2,w1.alloc (.cells #[.int .i64 0,.int .i64 0,.int .i64 0,.int .i64 0,.int .i64 0,.int .i64 0,.int .i64 0,.int .i64 0,.int .i64 0] 95)=w2:=⟨_,rfl⟩
 rw[hw2] at hB2 hfb
 obtain⟨b1,hb1⟩:∃b1,w.heap.size=b1:=⟨_,rfl⟩
 obtain⟨b2,hb2⟩:∃b2,w.heap.size+1=b2:=⟨_,rfl⟩
 have hB1b:=hB1.fr hfb id
 rw[hb1] at hB1b
 rw[hs1,hb2] at hB2
 have k0:w2.cell? ⟨b1,0,none⟩=some (.int .i64 m.id):=hB1b.cells 0 _ (by rw[←hcs];rfl)
 have k1:w2.cell? ⟨b1,1,none⟩=some (.int .i64 m.kind):=hB1b.cells 1 _ (by rw[←hcs];rfl)
 have k4:w2.cell? ⟨b1,4,none⟩=some (.int .i64 m.ver):=hB1b.cells 4 _ (by rw[←hcs];rfl)
 have k5:w2.cell? ⟨b1,5,none⟩=some (.int .i64 m.scope):=hB1b.cells 5 _ (by rw[←hcs];rfl)
 have k6:w2.cell? ⟨b1,6,none⟩=some (.int .i64 m.deref):=hB1b.cells 6 _ (by rw[←hcs];rfl)
 have k7:w2.cell? ⟨b1,7,none⟩=some (.int .i64 m.size):=hB1b.cells 7 _ (by rw[←hcs];rfl)
 have k8:w2.cell? ⟨b1,8,none⟩=some (.int .i64 m.time):=hB1b.cells 8 _ (by rw[←hcs];rfl)
 have k26:w2.cell? ⟨b1,26,none⟩=some (.int .i64 m.target):=hB1b.cells 26 _ (by rw[←hcs];rfl)
 have k27:w2.cell? ⟨b1,27,none⟩=some (.int .i64 m.code):=hB1b.cells 27 _ (by rw[←hcs];rfl)
 have q0:=hB2.cells 0 _ rfl
 have q1:=hB2.cells 1 _ rfl
 have q2:=hB2.cells 2 _ rfl
 have q3:=hB2.cells 3 _ rfl
 have q4:=hB2.cells 4 _ rfl
 have q5:=hB2.cells 5 _ rfl
 have q6:=hB2.cells 6 _ rfl
 have q7:=hB2.cells 7 _ rfl
 have q8:=hB2.cells 8 _ rfl
 have qz:=hB2.fz
 have Hw1:=hide hw1
 have Hw2:=hide hw2
 have Hb1:=hide hb1
 have Hb2:=hide hb2
 have Hf:=hide (hfa.trans hfb)
 have Hsz:=hide hs1
 have HB2:=hide hB2
 rw[hcs]
 clear hB1 hfa hB2 hfb hB1b hw1 hw2 hb1 hb2 hcs hs1
 go_enter Tryz.func47,Tryz.ntmps47
 go_upto_region 1 with fail
 rw[Hw1.out,Hw2.out]
 try rw[Hb2.out]
 try rw[Hb1.out]
 go_wp2
 change bodyPost _ _ _ _ _ (w2.setCells b2 0 [.int .i64 m.id,.int .i64 m.kind,.int .i64 m.ver,.int .i64 m.scope,.int .i64 m.deref,.int .i64 m.size,.int .i64 m.time,.int .i64 m.target,.int .i64 m.code])
 have HBz:=hide (HB2.out.sets 0 [.int .i64 m.id,.int .i64 m.kind,.int .i64 m.ver,.int .i64 m.scope,.int .i64 m.deref,.int .i64 m.size,.int .i64 m.time,.int .i64 m.target,.int .i64 m.code] (Nat.le_refl _) [.int .i64 m.id,.int .i64 m.kind,.int .i64 m.ver,.int .i64 m.scope,.int .i64 m.deref,.int .i64 m.size,.int .i64 m.time,.int .i64 m.target,.int .i64 m.code] rfl)
 have Hfz:=hide (Fr.setCells (X:=fun k=>k=b2) w2 b2 0 [.int .i64 m.id,.int .i64 m.kind,.int .i64 m.ver,.int .i64 m.scope,.int .i64 m.deref,.int .i64 m.size,.int .i64 m.time,.int .i64 m.target,.int .i64 m.code] rfl)
 clear k0 k1 k4 k5 k6 k7 k8 k26 k27 q0 q1 q2 q3 q4 q5 q6 q7 q8 qz HB2
 generalize w2.setCells b2 0 [.int .i64 m.id,.int .i64 m.kind,.int .i64 m.ver,.int .i64 m.scope,.int .i64 m.deref,.int .i64 m.size,.int .i64 m.time,.int .i64 m.target,.int .i64 m.code]=wz at *
 refine bodyPost_ret (v:=.agg #[.int .i64 m.id,.int .i64 m.kind,.int .i64 m.ver,.int .i64 m.scope,.int .i64 m.deref,.int .i64 m.size,.int .i64 m.time,.int .i64 m.target,.int .i64 m.code]) ?_ rfl ⟨rfl,?_⟩
 ·exact results_cell1 rfl _ wz b2 [.int .i64 m.id,.int .i64 m.kind,.int .i64 m.ver,.int .i64 m.scope,.int .i64 m.deref,.int .i64 m.size,.int .i64 m.time,.int .i64 m.target,.int .i64 m.code] _ rfl HBz.out.range Tryz.underlying95 rfl (by kernel_rfl)
 ·exact (Hf.out.trans' Hfz.out (fun k hk q=>by have:=Hb2.out;have:=Hsz.out;omega)).below (Nat.le_refl _) (fun k q=>q.elim)
theorem numbers_eq (a0 a1 a2 a3 a4 a5 a6 a7 a8 b0 b1 b2 b3 b4 b5 b6 b7 b8:Int) (b:Bool) (hb:b=true↔a0=b0∧a1=b1∧a2=b2∧a3=b3∧a4=b4∧a5=b5∧a6=b6∧a7=b7∧a8=b8) (w:World):
  (Op.equalIn 10000 95 (.agg #[.int .i64 a0,.int .i64 a1,.int .i64 a2,.int .i64 a3,.int .i64 a4,.int .i64 a5,.int .i64 a6,.int .i64 a7,.int .i64 a8]) (.agg #[.int .i64 b0,.int .i64 b1,.int .i64 b2,.int .i64 b3,.int .i64 b4,.int .i64 b5,.int .i64 b6,.int .i64 b7,.int .i64 b8])).run Tryz.prog w=.ok b w:=by
 rw[show (10000:Nat)=9999+1 from rfl,Op.equalIn]
 simp only[Sem.run_bind,run_underlying Tryz.underlying95,Result.andThen_ok]
 simp only[Std.Legacy.Range.forIn_eq_forIn_range',Std.Legacy.Range.size,Nat.sub_zero,Nat.add_sub_cancel,Nat.div_one,List.range'_succ,List.range'_zero,List.forIn_cons,List.forIn_nil]
 go_simp
 by_cases h0:a0=b0
 rotate_left
 ·have e:b=false:=by
   cases b with
   | false=>rfl
   | true=>exact absurd (hb.1 rfl).1 h0
  subst e
  simp[*]
 subst h0
 by_cases h1:a1=b1
 rotate_left
 ·have e:b=false:=by
   cases b with
   | false=>rfl
   | true=>exact absurd (hb.1 rfl).2.1 h1
  subst e
  simp[*]
 subst h1
 by_cases h2:a2=b2
 rotate_left
 ·have e:b=false:=by
   cases b with
   | false=>rfl
   | true=>exact absurd (hb.1 rfl).2.2.1 h2
  subst e
  simp[*]
 subst h2
 by_cases h3:a3=b3
 rotate_left
 ·have e:b=false:=by
   cases b with
   | false=>rfl
   | true=>exact absurd (hb.1 rfl).2.2.2.1 h3
  subst e
  simp[*]
 subst h3
 by_cases h4:a4=b4
 rotate_left
 ·have e:b=false:=by
   cases b with
   | false=>rfl
   | true=>exact absurd (hb.1 rfl).2.2.2.2.1 h4
  subst e
  simp[*]
 subst h4
 by_cases h5:a5=b5
 rotate_left
 ·have e:b=false:=by
   cases b with
   | false=>rfl
   | true=>exact absurd (hb.1 rfl).2.2.2.2.2.1 h5
  subst e
  simp[*]
 subst h5
 by_cases h6:a6=b6
 rotate_left
 ·have e:b=false:=by
   cases b with
   | false=>rfl
   | true=>exact absurd (hb.1 rfl).2.2.2.2.2.2.1 h6
  subst e
  simp[*]
 subst h6
 by_cases h7:a7=b7
 rotate_left
 ·have e:b=false:=by
   cases b with
   | false=>rfl
   | true=>exact absurd (hb.1 rfl).2.2.2.2.2.2.2.1 h7
  subst e
  simp[*]
 subst h7
 by_cases h8:a8=b8
 rotate_left
 ·have e:b=false:=by
   cases b with
   | false=>rfl
   | true=>exact absurd (hb.1 rfl).2.2.2.2.2.2.2.2 h8
  subst e
  simp[*]
 subst h8
 have e:b=true:=hb.2 (by simp)
 subst e
 simp
theorem texts_any (w:World) (m:MT) (f0 f1 f2 f3 f4 f5 f6 va vl vc vr vk:Value):
  Calls Tryz.prog 48 #[.agg (mcells m f0 f1 f2 f3 f4 f5 f6 va vl vc vr vk).toArray] w fun e w'=>e=.returned (.agg #[.string (txt m.name),.string (txt m.pw),.string (txt m.nrdn),.string (txt m.sup),.string (txt m.attr),.string (txt m.value),.string (txt m.matched),.string (txt m.text)])∧Below w.heap.size w w':=by
 obtain⟨cs,hcs⟩:∃cs,(mcells m f0 f1 f2 f3 f4 f5 f6 va vl vc vr vk)=cs:=⟨_,rfl⟩
 have hB1:Blk (w.alloc (.cells cs.toArray 42)) w.heap.size cs:=Blk.new w cs 42
 have hfa:Fr (fun _=>False) w (w.alloc (.cells cs.toArray 42)):=Fr.alloc _ _ _
 obtain⟨w1,hw1⟩:∃w1,w.alloc (.cells cs.toArray 42)=w1:=⟨_,rfl⟩
 rw[hw1] at hB1 hfa
 have hs1:w1.heap.size=w.heap.size+1:=by rw[←hw1];simp
 have hB2:Blk (w1.alloc (.cells #[.string ⟨#[]⟩,.string ⟨#[]⟩,.string ⟨#[]⟩,.string ⟨#[]⟩,.string ⟨#[]⟩,.string ⟨#[]⟩,.string ⟨#[]⟩,.string ⟨#[]⟩] 97)) w1.heap.size [.string ⟨#[]⟩,.string ⟨#[]⟩,.string ⟨#[]⟩,.string ⟨#[]⟩,.string ⟨#[]⟩,.string ⟨#[]⟩,.string ⟨#[]⟩,.string ⟨#[]⟩]:=Blk.new w1 [.string ⟨#[]⟩,.string ⟨#[]⟩,.string ⟨#[]⟩,.string ⟨#[]⟩,.string ⟨#[]⟩,.string ⟨#[]⟩,.string ⟨#[]⟩,.string ⟨#[]⟩] 97
 have hfb:Fr (fun _=>False) w1 (w1.alloc (.cells #[.string ⟨#[]⟩,.string ⟨#[]⟩,.string ⟨#[]⟩,.string ⟨#[]⟩,.string ⟨#[]⟩,.string ⟨#[]⟩,.string ⟨#[]⟩,.string ⟨#[]⟩] 97)):=Fr.alloc _ _ _
 obtain⟨w2,hw2⟩:∃w2,w1.alloc (.cells #[.string ⟨#[]⟩,.string ⟨#[]⟩,.string ⟨#[]⟩,.string ⟨#[]⟩,.string ⟨#[]⟩,.string ⟨#[]⟩,.string ⟨#[]⟩,.string ⟨#[]⟩] 97)=w2:=⟨_,rfl⟩
 rw[hw2] at hB2 hfb
 obtain⟨b1,hb1⟩:∃b1,w.heap.size=b1:=⟨_,rfl⟩
 obtain⟨b2,hb2⟩:∃b2,w.heap.size+1=b2:=⟨_,rfl⟩
 have hB1b:=hB1.fr hfb id
 rw[hb1] at hB1b
 rw[hs1,hb2] at hB2
 have k2:w2.cell? ⟨b1,2,none⟩=some (.string (txt m.name)):=hB1b.cells 2 _ (by rw[←hcs];rfl)
 have k3:w2.cell? ⟨b1,3,none⟩=some (.string (txt m.pw)):=hB1b.cells 3 _ (by rw[←hcs];rfl)
 have k20:w2.cell? ⟨b1,20,none⟩=some (.string (txt m.nrdn)):=hB1b.cells 20 _ (by rw[←hcs];rfl)
 have k23:w2.cell? ⟨b1,23,none⟩=some (.string (txt m.sup)):=hB1b.cells 23 _ (by rw[←hcs];rfl)
 have k24:w2.cell? ⟨b1,24,none⟩=some (.string (txt m.attr)):=hB1b.cells 24 _ (by rw[←hcs];rfl)
 have k25:w2.cell? ⟨b1,25,none⟩=some (.string (txt m.value)):=hB1b.cells 25 _ (by rw[←hcs];rfl)
 have k28:w2.cell? ⟨b1,28,none⟩=some (.string (txt m.matched)):=hB1b.cells 28 _ (by rw[←hcs];rfl)
 have k29:w2.cell? ⟨b1,29,none⟩=some (.string (txt m.text)):=hB1b.cells 29 _ (by rw[←hcs];rfl)
 have q0:=hB2.cells 0 _ rfl
 have q1:=hB2.cells 1 _ rfl
 have q2:=hB2.cells 2 _ rfl
 have q3:=hB2.cells 3 _ rfl
 have q4:=hB2.cells 4 _ rfl
 have q5:=hB2.cells 5 _ rfl
 have q6:=hB2.cells 6 _ rfl
 have q7:=hB2.cells 7 _ rfl
 have qz:=hB2.fz
 have Hw1:=hide hw1
 have Hw2:=hide hw2
 have Hb1:=hide hb1
 have Hb2:=hide hb2
 have Hf:=hide (hfa.trans hfb)
 have Hsz:=hide hs1
 have HB2:=hide hB2
 rw[hcs]
 clear hB1 hfa hB2 hfb hB1b hw1 hw2 hb1 hb2 hcs hs1
 go_enter Tryz.func48,Tryz.ntmps48
 go_upto_region 1 with fail
 rw[Hw1.out,Hw2.out]
 try rw[Hb2.out]
 try rw[Hb1.out]
 go_wp2
 change bodyPost _ _ _ _ _ (w2.setCells b2 0 [.string (txt m.name),.string (txt m.pw),.string (txt m.nrdn),.string (txt m.sup),.string (txt m.attr),.string (txt m.value),.string (txt m.matched),.string (txt m.text)])
 have HBz:=hide (HB2.out.sets 0 [.string (txt m.name),.string (txt m.pw),.string (txt m.nrdn),.string (txt m.sup),.string (txt m.attr),.string (txt m.value),.string (txt m.matched),.string (txt m.text)] (Nat.le_refl _) [.string (txt m.name),.string (txt m.pw),.string (txt m.nrdn),.string (txt m.sup),.string (txt m.attr),.string (txt m.value),.string (txt m.matched),.string (txt m.text)] rfl)
 have Hfz:=hide (Fr.setCells (X:=fun k=>k=b2) w2 b2 0 [.string (txt m.name),.string (txt m.pw),.string (txt m.nrdn),.string (txt m.sup),.string (txt m.attr),.string (txt m.value),.string (txt m.matched),.string (txt m.text)] rfl)
 clear k2 k3 k20 k23 k24 k25 k28 k29 q0 q1 q2 q3 q4 q5 q6 q7 qz HB2
 generalize w2.setCells b2 0 [.string (txt m.name),.string (txt m.pw),.string (txt m.nrdn),.string (txt m.sup),.string (txt m.attr),.string (txt m.value),.string (txt m.matched),.string (txt m.text)]=wz at *
 refine bodyPost_ret (v:=.agg #[.string (txt m.name),.string (txt m.pw),.string (txt m.nrdn),.string (txt m.sup),.string (txt m.attr),.string (txt m.value),.string (txt m.matched),.string (txt m.text)]) ?_ rfl ⟨rfl,?_⟩
 ·exact results_cell1 rfl _ wz b2 [.string (txt m.name),.string (txt m.pw),.string (txt m.nrdn),.string (txt m.sup),.string (txt m.attr),.string (txt m.value),.string (txt m.matched),.string (txt m.text)] _ rfl HBz.out.range Tryz.underlying97 rfl (by kernel_rfl)
 ·exact (Hf.out.trans' Hfz.out (fun k hk q=>by have:=Hb2.out;have:=Hsz.out;omega)).below (Nat.le_refl _) (fun k q=>q.elim)
theorem texts_eq (a0 a1 a2 a3 a4 a5 a6 a7 b0 b1 b2 b3 b4 b5 b6 b7:List UInt8) (b:Bool) (hb:b=true↔a0=b0∧a1=b1∧a2=b2∧a3=b3∧a4=b4∧a5=b5∧a6=b6∧a7=b7) (w:World):
  (Op.equalIn 10000 97 (.agg #[.string (txt a0),.string (txt a1),.string (txt a2),.string (txt a3),.string (txt a4),.string (txt a5),.string (txt a6),.string (txt a7)]) (.agg #[.string (txt b0),.string (txt b1),.string (txt b2),.string (txt b3),.string (txt b4),.string (txt b5),.string (txt b6),.string (txt b7)])).run Tryz.prog w=.ok b w:=by
 rw[show (10000:Nat)=9999+1 from rfl,Op.equalIn]
 simp only[Sem.run_bind,run_underlying Tryz.underlying97,Result.andThen_ok]
 simp only[Std.Legacy.Range.forIn_eq_forIn_range',Std.Legacy.Range.size,Nat.sub_zero,Nat.add_sub_cancel,Nat.div_one,List.range'_succ,List.range'_zero,List.forIn_cons,List.forIn_nil]
 go_simp
 by_cases h0:a0=b0
 rotate_left
 ·have e:b=false:=by
   cases b with
   | false=>rfl
   | true=>exact absurd (hb.1 rfl).1 h0
  have n1:¬txt a0=txt b0:=fun q=>h0 (txt_inj q)
  subst e
  simp[*]
 subst h0
 by_cases h1:a1=b1
 rotate_left
 ·have e:b=false:=by
   cases b with
   | false=>rfl
   | true=>exact absurd (hb.1 rfl).2.1 h1
  have n1:¬txt a1=txt b1:=fun q=>h1 (txt_inj q)
  subst e
  simp[*]
 subst h1
 by_cases h2:a2=b2
 rotate_left
 ·have e:b=false:=by
   cases b with
   | false=>rfl
   | true=>exact absurd (hb.1 rfl).2.2.1 h2
  have n1:¬txt a2=txt b2:=fun q=>h2 (txt_inj q)
  subst e
  simp[*]
 subst h2
 by_cases h3:a3=b3
 rotate_left
 ·have e:b=false:=by
   cases b with
   | false=>rfl
   | true=>exact absurd (hb.1 rfl).2.2.2.1 h3
  have n1:¬txt a3=txt b3:=fun q=>h3 (txt_inj q)
  subst e
  simp[*]
 subst h3
 by_cases h4:a4=b4
 rotate_left
 ·have e:b=false:=by
   cases b with
   | false=>rfl
   | true=>exact absurd (hb.1 rfl).2.2.2.2.1 h4
  have n1:¬txt a4=txt b4:=fun q=>h4 (txt_inj q)
  subst e
  simp[*]
 subst h4
 by_cases h5:a5=b5
 rotate_left
 ·have e:b=false:=by
   cases b with
   | false=>rfl
   | true=>exact absurd (hb.1 rfl).2.2.2.2.2.1 h5
  have n1:¬txt a5=txt b5:=fun q=>h5 (txt_inj q)
  subst e
  simp[*]
 subst h5
 by_cases h6:a6=b6
 rotate_left
 ·have e:b=false:=by
   cases b with
   | false=>rfl
   | true=>exact absurd (hb.1 rfl).2.2.2.2.2.2.1 h6
  have n1:¬txt a6=txt b6:=fun q=>h6 (txt_inj q)
  subst e
  simp[*]
 subst h6
 by_cases h7:a7=b7
 rotate_left
 ·have e:b=false:=by
   cases b with
   | false=>rfl
   | true=>exact absurd (hb.1 rfl).2.2.2.2.2.2.2 h7
  have n1:¬txt a7=txt b7:=fun q=>h7 (txt_inj q)
  subst e
  simp[*]
 subst h7
 have e:b=true:=hb.2 (by simp)
 subst e
 simp
theorem flags_any (w:World) (m:MT) (f0 f1 f2 f3 f4 f5 f6 va vl vc vr vk:Value):
  Calls Tryz.prog 49 #[.agg (mcells m f0 f1 f2 f3 f4 f5 f6 va vl vc vr vk).toArray] w fun e w'=>e=.returned (.agg #[.bool m.tonly,.bool m.delold,.bool m.hassup])∧Below w.heap.size w w':=by
 obtain⟨cs,hcs⟩:∃cs,(mcells m f0 f1 f2 f3 f4 f5 f6 va vl vc vr vk)=cs:=⟨_,rfl⟩
 have hB1:Blk (w.alloc (.cells cs.toArray 42)) w.heap.size cs:=Blk.new w cs 42
 have hfa:Fr (fun _=>False) w (w.alloc (.cells cs.toArray 42)):=Fr.alloc _ _ _
 obtain⟨w1,hw1⟩:∃w1,w.alloc (.cells cs.toArray 42)=w1:=⟨_,rfl⟩
 rw[hw1] at hB1 hfa
 have hs1:w1.heap.size=w.heap.size+1:=by rw[←hw1];simp
 have hB2:Blk (w1.alloc (.cells #[.bool false,.bool false,.bool false] 99)) w1.heap.size [.bool false,.bool false,.bool false]:=Blk.new w1 [.bool false,.bool false,.bool false] 99
 have hfb:Fr (fun _=>False) w1 (w1.alloc (.cells #[.bool false,.bool false,.bool false] 99)):=Fr.alloc _ _ _
 obtain⟨w2,hw2⟩:∃w2,w1.alloc (.cells #[.bool false,.bool false,.bool false] 99)=w2:=⟨_,rfl⟩
 rw[hw2] at hB2 hfb
 obtain⟨b1,hb1⟩:∃b1,w.heap.size=b1:=⟨_,rfl⟩
 obtain⟨b2,hb2⟩:∃b2,w.heap.size+1=b2:=⟨_,rfl⟩
 have hB1b:=hB1.fr hfb id
 rw[hb1] at hB1b
 rw[hs1,hb2] at hB2
 have k9:w2.cell? ⟨b1,9,none⟩=some (.bool m.tonly):=hB1b.cells 9 _ (by rw[←hcs];rfl)
 have k21:w2.cell? ⟨b1,21,none⟩=some (.bool m.delold):=hB1b.cells 21 _ (by rw[←hcs];rfl)
 have k22:w2.cell? ⟨b1,22,none⟩=some (.bool m.hassup):=hB1b.cells 22 _ (by rw[←hcs];rfl)
 have q0:=hB2.cells 0 _ rfl
 have q1:=hB2.cells 1 _ rfl
 have q2:=hB2.cells 2 _ rfl
 have qz:=hB2.fz
 have Hw1:=hide hw1
 have Hw2:=hide hw2
 have Hb1:=hide hb1
 have Hb2:=hide hb2
 have Hf:=hide (hfa.trans hfb)
 have Hsz:=hide hs1
 have HB2:=hide hB2
 rw[hcs]
 clear hB1 hfa hB2 hfb hB1b hw1 hw2 hb1 hb2 hcs hs1
 go_enter Tryz.func49,Tryz.ntmps49
 go_upto_region 1 with fail
 rw[Hw1.out,Hw2.out]
 try rw[Hb2.out]
 try rw[Hb1.out]
 go_wp2
 change bodyPost _ _ _ _ _ (w2.setCells b2 0 [.bool m.tonly,.bool m.delold,.bool m.hassup])
 have HBz:=hide (HB2.out.sets 0 [.bool m.tonly,.bool m.delold,.bool m.hassup] (Nat.le_refl _) [.bool m.tonly,.bool m.delold,.bool m.hassup] rfl)
 have Hfz:=hide (Fr.setCells (X:=fun k=>k=b2) w2 b2 0 [.bool m.tonly,.bool m.delold,.bool m.hassup] rfl)
 clear k9 k21 k22 q0 q1 q2 qz HB2
 generalize w2.setCells b2 0 [.bool m.tonly,.bool m.delold,.bool m.hassup]=wz at *
 refine bodyPost_ret (v:=.agg #[.bool m.tonly,.bool m.delold,.bool m.hassup]) ?_ rfl ⟨rfl,?_⟩
 ·exact results_cell1 rfl _ wz b2 [.bool m.tonly,.bool m.delold,.bool m.hassup] _ rfl HBz.out.range Tryz.underlying99 rfl (by kernel_rfl)
 ·exact (Hf.out.trans' Hfz.out (fun k hk q=>by have:=Hb2.out;have:=Hsz.out;omega)).below (Nat.le_refl _) (fun k q=>q.elim)
theorem flags_eq (a0 a1 a2 b0 b1 b2:Bool) (b:Bool) (hb:b=true↔a0=b0∧a1=b1∧a2=b2) (w:World):
  (Op.equalIn 10000 99 (.agg #[.bool a0,.bool a1,.bool a2]) (.agg #[.bool b0,.bool b1,.bool b2])).run Tryz.prog w=.ok b w:=by
 rw[show (10000:Nat)=9999+1 from rfl,Op.equalIn]
 simp only[Sem.run_bind,run_underlying Tryz.underlying99,Result.andThen_ok]
 simp only[Std.Legacy.Range.forIn_eq_forIn_range',Std.Legacy.Range.size,Nat.sub_zero,Nat.add_sub_cancel,Nat.div_one,List.range'_succ,List.range'_zero,List.forIn_cons,List.forIn_nil]
 go_simp
 by_cases h0:a0=b0
 rotate_left
 ·have e:b=false:=by
   cases b with
   | false=>rfl
   | true=>exact absurd (hb.1 rfl).1 h0
  subst e
  simp[*]
 subst h0
 by_cases h1:a1=b1
 rotate_left
 ·have e:b=false:=by
   cases b with
   | false=>rfl
   | true=>exact absurd (hb.1 rfl).2.1 h1
  subst e
  simp[*]
 subst h1
 by_cases h2:a2=b2
 rotate_left
 ·have e:b=false:=by
   cases b with
   | false=>rfl
   | true=>exact absurd (hb.1 rfl).2.2 h2
  subst e
  simp[*]
 subst h2
 have e:b=true:=hb.2 (by simp)
 subst e
 simp
end Go.Proofs.YtpkedjohgmnhhaaGreat
