/- Two messages compared by the reference. By an AI agent. -/
import Derived.Test.YtcpjmgfloimfhaaGreatRSameA
import Derived.Test.YtcpjmgfloimfhaaGreatRSameB
import Derived.Test.YtcpjmgfloimfhaaGreatRSameC
import Derived.Test.YtcpjmgfloimfhaaGreatRSameD
import Derived.Test.YtcpjmgfloimfhaaGreatRSameE
import Derived.Test.YtcpjmgfloimfhaaGreatRSameF
import Derived.Test.YtcpjmgfloimfhaaGreatRSameG
import Derived.Test.YtcpjmgfloimfhaaGreatRSameH
import Derived.Test.YtcpjmgfloimfhaaGreatRSameI
import Derived.Test.YtcpjmgfloimfhaaGreatRSameT
set_option linter.unusedSimpArgs false
set_option linter.unusedVariables false
set_option maxRecDepth 100000
set_option maxHeartbeats 32000000
namespace Go.Proofs.YtcpjmgfloimfhaaGreat
open Go.RowKit
set_option linter.unusedVariables false
theorem rsame_any (w:World) (x y:MT) (v v':Value) (hx:repM w (inB w) x v) (hy:repM w (inB w) y v') (R:Bool) (hR:R=true↔x=y):
  Calls Tryz.prog 16 #[v,v'] w fun e w'=>e=.returned (.bool R)∧Below w.heap.size w w':=by
 obtain⟨f0,f1,f2,f3,f4,f5,f6,va,vl,vc,vr,vk,rfl,hX⟩:=hx
 obtain⟨g0,g1,g2,g3,g4,g5,g6,ua,ul,uc,ur,uk,rfl,hY⟩:=hy
 obtain⟨cx,hcx⟩:∃cx,mcells x f0 f1 f2 f3 f4 f5 f6 va vl vc vr vk=cx:=⟨_,rfl⟩
 obtain⟨cy,hcy⟩:∃cy,mcells y g0 g1 g2 g3 g4 g5 g6 ua ul uc ur uk=cy:=⟨_,rfl⟩
 have hB1:Blk (w.alloc (.cells cx.toArray 30)) w.heap.size cx:=Blk.new w cx 30
 have hf1:Fr (fun _=>False) w (w.alloc (.cells cx.toArray 30)):=Fr.alloc _ _ _
 obtain⟨w1,hw1⟩:∃w1,w.alloc (.cells cx.toArray 30)=w1:=⟨_,rfl⟩
 have hs1:w1.heap.size=w.heap.size+1:=by rw[←hw1];simp
 rw[hw1] at hB1 hf1
 have hB2:Blk (w1.alloc (.cells cy.toArray 30)) w1.heap.size cy:=Blk.new w1 cy 30
 have hf2:Fr (fun _=>False) w1 (w1.alloc (.cells cy.toArray 30)):=Fr.alloc _ _ _
 obtain⟨w2,hw2⟩:∃w2,w1.alloc (.cells cy.toArray 30)=w2:=⟨_,rfl⟩
 rw[hw2] at hB2 hf2
 have hB1b:=hB1.fr hf2 id
 have hb:Below w.heap.size w w2:=(hf1.trans hf2).below (Nat.le_refl _) (fun k q=>q.elim)
 rw[hs1] at hB2
 obtain⟨p1,hp1⟩:∃p1,w.heap.size=p1:=⟨_,rfl⟩
 obtain⟨p2,hp2⟩:∃p2,w.heap.size+1=p2:=⟨_,rfl⟩
 rw[hp1] at hB1b
 rw[hp2] at hB2
 have Hw:Hid (((w.alloc (.cells cx.toArray 30)).alloc (.cells cy.toArray 30))=w2):=hide (by rw[hw1];exact hw2)
 have Hp:Hid (w.heap.size=p1∧w.heap.size+1=p2):=hide ⟨hp1,hp2⟩
 have HX2:=hide hB1b
 have HY2:=hide hB2
 have HBw2:=hide hb
 have HX:Hid (Blk ((w.alloc (.cells cx.toArray 30)).alloc (.cells cy.toArray 30)) w.heap.size cx):=hide (by rw[Hw.out,hp1];exact hB1b)
 have HY:Hid (Blk ((w.alloc (.cells cx.toArray 30)).alloc (.cells cy.toArray 30)) (w.heap.size+1) cy):=hide (by rw[Hw.out,hp2];exact hB2)
 have HBw:Hid (Below w.heap.size w ((w.alloc (.cells cx.toArray 30)).alloc (.cells cy.toArray 30))):=hide (by rw[Hw.out];exact hb)
 have rX:∀W,Below w2.heap.size w2 W→MReps W (inB W) x f0 f1 f2 f3 f4 f5 f6 va vl vc vr vk:=fun W hW=>(hX.below hb).below hW
 have rY:∀W,Below w2.heap.size w2 W→MReps W (inB W) y g0 g1 g2 g3 g4 g5 g6 ua ul uc ur uk:=fun W hW=>(hY.below hb).below hW
 have no:∀q:¬x=y,R=false:=fun q=>by
  cases R with
  | false=>rfl
  | true=>exact absurd (hR.1 rfl) q
 rw[hcx,hcy]
 clear hB1 hf1 hB2 hf2 hB1b hw1 hw2
 by_cases n0:x.id=y.id
 rotate_left
 ·rw [no (fun q=>n0 (by rw[q]))]
  exact rsame_no0 w cx cy HX HY HBw x.id y.id (by rw[←hcx];rfl) (by rw[←hcy];rfl) n0
 by_cases n1:x.kind=y.kind
 rotate_left
 ·rw [no (fun q=>n1 (by rw[q]))]
  exact rsame_no1 w cx cy HX HY HBw x.id (by rw[←hcx];rfl) (by rw[←hcy,n0];rfl) x.kind y.kind (by rw[←hcx];rfl) (by rw[←hcy];rfl) n1
 by_cases n2:x.name=y.name
 rotate_left
 ·rw [no (fun q=>n2 (by rw[q]))]
  exact rsame_no2 w cx cy HX HY HBw x.id (by rw[←hcx];rfl) (by rw[←hcy,n0];rfl) x.kind (by rw[←hcx];rfl) (by rw[←hcy,n1];rfl) (txt x.name) (txt y.name) (by rw[←hcx];rfl) (by rw[←hcy];rfl) (fun q=>n2 (txt_inj q)) (beq_false_of_ne (fun q=>n2 (txt_lists q)))
 by_cases n3:x.pw=y.pw
 rotate_left
 ·rw [no (fun q=>n3 (by rw[q]))]
  exact rsame_no3 w cx cy HX HY HBw x.id (by rw[←hcx];rfl) (by rw[←hcy,n0];rfl) x.kind (by rw[←hcx];rfl) (by rw[←hcy,n1];rfl) (txt x.name) (by rw[←hcx];rfl) (by rw[←hcy,n2];rfl) (txt x.pw) (txt y.pw) (by rw[←hcx];rfl) (by rw[←hcy];rfl) (fun q=>n3 (txt_inj q)) (beq_false_of_ne (fun q=>n3 (txt_lists q)))
 by_cases n4:x.ver=y.ver
 rotate_left
 ·rw [no (fun q=>n4 (by rw[q]))]
  exact rsame_no4 w cx cy HX HY HBw x.id (by rw[←hcx];rfl) (by rw[←hcy,n0];rfl) x.kind (by rw[←hcx];rfl) (by rw[←hcy,n1];rfl) (txt x.name) (by rw[←hcx];rfl) (by rw[←hcy,n2];rfl) (txt x.pw) (by rw[←hcx];rfl) (by rw[←hcy,n3];rfl) x.ver y.ver (by rw[←hcx];rfl) (by rw[←hcy];rfl) n4
 by_cases n5:x.scope=y.scope
 rotate_left
 ·rw [no (fun q=>n5 (by rw[q]))]
  exact rsame_no5 w cx cy HX HY HBw x.id (by rw[←hcx];rfl) (by rw[←hcy,n0];rfl) x.kind (by rw[←hcx];rfl) (by rw[←hcy,n1];rfl) (txt x.name) (by rw[←hcx];rfl) (by rw[←hcy,n2];rfl) (txt x.pw) (by rw[←hcx];rfl) (by rw[←hcy,n3];rfl) x.ver (by rw[←hcx];rfl) (by rw[←hcy,n4];rfl) x.scope y.scope (by rw[←hcx];rfl) (by rw[←hcy];rfl) n5
 by_cases n6:x.deref=y.deref
 rotate_left
 ·rw [no (fun q=>n6 (by rw[q]))]
  exact rsame_no6 w cx cy HX HY HBw x.id (by rw[←hcx];rfl) (by rw[←hcy,n0];rfl) x.kind (by rw[←hcx];rfl) (by rw[←hcy,n1];rfl) (txt x.name) (by rw[←hcx];rfl) (by rw[←hcy,n2];rfl) (txt x.pw) (by rw[←hcx];rfl) (by rw[←hcy,n3];rfl) x.ver (by rw[←hcx];rfl) (by rw[←hcy,n4];rfl) x.scope (by rw[←hcx];rfl) (by rw[←hcy,n5];rfl) x.deref y.deref (by rw[←hcx];rfl) (by rw[←hcy];rfl) n6
 by_cases n7:x.size=y.size
 rotate_left
 ·rw [no (fun q=>n7 (by rw[q]))]
  exact rsame_no7 w cx cy HX HY HBw x.id (by rw[←hcx];rfl) (by rw[←hcy,n0];rfl) x.kind (by rw[←hcx];rfl) (by rw[←hcy,n1];rfl) (txt x.name) (by rw[←hcx];rfl) (by rw[←hcy,n2];rfl) (txt x.pw) (by rw[←hcx];rfl) (by rw[←hcy,n3];rfl) x.ver (by rw[←hcx];rfl) (by rw[←hcy,n4];rfl) x.scope (by rw[←hcx];rfl) (by rw[←hcy,n5];rfl) x.deref (by rw[←hcx];rfl) (by rw[←hcy,n6];rfl) x.size y.size (by rw[←hcx];rfl) (by rw[←hcy];rfl) n7
 by_cases n8:x.time=y.time
 rotate_left
 ·rw [no (fun q=>n8 (by rw[q]))]
  exact rsame_no8 w cx cy HX HY HBw x.id (by rw[←hcx];rfl) (by rw[←hcy,n0];rfl) x.kind (by rw[←hcx];rfl) (by rw[←hcy,n1];rfl) (txt x.name) (by rw[←hcx];rfl) (by rw[←hcy,n2];rfl) (txt x.pw) (by rw[←hcx];rfl) (by rw[←hcy,n3];rfl) x.ver (by rw[←hcx];rfl) (by rw[←hcy,n4];rfl) x.scope (by rw[←hcx];rfl) (by rw[←hcy,n5];rfl) x.deref (by rw[←hcx];rfl) (by rw[←hcy,n6];rfl) x.size (by rw[←hcx];rfl) (by rw[←hcy,n7];rfl) x.time y.time (by rw[←hcx];rfl) (by rw[←hcy];rfl) n8
 by_cases n9:x.tonly=y.tonly
 rotate_left
 ·rw [no (fun q=>n9 (by rw[q]))]
  exact rsame_no9 w cx cy HX HY HBw x.id (by rw[←hcx];rfl) (by rw[←hcy,n0];rfl) x.kind (by rw[←hcx];rfl) (by rw[←hcy,n1];rfl) (txt x.name) (by rw[←hcx];rfl) (by rw[←hcy,n2];rfl) (txt x.pw) (by rw[←hcx];rfl) (by rw[←hcy,n3];rfl) x.ver (by rw[←hcx];rfl) (by rw[←hcy,n4];rfl) x.scope (by rw[←hcx];rfl) (by rw[←hcy,n5];rfl) x.deref (by rw[←hcx];rfl) (by rw[←hcy,n6];rfl) x.size (by rw[←hcx];rfl) (by rw[←hcy,n7];rfl) x.time (by rw[←hcx];rfl) (by rw[←hcy,n8];rfl) x.tonly y.tonly (by rw[←hcx];rfl) (by rw[←hcy];rfl) n9
 by_cases n10:x.nrdn=y.nrdn
 rotate_left
 ·rw [no (fun q=>n10 (by rw[q]))]
  exact rsame_no10 w cx cy HX HY HBw x.id (by rw[←hcx];rfl) (by rw[←hcy,n0];rfl) x.kind (by rw[←hcx];rfl) (by rw[←hcy,n1];rfl) (txt x.name) (by rw[←hcx];rfl) (by rw[←hcy,n2];rfl) (txt x.pw) (by rw[←hcx];rfl) (by rw[←hcy,n3];rfl) x.ver (by rw[←hcx];rfl) (by rw[←hcy,n4];rfl) x.scope (by rw[←hcx];rfl) (by rw[←hcy,n5];rfl) x.deref (by rw[←hcx];rfl) (by rw[←hcy,n6];rfl) x.size (by rw[←hcx];rfl) (by rw[←hcy,n7];rfl) x.time (by rw[←hcx];rfl) (by rw[←hcy,n8];rfl) x.tonly (by rw[←hcx];rfl) (by rw[←hcy,n9];rfl) (txt x.nrdn) (txt y.nrdn) (by rw[←hcx];rfl) (by rw[←hcy];rfl) (fun q=>n10 (txt_inj q)) (beq_false_of_ne (fun q=>n10 (txt_lists q)))
 by_cases n11:x.delold=y.delold
 rotate_left
 ·rw [no (fun q=>n11 (by rw[q]))]
  exact rsame_no11 w cx cy HX HY HBw x.id (by rw[←hcx];rfl) (by rw[←hcy,n0];rfl) x.kind (by rw[←hcx];rfl) (by rw[←hcy,n1];rfl) (txt x.name) (by rw[←hcx];rfl) (by rw[←hcy,n2];rfl) (txt x.pw) (by rw[←hcx];rfl) (by rw[←hcy,n3];rfl) x.ver (by rw[←hcx];rfl) (by rw[←hcy,n4];rfl) x.scope (by rw[←hcx];rfl) (by rw[←hcy,n5];rfl) x.deref (by rw[←hcx];rfl) (by rw[←hcy,n6];rfl) x.size (by rw[←hcx];rfl) (by rw[←hcy,n7];rfl) x.time (by rw[←hcx];rfl) (by rw[←hcy,n8];rfl) x.tonly (by rw[←hcx];rfl) (by rw[←hcy,n9];rfl) (txt x.nrdn) (by rw[←hcx];rfl) (by rw[←hcy,n10];rfl) x.delold y.delold (by rw[←hcx];rfl) (by rw[←hcy];rfl) n11
 by_cases n12:x.hassup=y.hassup
 rotate_left
 ·rw [no (fun q=>n12 (by rw[q]))]
  exact rsame_no12 w cx cy HX HY HBw x.id (by rw[←hcx];rfl) (by rw[←hcy,n0];rfl) x.kind (by rw[←hcx];rfl) (by rw[←hcy,n1];rfl) (txt x.name) (by rw[←hcx];rfl) (by rw[←hcy,n2];rfl) (txt x.pw) (by rw[←hcx];rfl) (by rw[←hcy,n3];rfl) x.ver (by rw[←hcx];rfl) (by rw[←hcy,n4];rfl) x.scope (by rw[←hcx];rfl) (by rw[←hcy,n5];rfl) x.deref (by rw[←hcx];rfl) (by rw[←hcy,n6];rfl) x.size (by rw[←hcx];rfl) (by rw[←hcy,n7];rfl) x.time (by rw[←hcx];rfl) (by rw[←hcy,n8];rfl) x.tonly (by rw[←hcx];rfl) (by rw[←hcy,n9];rfl) (txt x.nrdn) (by rw[←hcx];rfl) (by rw[←hcy,n10];rfl) x.delold (by rw[←hcx];rfl) (by rw[←hcy,n11];rfl) x.hassup y.hassup (by rw[←hcx];rfl) (by rw[←hcy];rfl) n12
 by_cases n13:x.sup=y.sup
 rotate_left
 ·rw [no (fun q=>n13 (by rw[q]))]
  exact rsame_no13 w cx cy HX HY HBw x.id (by rw[←hcx];rfl) (by rw[←hcy,n0];rfl) x.kind (by rw[←hcx];rfl) (by rw[←hcy,n1];rfl) (txt x.name) (by rw[←hcx];rfl) (by rw[←hcy,n2];rfl) (txt x.pw) (by rw[←hcx];rfl) (by rw[←hcy,n3];rfl) x.ver (by rw[←hcx];rfl) (by rw[←hcy,n4];rfl) x.scope (by rw[←hcx];rfl) (by rw[←hcy,n5];rfl) x.deref (by rw[←hcx];rfl) (by rw[←hcy,n6];rfl) x.size (by rw[←hcx];rfl) (by rw[←hcy,n7];rfl) x.time (by rw[←hcx];rfl) (by rw[←hcy,n8];rfl) x.tonly (by rw[←hcx];rfl) (by rw[←hcy,n9];rfl) (txt x.nrdn) (by rw[←hcx];rfl) (by rw[←hcy,n10];rfl) x.delold (by rw[←hcx];rfl) (by rw[←hcy,n11];rfl) x.hassup (by rw[←hcx];rfl) (by rw[←hcy,n12];rfl) (txt x.sup) (txt y.sup) (by rw[←hcx];rfl) (by rw[←hcy];rfl) (fun q=>n13 (txt_inj q)) (beq_false_of_ne (fun q=>n13 (txt_lists q)))
 by_cases n14:x.attr=y.attr
 rotate_left
 ·rw [no (fun q=>n14 (by rw[q]))]
  exact rsame_no14 w cx cy HX HY HBw x.id (by rw[←hcx];rfl) (by rw[←hcy,n0];rfl) x.kind (by rw[←hcx];rfl) (by rw[←hcy,n1];rfl) (txt x.name) (by rw[←hcx];rfl) (by rw[←hcy,n2];rfl) (txt x.pw) (by rw[←hcx];rfl) (by rw[←hcy,n3];rfl) x.ver (by rw[←hcx];rfl) (by rw[←hcy,n4];rfl) x.scope (by rw[←hcx];rfl) (by rw[←hcy,n5];rfl) x.deref (by rw[←hcx];rfl) (by rw[←hcy,n6];rfl) x.size (by rw[←hcx];rfl) (by rw[←hcy,n7];rfl) x.time (by rw[←hcx];rfl) (by rw[←hcy,n8];rfl) x.tonly (by rw[←hcx];rfl) (by rw[←hcy,n9];rfl) (txt x.nrdn) (by rw[←hcx];rfl) (by rw[←hcy,n10];rfl) x.delold (by rw[←hcx];rfl) (by rw[←hcy,n11];rfl) x.hassup (by rw[←hcx];rfl) (by rw[←hcy,n12];rfl) (txt x.sup) (by rw[←hcx];rfl) (by rw[←hcy,n13];rfl) (txt x.attr) (txt y.attr) (by rw[←hcx];rfl) (by rw[←hcy];rfl) (fun q=>n14 (txt_inj q)) (beq_false_of_ne (fun q=>n14 (txt_lists q)))
 by_cases n15:x.value=y.value
 rotate_left
 ·rw [no (fun q=>n15 (by rw[q]))]
  exact rsame_no15 w cx cy HX HY HBw x.id (by rw[←hcx];rfl) (by rw[←hcy,n0];rfl) x.kind (by rw[←hcx];rfl) (by rw[←hcy,n1];rfl) (txt x.name) (by rw[←hcx];rfl) (by rw[←hcy,n2];rfl) (txt x.pw) (by rw[←hcx];rfl) (by rw[←hcy,n3];rfl) x.ver (by rw[←hcx];rfl) (by rw[←hcy,n4];rfl) x.scope (by rw[←hcx];rfl) (by rw[←hcy,n5];rfl) x.deref (by rw[←hcx];rfl) (by rw[←hcy,n6];rfl) x.size (by rw[←hcx];rfl) (by rw[←hcy,n7];rfl) x.time (by rw[←hcx];rfl) (by rw[←hcy,n8];rfl) x.tonly (by rw[←hcx];rfl) (by rw[←hcy,n9];rfl) (txt x.nrdn) (by rw[←hcx];rfl) (by rw[←hcy,n10];rfl) x.delold (by rw[←hcx];rfl) (by rw[←hcy,n11];rfl) x.hassup (by rw[←hcx];rfl) (by rw[←hcy,n12];rfl) (txt x.sup) (by rw[←hcx];rfl) (by rw[←hcy,n13];rfl) (txt x.attr) (by rw[←hcx];rfl) (by rw[←hcy,n14];rfl) (txt x.value) (txt y.value) (by rw[←hcx];rfl) (by rw[←hcy];rfl) (fun q=>n15 (txt_inj q)) (beq_false_of_ne (fun q=>n15 (txt_lists q)))
 by_cases n16:x.target=y.target
 rotate_left
 ·rw [no (fun q=>n16 (by rw[q]))]
  exact rsame_no16 w cx cy HX HY HBw x.id (by rw[←hcx];rfl) (by rw[←hcy,n0];rfl) x.kind (by rw[←hcx];rfl) (by rw[←hcy,n1];rfl) (txt x.name) (by rw[←hcx];rfl) (by rw[←hcy,n2];rfl) (txt x.pw) (by rw[←hcx];rfl) (by rw[←hcy,n3];rfl) x.ver (by rw[←hcx];rfl) (by rw[←hcy,n4];rfl) x.scope (by rw[←hcx];rfl) (by rw[←hcy,n5];rfl) x.deref (by rw[←hcx];rfl) (by rw[←hcy,n6];rfl) x.size (by rw[←hcx];rfl) (by rw[←hcy,n7];rfl) x.time (by rw[←hcx];rfl) (by rw[←hcy,n8];rfl) x.tonly (by rw[←hcx];rfl) (by rw[←hcy,n9];rfl) (txt x.nrdn) (by rw[←hcx];rfl) (by rw[←hcy,n10];rfl) x.delold (by rw[←hcx];rfl) (by rw[←hcy,n11];rfl) x.hassup (by rw[←hcx];rfl) (by rw[←hcy,n12];rfl) (txt x.sup) (by rw[←hcx];rfl) (by rw[←hcy,n13];rfl) (txt x.attr) (by rw[←hcx];rfl) (by rw[←hcy,n14];rfl) (txt x.value) (by rw[←hcx];rfl) (by rw[←hcy,n15];rfl) x.target y.target (by rw[←hcx];rfl) (by rw[←hcy];rfl) n16
 by_cases n17:x.code=y.code
 rotate_left
 ·rw [no (fun q=>n17 (by rw[q]))]
  exact rsame_no17 w cx cy HX HY HBw x.id (by rw[←hcx];rfl) (by rw[←hcy,n0];rfl) x.kind (by rw[←hcx];rfl) (by rw[←hcy,n1];rfl) (txt x.name) (by rw[←hcx];rfl) (by rw[←hcy,n2];rfl) (txt x.pw) (by rw[←hcx];rfl) (by rw[←hcy,n3];rfl) x.ver (by rw[←hcx];rfl) (by rw[←hcy,n4];rfl) x.scope (by rw[←hcx];rfl) (by rw[←hcy,n5];rfl) x.deref (by rw[←hcx];rfl) (by rw[←hcy,n6];rfl) x.size (by rw[←hcx];rfl) (by rw[←hcy,n7];rfl) x.time (by rw[←hcx];rfl) (by rw[←hcy,n8];rfl) x.tonly (by rw[←hcx];rfl) (by rw[←hcy,n9];rfl) (txt x.nrdn) (by rw[←hcx];rfl) (by rw[←hcy,n10];rfl) x.delold (by rw[←hcx];rfl) (by rw[←hcy,n11];rfl) x.hassup (by rw[←hcx];rfl) (by rw[←hcy,n12];rfl) (txt x.sup) (by rw[←hcx];rfl) (by rw[←hcy,n13];rfl) (txt x.attr) (by rw[←hcx];rfl) (by rw[←hcy,n14];rfl) (txt x.value) (by rw[←hcx];rfl) (by rw[←hcy,n15];rfl) x.target (by rw[←hcx];rfl) (by rw[←hcy,n16];rfl) x.code y.code (by rw[←hcx];rfl) (by rw[←hcy];rfl) n17
 by_cases n18:x.matched=y.matched
 rotate_left
 ·rw [no (fun q=>n18 (by rw[q]))]
  exact rsame_no18 w cx cy HX HY HBw x.id (by rw[←hcx];rfl) (by rw[←hcy,n0];rfl) x.kind (by rw[←hcx];rfl) (by rw[←hcy,n1];rfl) (txt x.name) (by rw[←hcx];rfl) (by rw[←hcy,n2];rfl) (txt x.pw) (by rw[←hcx];rfl) (by rw[←hcy,n3];rfl) x.ver (by rw[←hcx];rfl) (by rw[←hcy,n4];rfl) x.scope (by rw[←hcx];rfl) (by rw[←hcy,n5];rfl) x.deref (by rw[←hcx];rfl) (by rw[←hcy,n6];rfl) x.size (by rw[←hcx];rfl) (by rw[←hcy,n7];rfl) x.time (by rw[←hcx];rfl) (by rw[←hcy,n8];rfl) x.tonly (by rw[←hcx];rfl) (by rw[←hcy,n9];rfl) (txt x.nrdn) (by rw[←hcx];rfl) (by rw[←hcy,n10];rfl) x.delold (by rw[←hcx];rfl) (by rw[←hcy,n11];rfl) x.hassup (by rw[←hcx];rfl) (by rw[←hcy,n12];rfl) (txt x.sup) (by rw[←hcx];rfl) (by rw[←hcy,n13];rfl) (txt x.attr) (by rw[←hcx];rfl) (by rw[←hcy,n14];rfl) (txt x.value) (by rw[←hcx];rfl) (by rw[←hcy,n15];rfl) x.target (by rw[←hcx];rfl) (by rw[←hcy,n16];rfl) x.code (by rw[←hcx];rfl) (by rw[←hcy,n17];rfl) (txt x.matched) (txt y.matched) (by rw[←hcx];rfl) (by rw[←hcy];rfl) (fun q=>n18 (txt_inj q)) (beq_false_of_ne (fun q=>n18 (txt_lists q)))
 by_cases n19:x.text=y.text
 rotate_left
 ·rw [no (fun q=>n19 (by rw[q]))]
  exact rsame_no19 w cx cy HX HY HBw x.id (by rw[←hcx];rfl) (by rw[←hcy,n0];rfl) x.kind (by rw[←hcx];rfl) (by rw[←hcy,n1];rfl) (txt x.name) (by rw[←hcx];rfl) (by rw[←hcy,n2];rfl) (txt x.pw) (by rw[←hcx];rfl) (by rw[←hcy,n3];rfl) x.ver (by rw[←hcx];rfl) (by rw[←hcy,n4];rfl) x.scope (by rw[←hcx];rfl) (by rw[←hcy,n5];rfl) x.deref (by rw[←hcx];rfl) (by rw[←hcy,n6];rfl) x.size (by rw[←hcx];rfl) (by rw[←hcy,n7];rfl) x.time (by rw[←hcx];rfl) (by rw[←hcy,n8];rfl) x.tonly (by rw[←hcx];rfl) (by rw[←hcy,n9];rfl) (txt x.nrdn) (by rw[←hcx];rfl) (by rw[←hcy,n10];rfl) x.delold (by rw[←hcx];rfl) (by rw[←hcy,n11];rfl) x.hassup (by rw[←hcx];rfl) (by rw[←hcy,n12];rfl) (txt x.sup) (by rw[←hcx];rfl) (by rw[←hcy,n13];rfl) (txt x.attr) (by rw[←hcx];rfl) (by rw[←hcy,n14];rfl) (txt x.value) (by rw[←hcx];rfl) (by rw[←hcy,n15];rfl) x.target (by rw[←hcx];rfl) (by rw[←hcy,n16];rfl) x.code (by rw[←hcx];rfl) (by rw[←hcy,n17];rfl) (txt x.matched) (by rw[←hcx];rfl) (by rw[←hcy,n18];rfl) (txt x.text) (txt y.text) (by rw[←hcx];rfl) (by rw[←hcy];rfl) (fun q=>n19 (txt_inj q)) (beq_false_of_ne (fun q=>n19 (txt_lists q)))
 obtain⟨b4,h4⟩:=boolOf (x.filt=y.filt)
 obtain⟨b5,h5⟩:=boolOf (x.attrs=y.attrs)
 obtain⟨b6,h6⟩:=boolOf (x.lst=y.lst)
 obtain⟨b7,h7⟩:=boolOf (x.chs=y.chs)
 obtain⟨b8,h8⟩:=boolOf (x.refs=y.refs)
 obtain⟨b9,h9⟩:=boolOf (x.ctls=y.ctls)
 have eqt:∀(W:World) (L M:List (List UInt8)) (a u:Value) (b:Bool),repL elT W (inB W) L a→repL elT W (inB W) M u→(b=true↔L=M)→Calls Tryz.prog 42 #[a,u] W fun e w'=>e=.returned (.bool b)∧Below W.heap.size W w':=fun W L M a u b ha hu hbb=>by
  obtain⟨A,c,xs,rfl,hl,hA,hr⟩:=ha
  obtain⟨B,d,ys,rfl,hm,hB,hr'⟩:=hu
  have e1:=rowT_strs hr
  have e2:=rowT_strs hr'
  subst e1 e2
  exact rsametexts_any W A B L.length M.length c d L M (HasP.has hA fun k hk=>hk) (HasP.has hB fun k hk=>hk) (by unfold maxLen;omega) b hbb
 have hRR:R=(b4&&(b5&&(b6&&(b7&&(b8&&b9))))):=by
  have e:(b4&&(b5&&(b6&&(b7&&(b8&&b9)))))=true↔x=y:=by
   simp only[Bool.and_eq_true]
   constructor
   ·rintro ⟨s4,s5,s6,s7,s8,s9⟩
    have s4:=h4.1 s4
    have s5:=h5.1 s5
    have s6:=h6.1 s6
    have s7:=h7.1 s7
    have s8:=h8.1 s8
    have s9:=h9.1 s9
    cases x
    cases y
    simp only at n0 n1 n2 n3 n4 n5 n6 n7 n8 n9 n10 n11 n12 n13 n14 n15 n16 n17 n18 n19 s4 s5 s6 s7 s8 s9
    simp only[MT.mk.injEq]
    exact⟨n0,n1,n2,n3,n4,n5,n6,n7,n8,n9,s4,s5,s6,s7,n10,n11,n12,n13,n14,n15,n16,n17,n18,n19,s8,s9⟩
   ·rintro rfl
    exact⟨h4.2 rfl,h5.2 rfl,h6.2 rfl,h7.2 rfl,h8.2 rfl,h9.2 rfl⟩
  cases hb':(b4&&(b5&&(b6&&(b7&&(b8&&b9))))) with
  | true=>exact hR.2 (e.1 hb')
  | false=>exact no (fun q=>by rw[e.2 q] at hb';cases hb')
 rw[hRR]
 refine rsame_tail w cx cy HX HY HBw w2 p1 p2 Hw Hp HX2 HY2 HBw2 x.id (by rw[←hcx];rfl) (by rw[←hcy,n0];rfl) x.kind (by rw[←hcx];rfl) (by rw[←hcy,n1];rfl) (txt x.name) (by rw[←hcx];rfl) (by rw[←hcy,n2];rfl) (txt x.pw) (by rw[←hcx];rfl) (by rw[←hcy,n3];rfl) x.ver (by rw[←hcx];rfl) (by rw[←hcy,n4];rfl) x.scope (by rw[←hcx];rfl) (by rw[←hcy,n5];rfl) x.deref (by rw[←hcx];rfl) (by rw[←hcy,n6];rfl) x.size (by rw[←hcx];rfl) (by rw[←hcy,n7];rfl) x.time (by rw[←hcx];rfl) (by rw[←hcy,n8];rfl) x.tonly (by rw[←hcx];rfl) (by rw[←hcy,n9];rfl) (txt x.nrdn) (by rw[←hcx];rfl) (by rw[←hcy,n10];rfl) x.delold (by rw[←hcx];rfl) (by rw[←hcy,n11];rfl) x.hassup (by rw[←hcx];rfl) (by rw[←hcy,n12];rfl) (txt x.sup) (by rw[←hcx];rfl) (by rw[←hcy,n13];rfl) (txt x.attr) (by rw[←hcx];rfl) (by rw[←hcy,n14];rfl) (txt x.value) (by rw[←hcx];rfl) (by rw[←hcy,n15];rfl) x.target (by rw[←hcx];rfl) (by rw[←hcy,n16];rfl) x.code (by rw[←hcx];rfl) (by rw[←hcy,n17];rfl) (txt x.matched) (by rw[←hcx];rfl) (by rw[←hcy,n18];rfl) (txt x.text) (by rw[←hcx];rfl) (by rw[←hcy,n19];rfl) f0 f1 f2 f3 f4 f5 f6 g0 g1 g2 g3 g4 g5 g6 b4 b5 b6 b7 b8 b9 (hide (fun j u hu=>by
   rw[←hcx]
   match j,hu with
   | 0,hu=>exact hu
   | 1,hu=>exact hu
   | 2,hu=>exact hu
   | 3,hu=>exact hu
   | 4,hu=>exact hu
   | 5,hu=>exact hu
   | 6,hu=>exact hu
   )) (hide (fun j u hu=>by
   rw[←hcy]
   match j,hu with
   | 0,hu=>exact hu
   | 1,hu=>exact hu
   | 2,hu=>exact hu
   | 3,hu=>exact hu
   | 4,hu=>exact hu
   | 5,hu=>exact hu
   | 6,hu=>exact hu
   ))
  va ua (hide (by rw[←hcx];rfl)) (hide (by rw[←hcy];rfl)) vl ul (hide (by rw[←hcx];rfl)) (hide (by rw[←hcy];rfl)) vc uc (hide (by rw[←hcx];rfl)) (hide (by rw[←hcy];rfl)) vr ur (hide (by rw[←hcx];rfl)) (hide (by rw[←hcy];rfl)) vk uk (hide (by rw[←hcx];rfl)) (hide (by rw[←hcy];rfl))
  (hide fun W hW=>rfsame_any x.filt y.filt W _ _ _ _ _ _ _ _ _ _ _ _ _ _ (FInP.fin (B:=W.heap.size) (fun k hk=>hk) (rX W hW).filt) (FInP.fin (B:=W.heap.size) (fun k hk=>hk) (rY W hW).filt) b4 h4)
  (hide fun W hW=>eqt W _ _ _ _ b5 (rX W hW).attrs (rY W hW).attrs h5) (hide fun W hW=>?_) (hide fun W hW=>?_) (hide fun W hW=>eqt W _ _ _ _ b8 (rX W hW).refs (rY W hW).refs h8) (hide fun W hW=>?_)
 ·have ha:=(rX W hW).lst
  have hu:=(rY W hW).lst
  obtain⟨A,n,c,rfl⟩:=repL_slice ha
  obtain⟨A',n',c',rfl⟩:=repL_slice hu
  exact rsameA_any W _ _ _ _ _ _ _ _ ha hu b6 h6
 ·have ha:=(rX W hW).chs
  have hu:=(rY W hW).chs
  obtain⟨A,n,c,rfl⟩:=repL_slice ha
  obtain⟨A',n',c',rfl⟩:=repL_slice hu
  exact rsameH_any W _ _ _ _ _ _ _ _ ha hu b7 h7
 ·have ha:=(rX W hW).ctls
  have hu:=(rY W hW).ctls
  obtain⟨A,n,c,rfl⟩:=repL_slice ha
  obtain⟨A',n',c',rfl⟩:=repL_slice hu
  exact rsameC_any W _ _ _ _ _ _ _ _ ha hu b9 h9
end Go.Proofs.YtcpjmgfloimfhaaGreat
