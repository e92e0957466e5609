/- What is laid of an unbind and of a delete; and Encode of these. By an AI agent. -/
import Derived.Test.YtcpjmgfloimfhaaGreatM19
import Derived.Test.YtcpjmgfloimfhaaGreatM18
set_option linter.unusedSimpArgs false
set_option linter.unusedVariables false
set_option maxRecDepth 100000
set_option maxHeartbeats 32000000
namespace Go.Proofs.YtcpjmgfloimfhaaGreat
open Go.RowKit
open Wr
theorem content_two (w:World) (m:MT) (v:Value) (hm:repM w (inB w) m v) (hk:m.kind=2):Calls Tryz.prog 64 #[v] w (CPost [] w):=by
 obtain⟨f0,f1,f2,f3,f4,f5,f6,va,vl,vc,vr,vk,rfl,hX⟩:=hm
 obtain⟨cs,hcs⟩:∃cs,mcells m f0 f1 f2 f3 f4 f5 f6 va vl vc vr vk=cs:=⟨_,rfl⟩
 rw[hcs]
 have hB1:Blk (w.alloc (.cells cs.toArray 42)) w.heap.size cs:=Blk.new w cs 42
 have hb1:Below w.heap.size w (w.alloc (.cells cs.toArray 42)):=(Below.refl _ _).alloc (Nat.le_refl _) _
 obtain⟨w1,hw1⟩:∃w1,w.alloc (.cells cs.toArray 42)=w1:=⟨_,rfl⟩
 rw[hw1] at hB1 hb1
 have k1:w1.cell? ⟨w.heap.size,1,none⟩=some (.int .i64 2):=hB1.cells 1 _ (by rw[<-hcs,<-hk];rfl)
 have Hw:=hide hw1
 have HB:=hide hb1
 clear hX hB1 hb1 hw1 hcs hk
 go_enter Tryz.func64,Tryz.ntmps64
 go_upto_region 1 with fail
 rw[Hw.out]
 go_wp2
 go_ret
 exact⟨⟨none,0,rfl,⟨rfl,.inl rfl⟩,HB.out⟩⟩
theorem content_ten (w:World) (m:MT) (v:Value) (hm:repM w (inB w) m v) (hk:m.kind=10):Calls Tryz.prog 64 #[v] w (CPost m.name w):=by
 obtain⟨f0,f1,f2,f3,f4,f5,f6,va,vl,vc,vr,vk,rfl,hX⟩:=hm
 obtain⟨cs,hcs⟩:∃cs,mcells m f0 f1 f2 f3 f4 f5 f6 va vl vc vr vk=cs:=⟨_,rfl⟩
 rw[hcs]
 have hB1:Blk (w.alloc (.cells cs.toArray 42)) w.heap.size cs:=Blk.new w cs 42
 have hb1:Below w.heap.size w (w.alloc (.cells cs.toArray 42)):=(Below.refl _ _).alloc (Nat.le_refl _) _
 obtain⟨w1,hw1⟩:∃w1,w.alloc (.cells cs.toArray 42)=w1:=⟨_,rfl⟩
 rw[hw1] at hB1 hb1
 have k1:w1.cell? ⟨w.heap.size,1,none⟩=some (.int .i64 10):=hB1.cells 1 _ (by rw[<-hcs,<-hk];rfl)
 have k2:w1.cell? ⟨w.heap.size,2,none⟩=some (.string (txt m.name)):=hB1.cells 2 _ (by rw[<-hcs];rfl)
 obtain⟨cap,w2,hrun,hR,hb2⟩:=run_bytes8 (P:=Tryz.prog) w1 (txt m.name) 9 33 5 Tryz.underlying9 Tryz.underlying33 Tryz.underlying5
 rw[zBt] at hrun
 have hR:Row8 w2 w1.heap.size m.name:=hR
 have hH:Has w2 w2.heap.size 1 (some ⟨w1.heap.size,0,none⟩) m.name.length (bys m.name):=hR.has.upto hR.lt
 have Hw:=hide hw1
 have HB:=hide (hb1.trans (hb2.mono hb1.size))
 have HH:=hide hH
 generalize w1.heap.size=g1 at *
 generalize txt m.name=tn at *
 generalize m.name=nm at *
 generalize hnl:nm.length=nl at *
 have Hnl:=hide hnl
 clear hX hB1 hb1 hw1 hcs hk hR hH hb2 hnl
 go_enter Tryz.func64,Tryz.ntmps64
 go_upto_region 1 with fail
 rw[Hw.out]
 go_wp2
 go_ret
 exact⟨⟨_,_,by rw[Hnl.out];rfl,by rw[Hnl.out];exact HH.out,HB.out⟩⟩
end Go.Proofs.YtcpjmgfloimfhaaGreat
