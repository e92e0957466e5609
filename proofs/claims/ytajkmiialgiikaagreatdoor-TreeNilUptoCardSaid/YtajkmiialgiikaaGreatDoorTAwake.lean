/- What layer 10's statements ask of first: dc=x is added to a tree. By an AI agent. -/
import Derived.Test.YtajkmiialgiikaaGreatDoorTNode
import Derived.Test.YtajkmiialgiikaaGreatDoorTAwMath
import Derived.Test.YtajkmiialgiikaaGreatDoorDM
set_option linter.unusedSimpArgs false
set_option linter.unusedVariables false
set_option maxRecDepth 100000
set_option maxHeartbeats 32000000
namespace Go.Proofs.YtajkmiialgiikaaGreatDoor
open Go Go.RowKit
structure AddPost (B0 q:Nat) (w:World) (e:Ending) (w':World):Prop where
 out:∃A c,e=.returned (.int .i64 0)/\Blk w' q [.slice A 1 c]/\Below B0 w w'
theorem tadd_aw (w:World) (B0 q:Nat) (A:Option Addr) (xs:List Value) (hQ:Blk w q [.slice none 0 0]) (hq:B0<=q) (hw:B0<=w.heap.size) (hA:Has w w.heap.size 2 A 2 xs) (hL:EAs w w.heap.size xs awT) (hT:TM w):
  Calls Tryz.prog 24 #[.pointer (some ⟨q,0,none⟩),.string ⟨#[100,99,61,120]⟩,.slice A 2 2] w (AddPost B0 q w):=by
 have HM:Hid (Calls Tryz.prog 54 #[.string ⟨#[100,99,61,120]⟩,.slice A 2 2] w (MadePost dcxT awE 0 w)):=hide (by
  have:=zOl dcxT awT w A 2 2 xs hA hL hT (by decide) (by decide) (fun a ha=>by
   rcases List.mem_cons.1 ha with rfl | ha
   ·decide
   ·obtain rfl:=List.mem_singleton.1 ha;decide) (fun a ha v hv=>by
   rcases List.mem_cons.1 ha with rfl | ha
   ·obtain rfl:=List.mem_singleton.1 hv;decide
   ·obtain rfl:=List.mem_singleton.1 ha
    obtain rfl:=List.mem_singleton.1 hv
    decide) (by decide)
  rw[make_awT] at this
  exact this)
 have HN:Hid (∀(w:World) (A:Option Addr) (n c:Nat),Calls Tryz.prog 26 #[.agg #[.string ⟨#[100,99,61,120]⟩,.slice A n c]] w (NodePost ⟨#[100,99,61,120]⟩ A n c [dcxT] w)):=hide (fun w A n c=>by
  have:=zQr dcxT (by decide) (by decide) (by decide) (by decide) w A n c
  rw[show (cuts 44 dcxT).reverse=[dcxT] by decide] at this
  exact this)
 suffices H:Calls Tryz.prog 24 #[.pointer (some ⟨q,0,none⟩),.string ⟨#[100,99,61,120]⟩,.slice A 2 2] w fun e w'=>Hid (AddPost B0 q w e w') from H.mono fun e w' h=>h.out
 obtain⟨S,hS⟩:∃S:ByteArray,(⟨#[100,99,61,120]⟩:ByteArray)=S:=⟨_,rfl⟩;have HS:Hid (txt dcxT=S):=hide (by rw[<-hS];rfl);rw[hS] at HM HN;rw[hS];have HQ:=hide hQ;have Hq:=hide hq;have Hw:=hide hw;clear hS hQ hq hw hA hL hT;go_enter Tryz.func24,Tryz.ntmps24;go_wp2_with (go_at_call 54;fail);refine HM.out.mono ?_;rintro e w2 hpost;obtain⟨A5,c5,ys5,rfl,_,_,_,_,hb2⟩:=hpost.out;rw[HS.out];have hba:=below1 w2 (.cells #[.string S,.slice A5 awE.length c5] 38);have hXa:=BoxE.new w2 S A5 awE.length c5 38;obtain⟨k5,hk5⟩:∃k,awE.length=k:=⟨_,rfl⟩;rw[hk5] at hba hXa ⊢;have HE:=hide hXa;have HQ2:=hide ((HQ.out.grow hb2).grow hba);have HB2:=hide ((hb2.mono Hw.out).trans (hba.mono (Nat.le_trans Hw.out hb2.size)));have Hw2:=hide (Nat.le_trans Hw.out (Nat.le_trans hb2.size hba.size));clear hpost hb2 hba hXa hk5 HM HQ HS;obtain⟨w3,hw3⟩:∃x,w2.alloc (.cells #[.string S,.slice A5 k5 c5] 38)=x:=⟨_,rfl⟩;rw[hw3] at HE HQ2 HB2 Hw2;have Hw3:=hide hw3;clear hw3;go_upto_region 4 with fail;rw[Hw3.out];obtain⟨h,hh⟩:∃h,w2.heap.size=h:=⟨_,rfl⟩;rw[hh] at HE;(try rw[hh]);clear hh Hw3;have x0:=HE.out.c0;have x1:=HE.out.c1;go_wp2_with (go_at_call 26;fail);refine (HN.out w3 A5 k5 c5).mono ?_;rintro e w4 hpost;obtain⟨P,cp,rfl,hcp,hmp,hhp,hb4⟩:=hpost.out;simp only[List.length_cons,List.length_nil,Nat.zero_add] at hcp hhp ⊢;have hhas:=hhp.has (B:=w4.heap.size) fun b hb=>hb.2
 obtain⟨g,o,rfl,hg,_⟩:=hhas.lies (by simp[strs]);have hba:=below1 w4 (.cells #[.string S,.slice A5 k5 c5,.slice (some ⟨g,o,none⟩) 1 cp] 64);have hY:Blk (w4.alloc (.cells #[.string S,.slice A5 k5 c5,.slice (some ⟨g,o,none⟩) 1 cp] 64)) w4.heap.size [.string S,.slice A5 k5 c5,.slice (some ⟨g,o,none⟩) 1 cp]:=Blk.new w4 [.string S,.slice A5 k5 c5,.slice (some ⟨g,o,none⟩) 1 cp] 64;have HY:=hide hY;have HQ4:=hide ((HQ2.out.grow hb4).grow hba);have HB4:=hide (HB2.out.trans ((hb4.mono Hw2.out).trans (hba.mono (Nat.le_trans Hw2.out hb4.size))));have Hw4:=hide (Nat.le_trans Hw2.out (Nat.le_trans hb4.size hba.size));have hcp1:(1:Nat)<=cp:=hcp;clear hpost hcp hhp hb4 hhas hg hba hY HN HE HQ2 HB2 Hw2 x0 x1;obtain⟨w5,hw5⟩:∃x,w4.alloc (.cells #[.string S,.slice A5 k5 c5,.slice (some ⟨g,o,none⟩) 1 cp] 64)=x:=⟨_,rfl⟩;rw[hw5] at HY HQ4 HB4 Hw4;have Hw5:=hide hw5;clear hw5;go_upto_region 7 with fail;rw[Hw5.out];obtain⟨h2,hh2⟩:∃h,w4.heap.size=h:=⟨_,rfl⟩;rw[hh2] at HY;(try rw[hh2]);clear hh2 Hw5;have y0:=HY.out.cells 0 _ rfl;have y1:=HY.out.cells 1 _ rfl;have y2:=HY.out.cells 2 _ rfl;have k0:=HQ4.out.cells 0 _ rfl;go_wp2_with (go_at_call 55;fail);refine (zO3 w5 q HQ4.out _ _ _).mono ?_;rintro e w6 ⟨rfl,hw6⟩;obtain rfl:=hw6.symm;clear hw6;go_wp2_with (go_at_call 56;fail);refine (zJ1 w5 _ _ _).mono ?_;rintro e w6 ⟨rfl,hw6⟩;obtain rfl:=hw6.symm;clear hw6;have hlit:(w5.alloc (.cells #[.string S,.slice A5 k5 c5,.slice (some ⟨g,o,none⟩) 1 cp] 64)).ownsRow w5.heap.size 64 3 (.slice (some ⟨w5.heap.size,0,none⟩) 1 1) 1 [.string S,.slice A5 k5 c5,.slice (some ⟨g,o,none⟩) 1 cp]:=
  World.ownsRow_lit w5 #[.string S,.slice A5 k5 c5,.slice (some ⟨g,o,none⟩) 1 cp] 1 (Nat.le_refl _) (by unfold maxLen;omega) rfl
 have hba:=below1 w5 (.cells #[.string S,.slice A5 k5 c5,.slice (some ⟨g,o,none⟩) 1 cp] 64);have HR:=hide (zJn (w5.alloc (.cells #[.string S,.slice A5 k5 c5,.slice (some ⟨g,o,none⟩) 1 cp] 64)) B0 q (some ⟨w5.heap.size,0,none⟩) 1 _ _ _ (HQ4.out.grow hba) Hq.out (Nat.le_trans Hw4.out hba.size) (Has.own hlit) (by simp[Value.oneCell']));have HB5:=hide (HB4.out.trans (hba.mono Hw4.out));clear hlit hba HQ4 HB4 Hw4 HY Hq Hw;go_wp2_with (go_at_call 57;fail);refine HR.out.mono ?_;rintro e w7 hpost;obtain⟨A8,c8,rfl,hq8,hb8⟩:=hpost.out;have HE:Hid (AddPost B0 q w (.returned (.int .i64 0)) w7):=hide ⟨⟨A8,c8,rfl,hq8,HB5.out.trans hb8⟩⟩;clear hpost hq8 hb8 HR HB5 y0 y1 y2 k0;go_wp2;go_ret;exact HE
end Go.Proofs.YtajkmiialgiikaaGreatDoor
