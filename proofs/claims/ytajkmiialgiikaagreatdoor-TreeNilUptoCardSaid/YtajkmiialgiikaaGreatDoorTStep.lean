/- The law's step, on a nil tree and a tree of the reference's that has nothing. By an AI agent. -/
import Derived.Test.YtajkmiialgiikaaGreatDoorTNil
import Derived.Test.YtajkmiialgiikaaGreatDoorTRef
import Derived.Test.YtajkmiialgiikaaGreatDoorGrow
set_option linter.unusedSimpArgs false
set_option linter.unusedVariables false
set_option maxRecDepth 100000
set_option maxHeartbeats 64000000
namespace Go.Proofs.YtajkmiialgiikaaGreatDoor
open Go Go.RowKit
structure StepPost (a:Int) (B:Nat) (w:World) (e:Ending) (w':World):Prop where
 out:∃c:Int,e=.returned (.tuple #[.int .i64 a,.int .i64 c])/\Below B w w'
theorem step_nil (k:Int) (S1 S2 S3:ByteArray) (b1 b2:Bool) (w w1:World) (B q:Nat) (A:Option Addr) (n c:Nat) (C:Option Addr) (m cc:Nat) (hw1:w.alloc (.cells #[.int .i64 k,.string S1,.string S2,.string S3,.bool b1,.bool b2,.slice A n c,.slice C m cc] 48)=w1) (hQ:Blk w q [.slice none 0 0]) (hq:B<=q) (hw:B<=w.heap.size)
  (HAdd:Hid (∀w3,Blk w3 q [.slice none 0 0]->Below w1.heap.size w1 w3->Calls Tryz.prog 47 #[.pointer (some ⟨q,0,none⟩),.string S1,.slice A n c] w3 (IntBut q w3))) (HDel:Hid (∀w3,Blk w3 q [.slice none 0 0]->Below w1.heap.size w1 w3->Calls Tryz.prog 49 #[.pointer (some ⟨q,0,none⟩),.string S1] w3 (IntSome w3.heap.size w3))) (HMod:Hid (∀w3,Blk w3 q [.slice none 0 0]->Below w1.heap.size w1 w3->Calls Tryz.prog 51 #[.pointer (some ⟨q,0,none⟩),.string S1,.slice C m cc] w3 (IntSome w3.heap.size w3))) (HRen:Hid (∀w3,Blk w3 q [.slice none 0 0]->Below w1.heap.size w1 w3->Calls Tryz.prog 53 #[.pointer (some ⟨q,0,none⟩),.string S1,.string S2,.bool b1,.string S3,.bool b2] w3 (IntSome w3.heap.size w3))):
  Calls Tryz.prog 20 #[.pointer none,.pointer (some ⟨q,0,none⟩),.agg #[.int .i64 k,.string S1,.string S2,.string S3,.bool b1,.bool b2,.slice A n c,.slice C m cc]] w (StepPost (if 1<=k/\k<=4 then 1 else 0) B w):=by
 obtain⟨a,ha⟩:∃a,(if 1<=k/\k<=4 then (1:Int) else 0)=a:=⟨_,rfl⟩;rw[ha]
 suffices H:Calls Tryz.prog 20 #[.pointer none,.pointer (some ⟨q,0,none⟩),.agg #[.int .i64 k,.string S1,.string S2,.string S3,.bool b1,.bool b2,.slice A n c,.slice C m cc]] w fun e w'=>Hid (StepPost a B w e w') from H.mono fun e w' h=>h.out
 have hb1:Below w.heap.size w w1:=by rw[<-hw1];exact below1 w _
 have hX:Blk w1 w.heap.size [.int .i64 k,.string S1,.string S2,.string S3,.bool b1,.bool b2,.slice A n c,.slice C m cc]:=by rw[<-hw1];exact Blk.new w [.int .i64 k,.string S1,.string S2,.string S3,.bool b1,.bool b2,.slice A n c,.slice C m cc] 48
 have HX:=hide hX;have HQ:=hide (hQ.grow hb1);have HB:=hide (hb1.mono hw);have Hbw:Hid (B<=w1.heap.size):=hide (Nat.le_trans hw hb1.size);have Hq:=hide hq;have Hne:Hid ((some q:Option Nat)≠some w.heap.size):=hide (fun e=>by have:=Option.some.inj e;have:=hQ.lt;omega);have Hw1:=hide hw1;have x0:=hX.cells 0 _ rfl;clear hb1 hX hQ hq hw hw1;go_enter Tryz.func20,Tryz.ntmps20;go_upto_region 1 with fail;rw[Hw1.out];clear Hw1;obtain⟨h,hh⟩:∃h,w.heap.size=h:=⟨_,rfl⟩;rw[hh] at HX x0 Hne;(try rw[hh]);clear hh;by_cases h1:k=1
 ·subst h1;obtain rfl:(1:Int)=a:=by rw[<-ha];rfl
  clear ha HDel HMod HRen;go_upto_region 3 with fail;refine zAs (some q) (by kernel_rfl) ?_;have hdr:Below w1.heap.size w1 w1.drew:=(Below.refl _ _).drew;have HW:=hide hdr;have HXd:=hide (HX.out.grow hdr);have HQd:=hide (HQ.out.grow hdr);clear hdr HX HQ;generalize w1.drew=wd at *;refine yTk 0 (some 12) ?_;(try simp only[pUz]);refine yTk 1 (some 13) ?_;(try simp only[pUz]);refine zAa 2 (some 14) (v:=?vd2) rfl rfl (by kernel_rfl) rfl (by rfl) (fun W hW=>?yd2) ?_
  case yd2=>have k0:=(HXd.out.grown hW Hne.out).cells 1 _ rfl;go_simp<;>with_reducible rfl
  (try simp only[pUz]);refine yTk 3 (some 15) ?_;(try simp only[pUz]);refine zAa 4 (some 16) (v:=?vd4) rfl rfl (by kernel_rfl) rfl (by rfl) (fun W hW=>?yd4) ?_
  case yd4=>have k0:=(HXd.out.grown hW Hne.out).cells 6 _ rfl;go_simp<;>with_reducible rfl
  (try simp only[pUz]);refine yTk 6 (some 18) ?_;(try simp only[pUz]);refine yTk 7 (some 19) ?_;(try simp only[pUz]);refine zAa 8 (some 20) (v:=?vd8) rfl rfl (by kernel_rfl) rfl (by rfl) (fun W hW=>?yd8) ?_
  case yd8=>have k0:=(HXd.out.grown hW Hne.out).cells 1 _ rfl;go_simp<;>with_reducible rfl
  (try simp only[pUz]);refine yTk 9 (some 21) ?_;(try simp only[pUz]);refine zAa 10 (some 22) (v:=?vd10) rfl rfl (by kernel_rfl) rfl (by rfl) (fun W hW=>?yd10) ?_
  case yd10=>have k0:=(HXd.out.grown hW Hne.out).cells 6 _ rfl;go_simp<;>with_reducible rfl
  (try simp only[pUz]);refine zAd 5 rfl (by kernel_rfl) (fun K hK=>?_);go_simp;refine (tadd_nil wd _ _ _ _).mono ?_;rintro e w4 ⟨rfl,hw4⟩;obtain rfl:=hw4.symm;refine hK.out _ _ (World.grownBy.refl wd _) ?_;clear hw4 hK K;(try simp only[pUz]);refine zAd 11 rfl (by kernel_rfl) (fun K hK=>?_);go_simp;refine (HAdd.out wd HQd.out HW.out).mono ?_;rintro e w5 hpost;obtain⟨c5,rfl,hb5⟩:=hpost.out;refine hK.out _ _ hb5 ?_;have HE:=hide (HB.out.trans ((HW.out.mono Hbw.out).trans (zBh hb5 (fun k hk=>by rw[<-Option.some.inj hk];exact Hq.out) (Nat.le_trans Hbw.out HW.out.size))));clear hK K hpost hb5 HW HXd HQd HB Hne;(try simp only[pUz]);refine yTk 12 (some 6) ?_;(try simp only[pUz]);refine yTk 13 (some 7) ?_;(try simp only[pUz]);refine zAj (by kernel_rfl) ?_ _;clear Hq Hbw;go_wp2;go_ret2;exact hide ⟨⟨_,rfl,HE.out⟩⟩
 ·by_cases h2:k=2
  ·subst h2;obtain rfl:(1:Int)=a:=by rw[<-ha];rfl
   clear ha HAdd HMod HRen;go_upto_region 5 with fail;refine zAs (some q) (by kernel_rfl) ?_;have hdr:Below w1.heap.size w1 w1.drew:=(Below.refl _ _).drew;have HW:=hide hdr;have HXd:=hide (HX.out.grow hdr);have HQd:=hide (HQ.out.grow hdr);clear hdr HX HQ;generalize w1.drew=wd at *;refine yTk 0 (some 26) ?_;(try simp only[pUz]);refine yTk 1 (some 27) ?_;(try simp only[pUz]);refine zAa 2 (some 28) (v:=?vf2) rfl rfl (by kernel_rfl) rfl (by rfl) (fun W hW=>?yf2) ?_
   case yf2=>have k0:=(HXd.out.grown hW Hne.out).cells 1 _ rfl;go_simp<;>with_reducible rfl
   (try simp only[pUz]);refine yTk 4 (some 30) ?_;(try simp only[pUz]);refine yTk 5 (some 31) ?_;(try simp only[pUz]);refine zAa 6 (some 32) (v:=?vf6) rfl rfl (by kernel_rfl) rfl (by rfl) (fun W hW=>?yf6) ?_
   case yf6=>have k0:=(HXd.out.grown hW Hne.out).cells 1 _ rfl;go_simp<;>with_reducible rfl
   (try simp only[pUz]);refine zAd 3 rfl (by kernel_rfl) (fun K hK=>?_);go_simp;refine (tdel_nil wd _).mono ?_;rintro e w4 ⟨rfl,hw4⟩;obtain rfl:=hw4.symm;refine hK.out _ _ (World.grownBy.refl wd _) ?_;clear hw4 hK K;(try simp only[pUz]);refine zAd 7 rfl (by kernel_rfl) (fun K hK=>?_);go_simp;refine (HDel.out wd HQd.out HW.out).mono ?_;rintro e w5 hpost;obtain⟨c5,rfl,hb5⟩:=hpost.out;replace hb5:wd.grownBy w5 (some q):=zBb (some q) hb5;refine hK.out _ _ hb5 ?_;have HE:=hide (HB.out.trans ((HW.out.mono Hbw.out).trans (zBh hb5 (fun k hk=>by rw[<-Option.some.inj hk];exact Hq.out) (Nat.le_trans Hbw.out HW.out.size))));clear hK K hpost hb5 HW HXd HQd HB Hne;(try simp only[pUz]);refine yTk 8 (some 6) ?_;(try simp only[pUz]);refine yTk 9 (some 7) ?_;(try simp only[pUz]);refine zAj (by kernel_rfl) ?_ _;clear Hq Hbw;go_wp2;go_ret2;exact hide ⟨⟨_,rfl,HE.out⟩⟩
  ·by_cases h3:k=3
   ·subst h3;obtain rfl:(1:Int)=a:=by rw[<-ha];rfl
    clear ha HAdd HDel HRen;go_upto_region 7 with fail;refine zAs (some q) (by kernel_rfl) ?_;have hdr:Below w1.heap.size w1 w1.drew:=(Below.refl _ _).drew;have HW:=hide hdr;have HXd:=hide (HX.out.grow hdr);have HQd:=hide (HQ.out.grow hdr);clear hdr HX HQ;generalize w1.drew=wd at *;refine yTk 0 (some 36) ?_;(try simp only[pUz]);refine yTk 1 (some 37) ?_;(try simp only[pUz]);refine zAa 2 (some 38) (v:=?vh2) rfl rfl (by kernel_rfl) rfl (by rfl) (fun W hW=>?yh2) ?_
    case yh2=>have k0:=(HXd.out.grown hW Hne.out).cells 1 _ rfl;go_simp<;>with_reducible rfl
    (try simp only[pUz]);refine yTk 3 (some 39) ?_;(try simp only[pUz]);refine zAa 4 (some 40) (v:=?vh4) rfl rfl (by kernel_rfl) rfl (by rfl) (fun W hW=>?yh4) ?_
    case yh4=>have k0:=(HXd.out.grown hW Hne.out).cells 7 _ rfl;go_simp<;>with_reducible rfl
    (try simp only[pUz]);refine yTk 6 (some 42) ?_;(try simp only[pUz]);refine yTk 7 (some 43) ?_;(try simp only[pUz]);refine zAa 8 (some 44) (v:=?vh8) rfl rfl (by kernel_rfl) rfl (by rfl) (fun W hW=>?yh8) ?_
    case yh8=>have k0:=(HXd.out.grown hW Hne.out).cells 1 _ rfl;go_simp<;>with_reducible rfl
    (try simp only[pUz]);refine yTk 9 (some 45) ?_;(try simp only[pUz]);refine zAa 10 (some 46) (v:=?vh10) rfl rfl (by kernel_rfl) rfl (by rfl) (fun W hW=>?yh10) ?_
    case yh10=>have k0:=(HXd.out.grown hW Hne.out).cells 7 _ rfl;go_simp<;>with_reducible rfl
    (try simp only[pUz]);refine zAd 5 rfl (by kernel_rfl) (fun K hK=>?_);go_simp;refine (tmod_nil wd _ _ _ _).mono ?_;rintro e w4 ⟨rfl,hw4⟩;obtain rfl:=hw4.symm;refine hK.out _ _ (World.grownBy.refl wd _) ?_;clear hw4 hK K;(try simp only[pUz]);refine zAd 11 rfl (by kernel_rfl) (fun K hK=>?_);go_simp;refine (HMod.out wd HQd.out HW.out).mono ?_;rintro e w5 hpost;obtain⟨c5,rfl,hb5⟩:=hpost.out;replace hb5:wd.grownBy w5 (some q):=zBb (some q) hb5;refine hK.out _ _ hb5 ?_;have HE:=hide (HB.out.trans ((HW.out.mono Hbw.out).trans (zBh hb5 (fun k hk=>by rw[<-Option.some.inj hk];exact Hq.out) (Nat.le_trans Hbw.out HW.out.size))));clear hK K hpost hb5 HW HXd HQd HB Hne;(try simp only[pUz]);refine yTk 12 (some 6) ?_;(try simp only[pUz]);refine yTk 13 (some 7) ?_;(try simp only[pUz]);refine zAj (by kernel_rfl) ?_ _;clear Hq Hbw;go_wp2;go_ret2;exact hide ⟨⟨_,rfl,HE.out⟩⟩
   ·by_cases h4:k=4
    ·subst h4;obtain rfl:(1:Int)=a:=by rw[<-ha];rfl
     clear ha HAdd HDel HMod;go_upto_region 9 with fail;refine zAs (some q) (by kernel_rfl) ?_;have hdr:Below w1.heap.size w1 w1.drew:=(Below.refl _ _).drew;have HW:=hide hdr;have HXd:=hide (HX.out.grow hdr);have HQd:=hide (HQ.out.grow hdr);clear hdr HX HQ;generalize w1.drew=wd at *;refine yTk 0 (some 50) ?_;(try simp only[pUz]);refine yTk 1 (some 51) ?_;(try simp only[pUz]);refine zAa 2 (some 52) (v:=?vj2) rfl rfl (by kernel_rfl) rfl (by rfl) (fun W hW=>?yj2) ?_
     case yj2=>have k0:=(HXd.out.grown hW Hne.out).cells 1 _ rfl;go_simp<;>with_reducible rfl
     (try simp only[pUz]);refine yTk 3 (some 53) ?_;(try simp only[pUz]);refine zAa 4 (some 54) (v:=?vj4) rfl rfl (by kernel_rfl) rfl (by rfl) (fun W hW=>?yj4) ?_
     case yj4=>have k0:=(HXd.out.grown hW Hne.out).cells 2 _ rfl;go_simp<;>with_reducible rfl
     (try simp only[pUz]);refine yTk 5 (some 55) ?_;(try simp only[pUz]);refine zAa 6 (some 56) (v:=?vj6) rfl rfl (by kernel_rfl) rfl (by rfl) (fun W hW=>?yj6) ?_
     case yj6=>have k0:=(HXd.out.grown hW Hne.out).cells 4 _ rfl;go_simp<;>with_reducible rfl
     (try simp only[pUz]);refine yTk 7 (some 57) ?_;(try simp only[pUz]);refine zAa 8 (some 58) (v:=?vj8) rfl rfl (by kernel_rfl) rfl (by rfl) (fun W hW=>?yj8) ?_
     case yj8=>have k0:=(HXd.out.grown hW Hne.out).cells 3 _ rfl;go_simp<;>with_reducible rfl
     (try simp only[pUz]);refine yTk 9 (some 59) ?_;(try simp only[pUz]);refine zAa 10 (some 60) (v:=?vj10) rfl rfl (by kernel_rfl) rfl (by rfl) (fun W hW=>?yj10) ?_
     case yj10=>have k0:=(HXd.out.grown hW Hne.out).cells 5 _ rfl;go_simp<;>with_reducible rfl
     (try simp only[pUz]);refine yTk 12 (some 62) ?_;(try simp only[pUz]);refine yTk 13 (some 63) ?_;(try simp only[pUz]);refine zAa 14 (some 64) (v:=?vj14) rfl rfl (by kernel_rfl) rfl (by rfl) (fun W hW=>?yj14) ?_
     case yj14=>have k0:=(HXd.out.grown hW Hne.out).cells 1 _ rfl;go_simp<;>with_reducible rfl
     (try simp only[pUz]);refine yTk 15 (some 65) ?_;(try simp only[pUz]);refine zAa 16 (some 66) (v:=?vj16) rfl rfl (by kernel_rfl) rfl (by rfl) (fun W hW=>?yj16) ?_
     case yj16=>have k0:=(HXd.out.grown hW Hne.out).cells 2 _ rfl;go_simp<;>with_reducible rfl
     (try simp only[pUz]);refine yTk 17 (some 67) ?_;(try simp only[pUz]);refine zAa 18 (some 68) (v:=?vj18) rfl rfl (by kernel_rfl) rfl (by rfl) (fun W hW=>?yj18) ?_
     case yj18=>have k0:=(HXd.out.grown hW Hne.out).cells 4 _ rfl;go_simp<;>with_reducible rfl
     (try simp only[pUz]);refine yTk 19 (some 69) ?_;(try simp only[pUz]);refine zAa 20 (some 70) (v:=?vj20) rfl rfl (by kernel_rfl) rfl (by rfl) (fun W hW=>?yj20) ?_
     case yj20=>have k0:=(HXd.out.grown hW Hne.out).cells 3 _ rfl;go_simp<;>with_reducible rfl
     (try simp only[pUz]);refine yTk 21 (some 71) ?_;(try simp only[pUz]);refine zAa 22 (some 72) (v:=?vj22) rfl rfl (by kernel_rfl) rfl (by rfl) (fun W hW=>?yj22) ?_
     case yj22=>have k0:=(HXd.out.grown hW Hne.out).cells 5 _ rfl;go_simp<;>with_reducible rfl
     (try simp only[pUz]);refine zAd 11 rfl (by kernel_rfl) (fun K hK=>?_);go_simp;refine (tren_nil wd _ _ _ _ _).mono ?_;rintro e w4 ⟨rfl,hw4⟩;obtain rfl:=hw4.symm;refine hK.out _ _ (World.grownBy.refl wd _) ?_;clear hw4 hK K;(try simp only[pUz]);refine zAd 23 rfl (by kernel_rfl) (fun K hK=>?_);go_simp;refine (HRen.out wd HQd.out HW.out).mono ?_;rintro e w5 hpost;obtain⟨c5,rfl,hb5⟩:=hpost.out;replace hb5:wd.grownBy w5 (some q):=zBb (some q) hb5;refine hK.out _ _ hb5 ?_;have HE:=hide (HB.out.trans ((HW.out.mono Hbw.out).trans (zBh hb5 (fun k hk=>by rw[<-Option.some.inj hk];exact Hq.out) (Nat.le_trans Hbw.out HW.out.size))));clear hK K hpost hb5 HW HXd HQd HB Hne;(try simp only[pUz]);refine yTk 24 (some 6) ?_;(try simp only[pUz]);refine yTk 25 (some 7) ?_;(try simp only[pUz]);refine zAj (by kernel_rfl) ?_ _;clear Hq Hbw;go_wp2;go_ret2;exact hide ⟨⟨_,rfl,HE.out⟩⟩
    ·obtain rfl:(0:Int)=a:=by rw[<-ha,if_neg (by omega)]
     have q1:(k==1)=false:=beq_false_of_ne h1;have q2:(k==2)=false:=beq_false_of_ne h2;have q3:(k==3)=false:=beq_false_of_ne h3;have q4:(k==4)=false:=beq_false_of_ne h4;clear ha HAdd HDel HMod HRen HX HQ Hq Hbw Hne;go_wp2;go_ret2;exact hide ⟨⟨_,rfl,HB.out⟩⟩
end Go.Proofs.YtajkmiialgiikaaGreatDoor
