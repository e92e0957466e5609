/- A tree of nothing is looked into; its first node is laid. By an AI agent. -/
import Derived.Test.YtajkmiialgiikaaGreatDoorEY
import Derived.Test.YtajkmiialgiikaaGreatDoorEX
import Derived.Lib.AppendZeros
set_option linter.unusedSimpArgs false
set_option linter.unusedVariables false
set_option maxRecDepth 100000
set_option maxHeartbeats 32000000
namespace Go.Proofs.YtajkmiialgiikaaGreatDoor
open Go Go.RowKit
theorem infoND:(Tryz.prog.info? 64).map (fun i=>(i.zero,i.size,i.bytes))=some (some (.agg #[.string .empty,.slice none 0 0,.slice none 0 0]),3,64):=by kernel_rfl
theorem grow_nd (n:Nat) (h0:n≠0) (hn:n<=100000) (w:World):
  Calls Tryz.prog 153 #[.slice none 0 0,.int .i64 (n:Int)] w fun e w'=>∃v,e=.returned v/\w'.ownsRow w.heap.size 64 3 v 0 []/\Below w.heap.size w w':=by
 have z0:¬((n:Int)<0):=by omega
 have z1:((0:Int)<(n:Int)):=by omega
 obtain⟨i0,hi,hz0,hz1,hz2⟩:=info_parts infoND;have happ:=Lib.run_append_nil_zeros (P:=Tryz.prog) w 61 3 61 64 i0 (.agg #[.string .empty,.slice none 0 0,.slice none 0 0]) .i64 .i64 Tryz.underlying61 Tryz.underlying3 hi hz0 n (by omega) (by omega) (by omega) (by rw[hz2];omega);generalize hcap:grownCap w n 0 64=cap2 at happ;have hcapge:n<=cap2:=by rw[<-hcap];exact grownCap_ge w _ 0 64
 have hcaple:cap2<=maxLen:=by rw[<-hcap];exact grownCap_le_maxLen w _ 0 64 (by unfold maxLen;omega)
 generalize hZ:(Builtin.zeroCells (Value.agg #[.string .empty,.slice none 0 0,.slice none 0 0]).cells n++Builtin.zeroCells (Value.agg #[.string .empty,.slice none 0 0,.slice none 0 0]).cells (cap2-n))=Z at happ;have hZs:Z.size=cap2*3:=by rw[<-hZ];simp[size_zeroCells,Value.cells];omega
 have hown:(w.drew.alloc (.cells Z 64)).ownsRow w.heap.size 64 3 (.slice (some ⟨w.heap.size,0,none⟩) 0 cap2) 0 []:=
  ⟨rfl,.inr ⟨w.heap.size,cap2,Z,rfl,Nat.le_refl _,heap_alloc_new w.drew _,Nat.zero_le _,hcaple,by omega,by simp⟩⟩
 have hb:Below w.heap.size w (w.drew.alloc (.cells Z 64)):=((Below.refl _ _).drew).alloc (Nat.le_refl _) _;have Hown:=hide hown;have Hb:=hide hb;have hcm:(cap2:Int)<=9223372036854775807:=by unfold maxLen at hcaple;omega
 clear hcap hZ hZs hown hb hi hz0 hz1 hz2 hcaple;go_enter Tryz.func153,Tryz.ntmps153;go_wp2_with (at_builtin;refine Lib.wpList_append_run _ rfl _ _ _ _ rfl _ _ rfl rfl _ _ happ ?_);go_wp2;go_ret;exact⟨_,rfl,Hown.out,Hb.out⟩
structure OneSome (B:Nat) (w:World) (e:Ending) (w':World):Prop where
 out:∃A c,e=.returned (.slice A 1 c)/\Below B w w'
theorem zOb (w:World) (h:Nat) (B:Option Addr) (d:Nat) (u0 u1 u2:Value) (hO:Blk w h [.slice none 0 0,.slice B 1 d,.slice none 0 0]) (hB:Has w w.heap.size 3 B 1 [u0,u1,u2]) (h1:∀u∈[u0,u1,u2],u.oneCell'=true):
  Calls Tryz.prog 102 #[.slice (some ⟨h,0,none⟩) 3 3] w (OneSome w.heap.size w):=by
 suffices H:Calls Tryz.prog 102 #[.slice (some ⟨h,0,none⟩) 3 3] w fun e w'=>Hid (OneSome w.heap.size w e w') from H.mono fun e w' h=>h.out
 have c0:=hO.cells 0 _ rfl;have c1:=hO.cells 1 _ rfl;have c2:=hO.cells 2 _ rfl;have HO:=hide hO;have HB:=hide hB;have H1:=hide h1;have HG:=hide (grow_nd 1 (by omega) (by omega) w);clear hO hB h1;go_enter Tryz.func102,Tryz.ntmps102;go_wp2
 go_loopg [3,11] 3 (fun k s3 s11 wx=>((k=3/\s11=.int .i64 0/\s3=.int .i64 0)\/(k=2/\s11=.int .i64 1/\s3=.int .i64 0)\/(k=1/\s11=.int .i64 2/\s3=.int .i64 1)\/(k=0/\s11=.int .i64 3/\s3=.int .i64 1))/\wx=w)
 case atStart=>exact⟨.inl ⟨rfl,rfl,rfl⟩,rfl⟩
 case round=>
  obtain⟨hcs0,hw0⟩:=hrel;obtain rfl:=hw0.symm;clear hw0;rcases hcs0 with⟨rfl,rfl,rfl⟩ | ⟨rfl,rfl,rfl⟩ | ⟨rfl,rfl,rfl⟩ | ⟨rfl,rfl,rfl⟩
  ·clear HO HB H1 HG;go_wp2
   go_roundg 2
   case measure=>omega
   case rel=>exact⟨.inr (.inl ⟨rfl,by go_num,by go_num⟩),rfl⟩
  ·clear HO HB H1 HG;go_wp2
   go_roundg 1
   case measure=>omega
   case rel=>exact⟨.inr (.inr (.inl ⟨rfl,by go_num,by go_num⟩)),rfl⟩
  ·clear HO HB H1 HG;go_wp2
   go_roundg 0
   case measure=>omega
   case rel=>exact⟨.inr (.inr (.inr ⟨rfl,by go_num,by go_num⟩)),rfl⟩
  ·clear c0 c1 c2;go_wp2_with (go_at_call 153;fail);refine HG.out.mono ?_;rintro e w1 ⟨v1,rfl,hown,hb1⟩;have HB1:=hide hb1;clear HG hb1;go_wp2
   go_loopg [6,27] 3 (fun k s6 s27 wx=>Hid ((k=3/\s27=.int .i64 0/\wx.ownsRow w.heap.size 64 3 s6 0 [])\/(k=2/\s27=.int .i64 1/\wx.ownsRow w.heap.size 64 3 s6 0 [])\/(k=1/\s27=.int .i64 2/\wx.ownsRow w.heap.size 64 3 s6 1 [u0,u1,u2])\/(k=0/\s27=.int .i64 3/\wx.ownsRow w.heap.size 64 3 s6 1 [u0,u1,u2]))/\Hid (Below w.heap.size w wx))
   case atStart=>exact⟨hide (.inl ⟨rfl,rfl,hown⟩),HB1⟩
   case round=>
    obtain⟨hcs,hB1⟩:=hrel;clear hown HB1;have c0:=(HO.out.grow hB1.out).cells 0 _ rfl;have c1:=(HO.out.grow hB1.out).cells 1 _ rfl;have c2:=(HO.out.grow hB1.out).cells 2 _ rfl;have hs1:=hB1.out.size;rcases hcs.out with⟨rfl,rfl,hor⟩ | ⟨rfl,rfl,hor⟩ | ⟨rfl,rfl,hor⟩ | ⟨rfl,rfl,hor⟩
    ·clear hcs HO HB H1 c1 c2;go_wp2_with (at_builtin;go_must (refine appN _ 61 64 _ 3 64 Tryz.underlying61 infoND rfl (by omega) (by omega) rfl (.tmp 31) (.tmp 32) rfl w.heap.size _ 0 [] rfl hor wr.heap.size none 0 0 [] rfl Has.nil (by simp) (by omega) hs1 ?_));intro v' w6 hor6 hb6 _ _;have hB6:=hide (hB1.out.trans hb6);clear hor hb6 hs1 hB1 c0;go_wp2
     go_roundg 2
     case measure=>omega
     case rel=>exact⟨hide (.inr (.inl ⟨rfl,by go_num,hor6⟩)),hB6⟩
    ·have hA1:=HB.out.below hB1.out;have ho1:=H1.out;clear hcs HO HB H1 c0 c2;go_wp2_with (at_builtin;go_must (refine appN _ 61 64 _ 3 64 Tryz.underlying61 infoND rfl (by omega) (by omega) rfl (.tmp 31) (.tmp 32) rfl w.heap.size _ 0 [] rfl hor _ _ 1 _ [u0,u1,u2] rfl hA1 ho1 (by omega) hs1 ?_));intro v' w6 hor6 hb6 _ _;have hB6:=hide (hB1.out.trans hb6);clear hor hb6 hs1 hB1 c1 hA1 ho1;go_wp2
     go_roundg 1
     case measure=>omega
     case rel=>exact⟨hide (.inr (.inr (.inl ⟨rfl,by go_num,hor6⟩))),hB6⟩
    ·clear hcs HO HB H1 c0 c1;go_wp2_with (at_builtin;go_must (refine appN _ 61 64 _ 3 64 Tryz.underlying61 infoND rfl (by omega) (by omega) rfl (.tmp 31) (.tmp 32) rfl w.heap.size _ 1 [u0,u1,u2] rfl hor wr.heap.size none 0 0 [] rfl Has.nil (by simp) (by omega) hs1 ?_));intro v' w6 hor6 hb6 _ _;have hB6:=hide (hB1.out.trans hb6);clear hor hb6 hs1 hB1 c2;go_wp2
     go_roundg 0
     case measure=>omega
     case rel=>exact⟨hide (.inr (.inr (.inr ⟨rfl,by go_num,hor6⟩))),hB6⟩
    ·obtain ⟨A7,c7,rfl,_,_⟩:=zAh hor;clear hcs HO HB H1 c0 c1 c2 hs1 hor;go_wp2;go_ret;exact hide ⟨⟨_,_,rfl,hB1.out⟩⟩
theorem zJv (w:World) (A:Option Addr) (n c:Nat):
  Calls Tryz.prog 100 #[.slice none 0 0,.slice A n c,.func (.func 101) #[] #[]] w fun e w'=>e=.returned (.tuple #[.int .i64 0,.bool false])/\w'=w:=by
 go_enter Tryz.func100,Tryz.ntmps100;go_wp2
 go_loopg [9,10] 0 (fun k s9 s10 wx=>s9=.int .i64 0/\s10=.int .i64 0/\wx=w)
 case atStart=>exact⟨rfl,rfl,rfl⟩
 case round=>obtain⟨rfl,rfl,hw⟩:=hrel;obtain rfl:=hw.symm;clear hw;go_wp2;go_ret2;exact⟨rfl,rfl⟩
theorem zO3 (w:World) (q:Nat) (hQ:Blk w q [.slice none 0 0]) (A:Option Addr) (n c:Nat):
  Calls Tryz.prog 55 #[.pointer (some ⟨q,0,none⟩),.slice A n c] w fun e w'=>e=.returned (.tuple #[.int .i64 0,.bool false])/\w'=w:=by
 have k0:=hQ.cells 0 _ rfl;clear hQ;go_enter Tryz.func55,Tryz.ntmps55;go_wp2_with (go_at_call 100;fail);refine (zJv w A n c).mono ?_;rintro e w1 ⟨rfl,hw⟩;obtain rfl:=hw.symm;clear hw;go_wp2;go_ret2;exact⟨rfl,rfl⟩
theorem zJ1 (w:World) (p:Addr) (A:Option Addr) (c:Nat):
  Calls Tryz.prog 56 #[.pointer (some p),.slice A 0 c] w fun e w'=>e=.returned (.int .i64 0)/\w'=w:=by
 go_enter Tryz.func56,Tryz.ntmps56;go_wp2;go_ret;exact⟨rfl,rfl⟩
theorem tlen_one (w:World) (q:Nat) (A:Option Addr) (n c:Nat) (hQ:Blk w q [.slice A n c]):
  Calls Tryz.prog 21 #[.pointer (some ⟨q,0,none⟩)] w fun e w'=>e=.returned (.int .i64 (n:Int))/\w'=w:=by
 have k0:=hQ.cells 0 _ rfl;clear hQ;go_enter Tryz.func21,Tryz.ntmps21;go_wp2;go_ret;exact⟨rfl,rfl⟩
end Go.Proofs.YtajkmiialgiikaaGreatDoor
