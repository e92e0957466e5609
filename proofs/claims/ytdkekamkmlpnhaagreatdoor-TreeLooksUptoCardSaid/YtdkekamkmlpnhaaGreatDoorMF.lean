/- Several texts in one: PHex, PUint, PReadA, PReadV, PEq, PPair, PRPair, PFormA, PRForm, PPrint, PRPrint. By an AI agent. -/
import Derived.Lib.CutLaws
import Derived.Laws.ResultCell
import Derived.Sort.Walk0
import Derived.Lib.AppendStr
import Derived.Test.YtdkekamkmlpnhaaGreatDoorME
import Derived.Test.YtdkekamkmlpnhaaGreatDoorMC
import Derived.Test.YtdkekamkmlpnhaaGreatDoorMD
import Derived.Test.YtdkekamkmlpnhaaGreatDoorMB
set_option linter.unusedSimpArgs false
set_option linter.unusedVariables false
set_option maxHeartbeats 32000000
set_option maxRecDepth 100000
namespace Go.Proofs.YtdkekamkmlpnhaaGreatDoor
open Go.RowKit
inductive HexIs (c:UInt8) (L:Int):Prop where
 | fig (h0:48<=c.toNat) (h1:c.toNat<=57) (e:hexV c=some (c.toNat-48))
 | ltr (h:c.toNat<48\/57<c.toNat) (h0:97<=L) (h1:L<=122) (h2:L<103) (e:hexV c=some (L-87).toNat)
 | far (h:c.toNat<48\/57<c.toNat) (h0:97<=L) (h1:L<=122) (h2:103<=L) (e:hexV c=none)
 | low (h:c.toNat<48\/57<c.toNat) (h0:L<97) (e:hexV c=none)
 | high (h:c.toNat<48\/57<c.toNat) (h0:97<=L) (h1:122<L) (e:hexV c=none)
theorem hex_fin:∀j:Fin 256,hexV (UInt8.ofNat j.val)=
  (if 48<=j.val/\j.val<=57 then some (j.val-48) else if 97<=bits BinOp.or IntKind.u8 ((j.val:Nat):Int) 32/\bits BinOp.or IntKind.u8 ((j.val:Nat):Int) 32<103 then some (bits BinOp.or IntKind.u8 ((j.val:Nat):Int) 32-87).toNat else none):=by decide+kernel
theorem hex_is (c:UInt8):HexIs c (bits BinOp.or IntKind.u8 (c.toNat:Int) 32):=by
 have h:=hex_fin ⟨c.toNat,c.toNat_lt⟩;simp only at h;rw[show UInt8.ofNat c.toNat=c by simp] at h;generalize bits BinOp.or IntKind.u8 (c.toNat:Int) 32=L at *;by_cases h1:48<=c.toNat/\c.toNat<=57
 ·rw [if_pos h1] at h;exact .fig h1.1 h1.2 h
 ·rw [if_neg h1] at h;have hn:c.toNat<48\/57<c.toNat:=by omega
  by_cases h2:97<=L/\L<103
  ·rw [if_pos h2] at h;exact .ltr hn h2.1 (by omega) h2.2 h
  ·rw [if_neg h2] at h;by_cases h3:L<97
   ·exact .low hn h3 h
   ·by_cases h4:L<=122
    ·exact .far hn (by omega) h4 (by omega) h
    ·exact .high hn (by omega) (by omega) h
theorem zHu (c:Int) (w:World):Calls Tryz.prog 331 #[.int .u8 c] w fun e w'=>e=.returned (.int .u8 (bits BinOp.or IntKind.u8 c 32))/\w'=w:=by
 go_enter Tryz.func331,Tryz.ntmps331;go_wp2;go_ret;exact⟨rfl,rfl⟩
structure HexAt (d e:UInt8) (i n:Nat):Prop where
 zero:i=0->n=0
 one:i=1->hexV d=some n
 two:i=2->∃a b,hexV d=some a/\hexV e=some b/\n=16*a+b
 small:n<256
 less:i<=1->n<16
def hex2 (d e:UInt8):Option Nat:=(hexV d).bind fun a=>(hexV e).map fun b=>16*a+b
theorem HexAt.first {d e:UInt8} {k:Nat} (h:hexV d=some k):HexAt d e 1 k:=⟨by omega,fun _=>h,by omega,by have:=zDt h;omega,fun _=>zDt h⟩
theorem HexAt.second {d e:UInt8} {n k:Nat} (h:HexAt d e 1 n) (hk:hexV e=some k):HexAt d e 2 (16*n+k):=
 ⟨by omega,by omega,fun _=>⟨n,k,h.one rfl,hk,rfl⟩,by have:=zDt hk;have:=h.less (Nat.le_refl 1);omega,by omega⟩
def uintV:Option Nat->Value
 | some n=>.tuple #[.int .u64 (n:Int),.nilIface]
 | none=>.tuple #[.int .u64 0,.iface 320 (.int .i64 2)]
theorem zRh (s:ByteArray) (d f:UInt8) (hs:s.data.toList=[d,f]) (w:World):
  Calls Tryz.prog 294 #[.string s,.int .i64 16,.int .i64 8] w fun e w'=>
   e=.returned (uintV (hex2 d f))/\Below w.heap.size w w':=by
 obtain⟨R,hRV⟩:∃R,uintV (hex2 d f)=R:=⟨_,rfl⟩;rw[hRV];replace hRV:=hide hRV;have hsz:s.size=2:=by rw[Lib.size_eq,hs];rfl
 have hemp:s.toList.isEmpty=false:=by rw[Lib.toList_data,hs];rfl
 have hcv:=Lib.run_convert_string_bytes (P:=Tryz.prog) w 9 160 5 s (u:=.string) Tryz.underlying9 Tryz.underlying160 Tryz.underlying5;have hB0:=Lib.bytesWorld_cell w 5 s 0 (by omega);have hB1:=Lib.bytesWorld_cell w 5 s 1 (by omega);have hbl:=Lib.bytesWorld_below w 5 s;rw[hs] at hB0 hB1;simp only[List.getD_cons_zero,List.getD_cons_succ] at hB0 hB1;obtain⟨W1,hW1⟩:∃W1,W1=Lib.bytesWorld w 5 s:=⟨_,rfl⟩;rw[<-hW1] at hcv hB0 hB1 hbl;rw[hsz] at hcv;clear hW1;replace hs:=hide hs;go_enter Tryz.func294,Tryz.ntmps294;go_wp2
 go_loopg [12,13,101] 2 (fun k s12 s13 s101 wx=>∃(i n:Nat) (m:Int),i+k=2/\s12=.bool false/\s13=.int .u64 m/\s101=.int .i64 (i:Int)/\wx=W1/\Hid (m=(n:Int)/\HexAt d f i n))
 case atStart=>exact⟨0,0,0,by omega,rfl,rfl,rfl,rfl,hide ⟨rfl,fun _=>rfl,by omega,by omega,by omega,by omega⟩⟩
 case round=>
  obtain⟨i,n,m,hig,rfl,rfl,rfl,rfl,hA0⟩:=hrel;have hmn:=hA0.out.1;have hA:=hide hA0.out.2;clear hA0;cases gk with
  | zero=>
   obtain rfl:i=2:=by omega
   subst hmn;have hR:Hid (R=.tuple #[.int .u64 (n:Int),.nilIface]):=hide (by
    obtain⟨a,b,h1,h2,h3⟩:=hA.out.two rfl
    rw[<-hRV.out]
    unfold hex2
    rw[h1,h2,h3];rfl)
   clear hA hB0 hB1 hRV;go_wp2;go_ret2;exact⟨by rw[hR.out];rfl,hbl⟩
  | succ k=>
   have hn16:n<16:=hA.out.less (by omega);have hm0:0<=m:=by omega
   have hm1:m<16:=by omega
   have hcut:¬((1152921504606846976:Int)<=m):=by omega
   have hi01:i=0\/i=1:=by omega
   rcases hi01 with rfl | rfl
   ·obtain rfl:k=1:=by omega
    obtain rfl:n=0:=hA.out.zero rfl;obtain rfl:m=0:=by omega
    have hX:=hex_is d;have hlow:=fun w=>zHu (d.toNat:Int) w
    have hlt:=d.toNat_lt;clear hB1;generalize hL:bits BinOp.or IntKind.u8 (d.toNat:Int) 32=L at *;generalize hz:d.toNat=z at *;have hv0:0<=L:=by rw[<-hL];exact bits_lo_u8 .or _ 32
    have hv1:L<=255:=(by rw[<-hL];exact bits_hi_u8 .or _ 32);cases hX with
    | fig h0 h1 e=>
     rw[hz] at h0 h1 e;have hH:Hid (HexAt d f 1 (16*0+(z-48))):=hide (by have:=HexAt.first (e:=f) e;simpa using this);have z0:(48:Int)<=(z:Int):=by omega
     have z1:(z:Int)<=57:=(by omega);have z2:¬((16:Int)<=(z:Int)-48):=(by omega);have hnz:Hid (0*16+((z:Int)-48)=((16*0+(z-48):Nat):Int)):=hide (by omega);have hov:¬((255:Int)<0*16+((z:Int)-48)):=by omega
     clear e hA hL hz hRV hlow hmn hn16;go_wp2
     go_roundg 1
     case measure=>omega
     case rel=>exact⟨1,16*0+(z-48),0*16+((z:Int)-48),by omega,rfl,by go_num,by go_num,rfl,hide ⟨hnz.out,hH.out⟩⟩
    | ltr h h0 h1 h2 e=>
     rw[hz] at h;have hH:Hid (HexAt d f 1 (16*0+(L-87).toNat)):=hide (by have:=HexAt.first (e:=f) e;simpa using this);have hnz:Hid (0*16+(L-87)=((16*0+(L-87).toNat:Nat):Int)):=hide (by omega);have hov:¬((255:Int)<0*16+(L-87)):=by omega
     have h95:z≠95:=(by rintro rfl;have:d=95:=UInt8.toNat_inj.1 hz;rw[this] at e;cases e);have z95:((z:Int)==95)=false:=beq_false_of_ne (by omega);clear e hA hL hz hRV hmn hn16;rcases h with h | h
     ·have z0:¬((48:Int)<=(z:Int)):=by omega
      go_wp2_with (go_at_call 331;refine (hlow _).mono ?_;rintro e w' ⟨rfl,hw⟩;obtain rfl:=hw.symm)
      all_goals
       go_roundg 1
       case measure=>omega
       case rel=>exact⟨1,16*0+(L-87).toNat,0*16+(L-87),by omega,rfl,by go_num,by go_num,rfl,hide ⟨hnz.out,hH.out⟩⟩
     ·have z0:¬((z:Int)<=57):=by omega
      have z1:((48:Int)<=(z:Int)):=(by omega);go_wp2_with (go_at_call 331;refine (hlow _).mono ?_;rintro e w' ⟨rfl,hw⟩;obtain rfl:=hw.symm)
      all_goals
       go_roundg 1
       case measure=>omega
       case rel=>exact⟨1,16*0+(L-87).toNat,0*16+(L-87),by omega,rfl,by go_num,by go_num,rfl,hide ⟨hnz.out,hH.out⟩⟩
    | far h h0 h1 h2 e=>
     rw[hz] at h;have hR:Hid (R=.tuple #[.int .u64 0,.iface 320 (.int .i64 2)]):=hide (by
      rw[<-hRV.out]
      unfold hex2
      rw[e]
      rfl)
     have m0:(16:Int)<=L-87:=(by omega);clear e hA hL hz hRV hmn hn16;rcases h with h | h
     ·have z0:¬((48:Int)<=(z:Int)):=by omega
      have z95:((z:Int)==95)=false:=beq_false_of_ne (by omega);go_wp2_with (go_at_call 331;refine (hlow _).mono ?_;rintro e w' ⟨rfl,hw⟩;obtain rfl:=hw.symm)
      all_goals go_ret2
      all_goals exact⟨by rw[hR.out];rfl,hbl⟩
     ·by_cases h95:z=95
      ·subst h95;clear h hlt;go_wp2_with (go_at_call 331;refine (hlow _).mono ?_;rintro e w' ⟨rfl,hw⟩;obtain rfl:=hw.symm)
       all_goals go_ret2
       all_goals exact⟨by rw[hR.out];rfl,hbl⟩
      ·have z95:((z:Int)==95)=false:=beq_false_of_ne (by omega);have z0:¬((z:Int)<=57):=by omega
       have z1:((48:Int)<=(z:Int)):=(by omega);go_wp2_with (go_at_call 331;refine (hlow _).mono ?_;rintro e w' ⟨rfl,hw⟩;obtain rfl:=hw.symm)
       all_goals go_ret2
       all_goals exact⟨by rw[hR.out];rfl,hbl⟩
    | low h h0 e=>
     rw[hz] at h;have hR:Hid (R=.tuple #[.int .u64 0,.iface 320 (.int .i64 2)]):=hide (by
      rw[<-hRV.out]
      unfold hex2
      rw[e]
      rfl)
     have m0:¬((97:Int)<=L):=(by omega);clear e hA hL hz hRV hmn hn16;rcases h with h | h
     ·have z0:¬((48:Int)<=(z:Int)):=by omega
      have z95:((z:Int)==95)=false:=beq_false_of_ne (by omega);go_wp2_with (go_at_call 331;refine (hlow _).mono ?_;rintro e w' ⟨rfl,hw⟩;obtain rfl:=hw.symm)
      all_goals go_ret2
      all_goals exact⟨by rw[hR.out];rfl,hbl⟩
     ·by_cases h95:z=95
      ·subst h95;clear h hlt;go_wp2_with (go_at_call 331;refine (hlow _).mono ?_;rintro e w' ⟨rfl,hw⟩;obtain rfl:=hw.symm)
       all_goals go_ret2
       all_goals exact⟨by rw[hR.out];rfl,hbl⟩
      ·have z95:((z:Int)==95)=false:=beq_false_of_ne (by omega);have z0:¬((z:Int)<=57):=by omega
       have z1:((48:Int)<=(z:Int)):=(by omega);go_wp2_with (go_at_call 331;refine (hlow _).mono ?_;rintro e w' ⟨rfl,hw⟩;obtain rfl:=hw.symm)
       all_goals go_ret2
       all_goals exact⟨by rw[hR.out];rfl,hbl⟩
    | high h h0 h1 e=>
     rw[hz] at h;have hR:Hid (R=.tuple #[.int .u64 0,.iface 320 (.int .i64 2)]):=hide (by
      rw[<-hRV.out]
      unfold hex2
      rw[e]
      rfl)
     have m0:¬(L<=122):=(by omega);clear e hA hL hz hRV hmn hn16;rcases h with h | h
     ·have z0:¬((48:Int)<=(z:Int)):=by omega
      have z95:((z:Int)==95)=false:=beq_false_of_ne (by omega);go_wp2_with (go_at_call 331;refine (hlow _).mono ?_;rintro e w' ⟨rfl,hw⟩;obtain rfl:=hw.symm)
      all_goals go_ret2
      all_goals exact⟨by rw[hR.out];rfl,hbl⟩
     ·by_cases h95:z=95
      ·subst h95;clear h hlt;go_wp2_with (go_at_call 331;refine (hlow _).mono ?_;rintro e w' ⟨rfl,hw⟩;obtain rfl:=hw.symm)
       all_goals go_ret2
       all_goals exact⟨by rw[hR.out];rfl,hbl⟩
      ·have z95:((z:Int)==95)=false:=beq_false_of_ne (by omega);have z0:¬((z:Int)<=57):=by omega
       have z1:((48:Int)<=(z:Int)):=(by omega);go_wp2_with (go_at_call 331;refine (hlow _).mono ?_;rintro e w' ⟨rfl,hw⟩;obtain rfl:=hw.symm)
       all_goals go_ret2
       all_goals exact⟨by rw[hR.out];rfl,hbl⟩
   ·obtain rfl:k=0:=by omega
    have hX:=hex_is f;have hlow:=fun w=>zHu (f.toNat:Int) w
    have hlt:=f.toNat_lt;clear hB0;generalize hL:bits BinOp.or IntKind.u8 (f.toNat:Int) 32=L at *;generalize hz:f.toNat=z at *;have hv0:0<=L:=by rw[<-hL];exact bits_lo_u8 .or _ 32
    have hv1:L<=255:=(by rw[<-hL];exact bits_hi_u8 .or _ 32);cases hX with
    | fig h0 h1 e=>
     rw[hz] at h0 h1 e;have hH:Hid (HexAt d f 2 (16*n+(z-48))):=hide (hA.out.second e);have z0:(48:Int)<=(z:Int):=by omega
     have z1:(z:Int)<=57:=(by omega);have z2:¬((16:Int)<=(z:Int)-48):=(by omega);have hnz:Hid (m*16+((z:Int)-48)=((16*n+(z-48):Nat):Int)):=hide (by omega);have hov:¬((255:Int)<m*16+((z:Int)-48)):=by omega
     clear e hA hL hz hRV hlow hmn hn16;go_wp2
     go_roundg 0
     case measure=>omega
     case rel=>exact⟨2,16*n+(z-48),m*16+((z:Int)-48),by omega,rfl,by go_num,by go_num,rfl,hide ⟨hnz.out,hH.out⟩⟩
    | ltr h h0 h1 h2 e=>
     rw[hz] at h;have hH:Hid (HexAt d f 2 (16*n+(L-87).toNat)):=hide (hA.out.second e);have hnz:Hid (m*16+(L-87)=((16*n+(L-87).toNat:Nat):Int)):=hide (by omega);have hov:¬((255:Int)<m*16+(L-87)):=by omega
     have h95:z≠95:=(by rintro rfl;have:f=95:=UInt8.toNat_inj.1 hz;rw[this] at e;cases e);have z95:((z:Int)==95)=false:=beq_false_of_ne (by omega);clear e hA hL hz hRV hmn hn16;rcases h with h | h
     ·have z0:¬((48:Int)<=(z:Int)):=by omega
      go_wp2_with (go_at_call 331;refine (hlow _).mono ?_;rintro e w' ⟨rfl,hw⟩;obtain rfl:=hw.symm)
      all_goals
       go_roundg 0
       case measure=>omega
       case rel=>exact⟨2,16*n+(L-87).toNat,m*16+(L-87),by omega,rfl,by go_num,by go_num,rfl,hide ⟨hnz.out,hH.out⟩⟩
     ·have z0:¬((z:Int)<=57):=by omega
      have z1:((48:Int)<=(z:Int)):=(by omega);go_wp2_with (go_at_call 331;refine (hlow _).mono ?_;rintro e w' ⟨rfl,hw⟩;obtain rfl:=hw.symm)
      all_goals
       go_roundg 0
       case measure=>omega
       case rel=>exact⟨2,16*n+(L-87).toNat,m*16+(L-87),by omega,rfl,by go_num,by go_num,rfl,hide ⟨hnz.out,hH.out⟩⟩
    | far h h0 h1 h2 e=>
     rw[hz] at h;have hR:Hid (R=.tuple #[.int .u64 0,.iface 320 (.int .i64 2)]):=hide (by
      rw[<-hRV.out]
      unfold hex2
      rw[e]
      cases hexV d<;>rfl)
     have m0:(16:Int)<=L-87:=(by omega);clear e hA hL hz hRV hmn hn16;rcases h with h | h
     ·have z0:¬((48:Int)<=(z:Int)):=by omega
      have z95:((z:Int)==95)=false:=beq_false_of_ne (by omega);go_wp2_with (go_at_call 331;refine (hlow _).mono ?_;rintro e w' ⟨rfl,hw⟩;obtain rfl:=hw.symm)
      all_goals go_ret2
      all_goals exact⟨by rw[hR.out];rfl,hbl⟩
     ·by_cases h95:z=95
      ·subst h95;clear h hlt;go_wp2_with (go_at_call 331;refine (hlow _).mono ?_;rintro e w' ⟨rfl,hw⟩;obtain rfl:=hw.symm)
       all_goals go_ret2
       all_goals exact⟨by rw[hR.out];rfl,hbl⟩
      ·have z95:((z:Int)==95)=false:=beq_false_of_ne (by omega);have z0:¬((z:Int)<=57):=by omega
       have z1:((48:Int)<=(z:Int)):=(by omega);go_wp2_with (go_at_call 331;refine (hlow _).mono ?_;rintro e w' ⟨rfl,hw⟩;obtain rfl:=hw.symm)
       all_goals go_ret2
       all_goals exact⟨by rw[hR.out];rfl,hbl⟩
    | low h h0 e=>
     rw[hz] at h;have hR:Hid (R=.tuple #[.int .u64 0,.iface 320 (.int .i64 2)]):=hide (by
      rw[<-hRV.out]
      unfold hex2
      rw[e]
      cases hexV d<;>rfl)
     have m0:¬((97:Int)<=L):=(by omega);clear e hA hL hz hRV hmn hn16;rcases h with h | h
     ·have z0:¬((48:Int)<=(z:Int)):=by omega
      have z95:((z:Int)==95)=false:=beq_false_of_ne (by omega);go_wp2_with (go_at_call 331;refine (hlow _).mono ?_;rintro e w' ⟨rfl,hw⟩;obtain rfl:=hw.symm)
      all_goals go_ret2
      all_goals exact⟨by rw[hR.out];rfl,hbl⟩
     ·by_cases h95:z=95
      ·subst h95;clear h hlt;go_wp2_with (go_at_call 331;refine (hlow _).mono ?_;rintro e w' ⟨rfl,hw⟩;obtain rfl:=hw.symm)
       all_goals go_ret2
       all_goals exact⟨by rw[hR.out];rfl,hbl⟩
      ·have z95:((z:Int)==95)=false:=beq_false_of_ne (by omega);have z0:¬((z:Int)<=57):=by omega
       have z1:((48:Int)<=(z:Int)):=(by omega);go_wp2_with (go_at_call 331;refine (hlow _).mono ?_;rintro e w' ⟨rfl,hw⟩;obtain rfl:=hw.symm)
       all_goals go_ret2
       all_goals exact⟨by rw[hR.out];rfl,hbl⟩
    | high h h0 h1 e=>
     rw[hz] at h;have hR:Hid (R=.tuple #[.int .u64 0,.iface 320 (.int .i64 2)]):=hide (by
      rw[<-hRV.out]
      unfold hex2
      rw[e]
      cases hexV d<;>rfl)
     have m0:¬(L<=122):=(by omega);clear e hA hL hz hRV hmn hn16;rcases h with h | h
     ·have z0:¬((48:Int)<=(z:Int)):=by omega
      have z95:((z:Int)==95)=false:=beq_false_of_ne (by omega);go_wp2_with (go_at_call 331;refine (hlow _).mono ?_;rintro e w' ⟨rfl,hw⟩;obtain rfl:=hw.symm)
      all_goals go_ret2
      all_goals exact⟨by rw[hR.out];rfl,hbl⟩
     ·by_cases h95:z=95
      ·subst h95;clear h hlt;go_wp2_with (go_at_call 331;refine (hlow _).mono ?_;rintro e w' ⟨rfl,hw⟩;obtain rfl:=hw.symm)
       all_goals go_ret2
       all_goals exact⟨by rw[hR.out];rfl,hbl⟩
      ·have z95:((z:Int)==95)=false:=beq_false_of_ne (by omega);have z0:¬((z:Int)<=57):=by omega
       have z1:((48:Int)<=(z:Int)):=(by omega);go_wp2_with (go_at_call 331;refine (hlow _).mono ?_;rintro e w' ⟨rfl,hw⟩;obtain rfl:=hw.symm)
       all_goals go_ret2
       all_goals exact⟨by rw[hR.out];rfl,hbl⟩
theorem uint_yes (s:ByteArray) (d f:UInt8) (hs:s.data.toList=[d,f]) (n:Nat) (h:hex2 d f=some n) (w:World):
  Calls Tryz.prog 306 #[.string s,.int .i64 16,.int .i64 8] w fun e w'=>e=.returned (.tuple #[.int .u64 (n:Int),.nilIface])/\Below w.heap.size w w':=by
 have hI:=fun w=>zRh s d f hs w
 rw[h] at hI;simp only[uintV] at hI;clear h hs;go_enter Tryz.func306,Tryz.ntmps306;go_wp2_with (go_at_call 294;fail);refine (hI _).mono ?_;rintro e w1 ⟨rfl,hb⟩;go_wp2;go_ret2;exact⟨rfl,hb⟩
theorem syn_cell {w:World} (hT:Tabs w):∃ev,w.cell? ⟨3,0,none⟩=some ev/\(ev=.nilIface\/∃te pe,ev=.iface te pe):=by
 obtain⟨tp,p,hsyn⟩:=hT.syn;refine⟨.iface tp p,?_,Or.inr ⟨tp,p,rfl⟩⟩;have:=World.var?_cell (show Tryz.prog.globalNamed "strconv.ErrSyntax" =some 3 by kernel_rfl) hsyn 0
 rw[this];rfl
theorem zR4 (fn s:ByteArray) (b c:Int) (hs:s.size<=281474976710656) (w:World) (hT:Tabs w):
  Calls Tryz.prog 258 #[.string fn,.string s,.int .i64 b,.int .i64 c,.iface 320 (.int .i64 2)] w fun e w'=>∃N,e=.returned (badV N)/\Below w.heap.size w w':=by
 obtain⟨ev,hv,hev⟩:=syn_cell hT;refine Calls.mono (Any.strconv_toError_syntax Tryz.laysC245 fn s b c ev w hs hv hev) ?_;rintro e w' ⟨N,rfl,_,_,hb⟩;exact⟨N,rfl,hb⟩
theorem uint_no (s:ByteArray) (d f:UInt8) (hs:s.data.toList=[d,f]) (h:hex2 d f=none) (w:World) (hT:Tabs w):
  Calls Tryz.prog 306 #[.string s,.int .i64 16,.int .i64 8] w fun e w'=>∃N,e=.returned (.tuple #[.int .u64 0,badV N])/\Below w.heap.size w w':=by
 have hI:=fun w=>zRh s d f hs w
 rw[h] at hI;simp only[uintV] at hI;have hsz:s.size<=281474976710656:=by rw[Lib.size_eq,hs];simp
 have hE:=fun w hT=>zR4 ⟨#[80,97,114,115,101,85,105,110,116]⟩ s 16 8 hsz w hT
 clear h hs;go_enter Tryz.func306,Tryz.ntmps306;go_wp2_with (go_at_call 294;fail);refine (hI _).mono ?_;rintro e w1 ⟨rfl,hb⟩;go_wp2_with (go_at_call 258;fail);refine (hE _ (hT.below hb)).mono ?_;rintro e w2 ⟨N,rfl,hb2⟩;go_wp2;go_ret2;exact⟨N,rfl,hb.trans (hb2.mono hb.size)⟩
def escV:List UInt8->UInt8 × Nat
 | _::d::r=>if isBehind d then (d,2) else match r with
  | []=>(0,0)
  | f::_=>match hex2 d f with
   | some n=>(UInt8.ofNat n,3)
   | none=>(0,0)
 | _=>(0,0)
theorem zLn (s:ByteArray) (hs:s.size<=1000000) (h0:1<=s.size) (w:World) (hT:Tabs w):
  Calls Tryz.prog 265 #[.string s] w fun e w'=>e=.returned (.tuple #[.int .u8 ((escV s.data.toList).1.toNat:Int),.int .i64 ((escV s.data.toList).2:Int)])/\Below w.heap.size w w':=by
 have hL:=Lib.size_eq s;have hat:∀(i:Nat) (hi:i<s.size),s.data.toList[i]?=some s[i]:=fun i hi=>Lib.data_getElem? s i hi
 have hex:=zIb s 1 3;generalize hl:s.data.toList=l at *;replace hl:=hide hl
 match l,hL with
 | [],hL=>simp only[List.length_nil] at hL;omega
 | [c],hL=>
  simp only[List.length_cons,List.length_nil] at hL;have z1:¬((2:Int)<=(s.size:Int)):=by omega
  have z2:((s.size:Int)<3):=by omega
  simp only[escV];clear hat hex hL;go_enter Tryz.func265,Tryz.ntmps265;go_wp2;go_ret2;exact⟨rfl,Below.refl _ _⟩
 | c::d::r,hL=>
  simp only[List.length_cons] at hL;have hi1:1<s.size:=by omega
  have hx1:s[1]'hi1=d:=by have:=hat 1 hi1;simpa using this.symm
  have z1:((2:Int)<=(s.size:Int)):=by omega
  have z11:((1:Int)<(s.size:Int)):=by omega
  have hO:=fun w=>zKb d w
  cases hd:isBehind d with
  | true=>
   have hv:escV (c::d::r)=(d,2):=by simp[escV,hd]
   rw[hv];rw[hd] at hO;clear hat hex hL hd hv;go_enter Tryz.func265,Tryz.ntmps265;go_wp2_with (go_at_call 254;refine (hO _).mono ?_;rintro e w' ⟨rfl,hw⟩;obtain rfl:=hw.symm);go_ret2;exact⟨rfl,Below.refl _ _⟩
  | false=>
   rw[hd] at hO;cases r with
   | nil=>
    have hv:escV [c,d]=(0,0):=(by simp[escV,hd]);rw[hv];simp only[List.length_nil] at hL;have z2:((s.size:Int)<3):=by omega
    clear hat hex hL hd hv;go_enter Tryz.func265,Tryz.ntmps265;go_wp2_with (go_at_call 254;refine (hO _).mono ?_;rintro e w' ⟨rfl,hw⟩;obtain rfl:=hw.symm);go_ret2;exact⟨rfl,Below.refl _ _⟩
   | cons f q=>
    simp only[List.length_cons] at hL;have z2:¬((s.size:Int)<3):=by omega
    have z3:((3:Int)<=(s.size:Int)):=(by omega);obtain⟨X,hX⟩:∃X,s.extract 1 3=X:=⟨_,rfl⟩;have hXd:X.data.toList=[d,f]:=by rw[<-hX,hex,zAf];rfl
    cases hh:hex2 d f with
    | some n=>
     have hv:escV (c::d::f::q)=(UInt8.ofNat n,3):=(by simp[escV,hd,hh]);have hn:n<256:=by
      unfold hex2 at hh;cases ha:hexV d with
      | none=>rw[ha] at hh;cases hh
      | some a=>
       cases hb:hexV f with
       | none=>rw[ha,hb] at hh;cases hh
       | some b=>
        rw[ha,hb] at hh;have:=zDt ha;have:=zDt hb;simp at hh;omega
     have hU:=fun w=>uint_yes X d f hXd n hh w
     have hc:IntKind.u8.wrap (n:Int)=((UInt8.ofNat n).toNat:Int):=by rw[IntKind.wrap_u8,UInt8.toNat_ofNat'];omega
     rw[hv];simp only;generalize UInt8.ofNat n=y at *;clear hat hex hL hd hv hXd hh hn;go_enter Tryz.func265,Tryz.ntmps265;go_wp2_with (first
      |(go_at_call 254;refine (hO _).mono ?_;rintro e w' ⟨rfl,hw⟩;obtain rfl:=hw.symm)
      |(go_at_call 306;fail))
     refine (hU _).mono ?_;rintro e w1 ⟨rfl,hb⟩;go_wp2;go_ret2;exact⟨rfl,hb⟩
    | none=>
     have hv:escV (c::d::f::q)=(0,0):=(by simp[escV,hd,hh]);have hU:=fun w hT=>uint_no X d f hXd hh w hT
     rw[hv];simp only;clear hat hex hL hd hv hXd hh;go_enter Tryz.func265,Tryz.ntmps265;go_wp2_with (first
      |(go_at_call 254;refine (hO _).mono ?_;rintro e w' ⟨rfl,hw⟩;obtain rfl:=hw.symm)
      |(go_at_call 306;fail))
     refine (hU _ hT).mono ?_;rintro e w1 ⟨N,rfl,hb⟩;unfold badV;go_wp2;go_ret2;exact⟨rfl,hb⟩
def byteV:List UInt8->UInt8 × Nat
 | []=>(0,0)
 | c::r=>if c=92 then escV (c::r) else if isSpec c then (0,0) else (c,1)
theorem byte_any (s:ByteArray) (hs:s.size<=1000000) (h0:1<=s.size) (w:World) (hT:Tabs w):
  Calls Tryz.prog 233 #[.string s] w fun e w'=>e=.returned (.tuple #[.int .u8 ((byteV s.data.toList).1.toNat:Int),.int .i64 ((byteV s.data.toList).2:Int)])/\Below w.heap.size w w':=by
 have hE:=fun w hT=>zLn s hs h0 w hT
 have hL:=Lib.size_eq s;have hat:∀(i:Nat) (hi:i<s.size),s.data.toList[i]?=some s[i]:=fun i hi=>Lib.data_getElem? s i hi
 generalize hl:s.data.toList=l at *;replace hl:=hide hl;cases l with
 | nil=>simp only[List.length_nil] at hL;omega
 | cons c r=>
  have hi0:0<s.size:=by omega
  have hx0:s[0]'hi0=c:=by have:=hat 0 hi0;simpa using this.symm
  have z0:((0:Int)<(s.size:Int)):=by omega
  have hO:=fun w=>zHk c w
  by_cases h92:c=92
  ·subst h92;have hv:byteV (92::r)=escV (92::r):=by simp[byteV]
   rw[hv];generalize (escV (92::r)).1=y at *;generalize (escV (92::r)).2=k at *;clear hat hL hv hO;go_enter Tryz.func233,Tryz.ntmps233;go_wp2_with (go_at_call 265;fail);refine (hE _ hT).mono ?_;rintro e w1 ⟨rfl,hb⟩;go_wp2;go_ret2;exact⟨rfl,hb⟩
  ·have n92:((c.toNat:Int)==92)=false:=ne8 (k:=92) (by omega) h92;cases hsc:isSpec c with
   | true=>
    have hv:byteV (c::r)=(0,0):=(by simp[byteV,h92,hsc]);rw[hv];rw[hsc] at hO;clear hat hL hv hE h92 hsc;go_enter Tryz.func233,Tryz.ntmps233;go_wp2_with (go_at_call 254;refine (hO _).mono ?_;rintro e w' ⟨rfl,hw⟩;obtain rfl:=hw.symm);go_ret2;exact⟨rfl,Below.refl _ _⟩
   | false=>
    have hv:byteV (c::r)=(c,1):=(by simp[byteV,h92,hsc]);rw[hv];rw[hsc] at hO;clear hat hL hv hE h92 hsc;go_enter Tryz.func233,Tryz.ntmps233;go_wp2_with (go_at_call 254;refine (hO _).mono ?_;rintro e w' ⟨rfl,hw⟩;obtain rfl:=hw.symm);go_ret2;exact⟨rfl,Below.refl _ _⟩
inductive RqStep (l:List UInt8):Prop where
 | blank (h:l=[32]) (rq:rqFrom false l=none)
 | stop (h:l≠[32]) (x:UInt8) (b:byteV l=(x,0)) (rq:rqFrom false l=none)
 | go (h:l≠[32]) (x:UInt8) (k:Nat) (b:byteV l=(x,k)) (h0:1<=k) (h1:k<=l.length) (rq:rqFrom false l=(rqFrom false (l.drop k)).map (x::·))
theorem rq_step {l:List UInt8} (hl:l≠[]):RqStep l:=by
 have n92:∀{r:List UInt8},(92::r)≠[(32:UInt8)]:=by intro r h;simp at h
 cases rway false l hl with
 | bad c r h h92 hb e1 e2=>
  subst h;unfold isBad at hb;simp only[Bool.false_or,Bool.and_false,Bool.or_false,Bool.or_eq_true,Bool.and_eq_true,beq_iff_eq] at hb;rcases hb with hb | ⟨rfl,hb⟩
  ·refine .stop ?_ 0 (by simp[byteV,h92,hb]) e2;rintro h;simp only[List.cons.injEq] at h;rw[h.1] at hb;cases hb
  ·refine .blank ?_ e2;rw[List.isEmpty_iff.1 hb]
 | zero r h e1 e2=>
  subst h;exact .go (by simp) 0 1 (by simp[byteV,isSpec]) (by omega) (by simp) e2
 | one c r h h92 h0 hb e1 e2=>
  subst h;have hs:isSpec c=false:=by unfold isBad at hb;revert hb;cases isSpec c<;>simp
  refine .go ?_ c 1 (by simp[byteV,h92,hs]) (by omega) (by simp) e2;intro h;simp only[List.cons.injEq] at h;rw[h.1,h.2] at hb;cases hb
 | stop h e1 e2=>subst h;exact .stop n92 0 (by simp[byteV,escV]) e2
 | pair d r h hd e1 e2=>subst h;exact .go n92 d 2 (by simp[byteV,escV,hd]) (by omega) (by simp) e2
 | half d h hd e1 e2=>subst h;exact .stop n92 0 (by simp[byteV,escV,hd]) e2
 | hex d f a b r h hd ha hb e1 e2=>
  subst h;exact .go n92 (UInt8.ofNat (16*a+b)) 3 (by simp[byteV,escV,hd,hex2,ha,hb]) (by omega) (by simp) e2
 | nohex d f r h hd hn e1 e2=>
  subst h;have h2:hex2 d f=none:=by
   unfold hex2;rcases hn with hn | hn
   ·rw [hn];rfl
   ·rw [hn];cases hexV d<;>rfl
  exact .stop n92 0 (by simp[byteV,escV,hd,h2]) e2
theorem zRr {c:UInt8} {r:List UInt8} (h:c=32\/c=35):rqFrom true (c::r)=none:=by
 rcases h with rfl | rfl<;>rw[rqFrom.eq_def]<;>simp[isSpec]
theorem rq_first {l:List UInt8} (h:∀c r,l=c::r->c≠32/\c≠35):rqFrom true l=rqFrom false l:=by
 cases l with
 | nil=>rfl
 | cons c r=>
  obtain⟨h1,h2⟩:=h c r rfl;rw[rqFrom.eq_def true,rqFrom.eq_def false];simp[h1,h2]
def RqAt (l o r:List UInt8):Prop:=rqFrom false l=(rqFrom false r).map (o++·)
theorem RqAt.start (l:List UInt8):RqAt l [] l:=by unfold RqAt;cases rqFrom false l<;>simp
theorem RqAt.none {l o r:List UInt8} (h:RqAt l o r) (hn:rqFrom false r=none):rqFrom false l=none:=by unfold RqAt at h;rw[h,hn];rfl
theorem RqAt.more {l o r q:List UInt8} {x:UInt8} (h:RqAt l o r) (hn:rqFrom false r=(rqFrom false q).map (x::·)):RqAt l (o++[x]) q:=by
 unfold RqAt at h ⊢;rw[h,hn,Option.map_map];congr 1;funext u;simp
theorem RqAt.done {l o:List UInt8} (h:RqAt l o []):rqFrom false l=some o:=by unfold RqAt at h;rw[h];simp[rqFrom]
theorem zEl (l:List UInt8) (c:UInt8):Lib.hasPrefix l [c]=(match l with | []=>false | x::_=>x==c):=by
 cases l with
 | nil=>rfl
 | cons x r=>
  simp only[Lib.hasPrefix,List.isPrefixOf,Bool.and_true];rw[Bool.eq_iff_iff,beq_iff_eq,beq_iff_eq];exact eq_comm
theorem zR1 (s:ByteArray) (hs:s.size<=1000000) (w:World) (hT:Tabs w):
  Calls Tryz.prog 208 #[.string s] w fun e w'=>e=.returned (.tuple #[.string (txt ((rqFrom true s.data.toList).getD [])),.bool (rqFrom true s.data.toList).isSome])/\Below w.heap.size w w':=by
 have hL:=Lib.size_eq s;have hp1:=fun w=>Tryz.strings_HasPrefix s ⟨#[32]⟩ w
 have hp2:=fun w=>Tryz.strings_HasPrefix s ⟨#[35]⟩ w
 rw[show (⟨#[32]⟩:ByteArray).data.toList=[32] from rfl] at hp1;rw[show (⟨#[35]⟩:ByteArray).data.toList=[35] from rfl] at hp2;have hself:txt s.data.toList=s:=(zCy s _ rfl).symm;generalize hl:s.data.toList=l at *;obtain⟨R,hR0⟩:∃R,rqFrom true l=R:=⟨_,rfl⟩;rw[hR0];by_cases h32:Lib.hasPrefix l [32]=true
 ·rw [h32] at hp1;have hR:R=none:=by
   rw[<-hR0];rw[zEl] at h32;cases l with
   | nil=>cases h32
   | cons c r=>exact zRr (Or.inl (by simpa using h32))
  subst hR;clear hL hp2 h32 hR0 hl hself;go_enter Tryz.func208,Tryz.ntmps208;go_wp2_with (go_at_call 232;refine (hp1 _).mono ?_;rintro e w' ⟨rfl,hw⟩;obtain rfl:=hw.symm);go_ret2;exact⟨rfl,Below.refl _ _⟩
 ·have h32:Lib.hasPrefix l [32]=false:=by simpa using h32
  rw[h32] at hp1;by_cases h35:Lib.hasPrefix l [35]=true
  ·rw [h35] at hp2;have hR:R=none:=by
    rw[<-hR0];rw[zEl] at h35;cases l with
    | nil=>cases h35
    | cons c r=>exact zRr (Or.inr (by simpa using h35))
   subst hR;clear hL h32 h35 hR0 hl hself;go_enter Tryz.func208,Tryz.ntmps208;go_wp2_with (go_at_call 232;fail);refine (hp1 _).mono ?_;rintro e w' ⟨rfl,hw⟩;obtain rfl:=hw.symm;go_wp2_with (go_at_call 232;fail);refine (hp2 _).mono ?_;rintro e w' ⟨rfl,hw⟩;obtain rfl:=hw.symm;go_wp2;go_ret2;exact⟨rfl,Below.refl _ _⟩
  ·have h35:Lib.hasPrefix l [35]=false:=by simpa using h35
   rw[h35] at hp2;have hRf:Hid (rqFrom false l=R):=hide (by
    rw[<-hR0]
    refine (rq_first fun c r h=>?_).symm
    subst h
    rw[zEl] at h32 h35
    simp only[beq_eq_false_iff_ne] at h32 h35
    exact⟨h32,h35⟩)
   have hst:Hid (RqAt l [] l):=hide (RqAt.start l);have hll:l.length<=1000000:=by omega
   have hsl:Hid (s=txt l):=hide hself.symm;obtain⟨w1,hmake,hown,hb⟩:=make8 w s.size (by omega);clear h32 h35 hR0 hself;replace hl:=hide hl;have hln:=hide hL;clear hL;go_enter Tryz.func208,Tryz.ntmps208;go_wp2_with (go_at_call 232;fail);refine (hp1 _).mono ?_;rintro e w' ⟨rfl,hw⟩;obtain rfl:=hw.symm;go_wp2_with (go_at_call 232;fail);refine (hp2 _).mono ?_;rintro e w' ⟨rfl,hw⟩;obtain rfl:=hw.symm;clear hp1 hp2;go_wp2
   go_loopg [4,5] l.length (fun k s4 s5 wx=>∃(q:ByteArray) (o:List UInt8),q.size=k/\s5=.string q/\o.length+k<=l.length/\Hid (RqAt l o q.data.toList)/\wx.ownsRow w.heap.size 5 1 s4 o.length (bys o)/\Below w.heap.size w wx)
   case atStart=>refine⟨s,[],hln.out,rfl,by simp,?_,hown,hb⟩;rw[hsl.out,zAf];exact hst
   case round=>
    obtain⟨q,o,hq,rfl,hol,hC,hor,hbr⟩:=hrel;clear hmake hown hb hst hsl hl hln;have hqs:=Lib.size_eq q;cases gk with
    | zero=>
     have hq0:q.data.toList=[]:=List.eq_nil_of_length_eq_zero (by omega);have hqe:q.toList.isEmpty=true:=by rw[Lib.toList_data,hq0];rfl
     have hRo:Hid (R=some o):=hide (by
      have:=hC.out
      rw[hq0] at this
      rw[<-hRf.out]
      exact this.done)
     obtain⟨A,c,rfl,hnc,hHas⟩:=zAh hor;have htx:=txt8 wr c hHas;clear hHas hor hC hq0 hqs hq hRf;go_wp2;go_ret2;exact⟨by rw[hRo.out];rfl,hbr⟩
    | succ k=>
     have hqn:q.data.toList≠[]:=fun h=>by rw[h] at hqs;simp only[List.length_nil] at hqs;omega
     have hqe:q.toList.isEmpty=false:=(by rw[Lib.toList_data];simpa using hqn);have hS:=rq_step hqn;have hB:=fun w hT=>byte_any q (by omega) (by omega) w hT
     have hTr:=hT.below hbr;have hol2:=hide hol;clear hol;cases hS with
     | blank h rq=>
      have hRo:Hid (R=none):=hide (by rw[<-hRf.out];exact hC.out.none rq);have hqb:(q.toList==[32])=true:=by rw[Lib.toList_data,h];rfl
      clear hB hC h rq hqn hqs hq hRf hor;go_wp2;go_ret2;exact⟨by rw[hRo.out];rfl,hbr⟩
     | stop h x b rq=>
      have hRo:Hid (R=none):=hide (by rw[<-hRf.out];exact hC.out.none rq);have hqb:(q.toList==[32])=false:=by rw[Lib.toList_data];simpa using h
      rw[b] at hB;simp only at hB;clear hC h rq hqn hqs hq hRf b hor;go_wp2_with (go_at_call 233;fail);refine (hB _ hTr).mono ?_;rintro e w2 ⟨rfl,hb2⟩;go_wp2;go_ret2;exact⟨by rw[hRo.out];rfl,hbr.trans (hb2.mono hbr.size)⟩
     | go h x j b h0 h1 rq=>
      have hqb:(q.toList==[32])=false:=(by rw[Lib.toList_data];simpa using h);have hj:j<=q.size:=(by omega);have hjz:(j:Int)<=(q.size:Int):=(by omega);have hj0:((j:Int)==0)=false:=beq_false_of_ne (by omega);obtain⟨X,hX⟩:∃X,q.extract j (k+1)=X:=⟨_,rfl⟩;have hXd:X.data.toList=q.data.toList.drop j:=by rw[<-hX,<-hq,Lib.extract_data,List.take_of_length_le];rw[List.length_drop];omega
      have hXs:X.size=q.size-j:=(by rw[Lib.size_eq,hXd,List.length_drop,<-hqs]);have hnext:Hid (RqAt l (o++[x]) X.data.toList):=hide (by rw[hXd];exact hC.out.more rq);rw[b] at hB;simp only at hB;clear hC h rq hqn hqs hRf b hXd;go_wp2_with (go_at_call 233;fail);refine (hB _ hTr).mono ?_;rintro e w2 ⟨rfl,hb2⟩;have hbr2:=hbr.trans (hb2.mono hbr.size);have hor2:=zAc hor hb2;clear hor hbr hb2 hB hTr;have hone:(w2.alloc (.cells #[.int .u8 (x.toNat:Int)] 5)).ownsRow w2.heap.size 5 1 (.slice (some ⟨w2.heap.size,0,none⟩) 1 1) 1 (bys [x]):=one8 w2 x;have hH:=Has.own hone;have hor1:=hor2.alloc (.cells #[.int .u8 (x.toNat:Int)] 5);have hbr1:=hbr2.alloc hbr2.size (.cells #[.int .u8 (x.toNat:Int)] 5);have hs1:=hbr1.size;clear hone hor2 hbr2;go_wp2_with (at_builtin;go_must (refine app8 _ rfl (.tmp 29) (.tmp 31) rfl w.heap.size _ _ o rfl hor1 _ _ 1 1 [x] rfl hH (by have:=hol2.out;omega) hs1 ?_));intro v' w3 hown3 hb3 _;have hb4:=hbr1.trans hb3;clear hor1 hbr1 hs1 hH hb3;go_wp2
      go_roundg (k+1-j)
      case measure=>omega
      case rel=>exact⟨X,o++[x],by omega,rfl,by simp only[List.length_append,List.length_singleton];have:=hol2.out;omega,hnext,by simpa using hown3,hb4⟩
structure TM (w:World):Prop where
 tt:TT w
 mx:Mx w
theorem TM.below {w w':World} (h:TM w) (hb:Below w.heap.size w w'):TM w':=⟨h.tt.below hb,h.mx.below hb⟩
theorem zMu:∀{l:List UInt8},61 ∉ l->Lib.index l [61]= -1
 | [],_=>by simp[Lib.index]
 | b::r,h=>by
  have h1:b≠61:=fun e=>h (by rw[e];exact List.mem_cons_self)
  have h2:=zMu (l:=r) fun hm=>h (List.mem_cons_of_mem _ hm)
  have h3:([61]:List UInt8).isPrefixOf (b::r)=false:=by simp only[List.isPrefixOf,Bool.and_true,beq_eq_false_iff_ne];exact fun e=>h1 e.symm
  unfold Lib.index;rw[h3,h2];rfl
theorem zMj:∀{a:List UInt8} (b:List UInt8),61 ∉ a->Lib.index (a++61::b) [61]=(a.length:Int)
 | [],b,_=>by simp[Lib.index,List.isPrefixOf]
 | c::r,b,h=>by
  have h1:c≠61:=fun e=>h (by rw[e];exact List.mem_cons_self)
  have h2:=zMj (a:=r) b fun hm=>h (List.mem_cons_of_mem _ hm)
  have h3:([61]:List UInt8).isPrefixOf (c::(r++61::b))=false:=by simp only[List.isPrefixOf,Bool.and_true,beq_eq_false_iff_ne];exact fun e=>h1 e.symm
  rw[List.cons_append];unfold Lib.index;rw[h3,h2];have h4:(((r.length:Nat):Int)== -1)=false:=beq_false_of_ne (by omega);rw[h4];simp
theorem zFf:∀(l:List UInt8),(eqCut l=none/\61 ∉ l)\/∃a b,eqCut l=some (a,b)/\l=a++61::b/\61 ∉ a
 | []=>Or.inl ⟨rfl,by simp⟩
 | c::r=>by
  by_cases hc:c=61
  ·subst hc;exact Or.inr ⟨[],r,by simp[eqCut],rfl,by simp⟩
  ·have hn:(c !=61)=true:=by simpa using hc
   rcases zFf r with⟨h1,h2⟩ | ⟨a,b,h1,h2,h3⟩
   ·refine Or.inl ⟨?_,?_⟩
    ·unfold eqCut at h1 ⊢;rw[List.dropWhile_cons_of_pos (p:=fun x=>x !=61) hn];split at h1
     ·rfl
     ·cases h1
    ·intro hm;rcases List.mem_cons.1 hm with h | h
     ·exact hc h.symm
     ·exact h2 h
   ·refine Or.inr ⟨c::a,b,?_,by rw[h2];rfl,?_⟩
    ·unfold eqCut at h1 ⊢;rw[List.dropWhile_cons_of_pos (p:=fun x=>x !=61) hn,List.takeWhile_cons_of_pos (p:=fun x=>x !=61) hn];split at h1
     ·cases h1
     ·simp only[Option.some.injEq,Prod.mk.injEq] at h1 ⊢;exact⟨by rw[h1.1],h1.2⟩
    ·intro hm;rcases List.mem_cons.1 hm with h | h
     ·exact hc h.symm
     ·exact h3 h
theorem cut_none {l:List UInt8} (h:61 ∉ l):Lib.cut l [61]=(l,[],false):=by
 unfold Lib.cut;rw[zMu h,if_neg (by omega)]
theorem cut_some {a:List UInt8} (b:List UInt8) (h:61 ∉ a):Lib.cut (a++61::b) [61]=(a,b,true):=by
 unfold Lib.cut;rw[zMj b h,if_pos (by omega)];simp
structure Bx (w:World) (B:Nat) (x y:ByteArray):Prop where
 c0:w.cell? ⟨B,0,none⟩=some (.string x)
 c1:w.cell? ⟨B,1,none⟩=some (.string y)
 lt:B<w.heap.size
 f0:w.frozen? ⟨B,0,none⟩=false
 f1:w.frozen? ⟨B,1,none⟩=false
theorem Bx.below {w w':World} {B:Nat} {x y:ByteArray} (h:Bx w B x y) (hb:Below w.heap.size w w'):Bx w' B x y:=
 ⟨(hb.cell (p:=⟨B,0,none⟩) h.lt).trans h.c0,(hb.cell (p:=⟨B,1,none⟩) h.lt).trans h.c1,Nat.lt_of_lt_of_le h.lt hb.size,(hb.frozen (p:=⟨B,0,none⟩) h.lt).trans h.f0,(hb.frozen (p:=⟨B,1,none⟩) h.lt).trans h.f1⟩
theorem Bx.new (w:World) (x y:ByteArray) (e:TypeId):Bx (w.alloc (.cells #[.string x,.string y] e)) w.heap.size x y:=
 ⟨by rw[World.cell?_alloc_at (hn:=by simp)];rfl,by rw[World.cell?_alloc_at (hn:=by simp)];rfl,by simp,World.frozen?_alloc_at _ _ _ _ rfl,World.frozen?_alloc_at _ _ _ _ rfl⟩
theorem zQw (s:ByteArray) (hs:s.size<=1000000) (h:61 ∉ s.data.toList) (w:World) (hM:Mx w):
  Calls Tryz.prog 207 #[.string s,.string ⟨#[61]⟩] w fun e w'=>e=.returned (.tuple #[.string s,.string ⟨#[]⟩,.bool false])/\Below w.heap.size w w':=by
 obtain⟨m,hm⟩:=hM.max;have hc:=Tryz.strings_Cut s ⟨#[61]⟩ m w (by omega) hm;rw[show (⟨#[61]⟩:ByteArray).data.toList=[61] from rfl,cut_none h] at hc;refine hc.mono ?_;rintro e w' ⟨rfl,n,rfl⟩;exact⟨rfl,Below.drewN (Below.refl _ _) n⟩
theorem cutp_hit (s:ByteArray) (hs:s.size<=1000000) (a b:List UInt8) (he:s.data.toList=a++61::b) (h:61 ∉ a) (w:World) (hM:Mx w):
  Calls Tryz.prog 207 #[.string s,.string ⟨#[61]⟩] w fun e w'=>e=.returned (.tuple #[.string (txt a),.string (txt b),.bool true])/\Below w.heap.size w w':=by
 obtain⟨m,hm⟩:=hM.max;have hc:=Tryz.strings_Cut s ⟨#[61]⟩ m w (by omega) hm;rw[show (⟨#[61]⟩:ByteArray).data.toList=[61] from rfl,he,cut_some b h] at hc;refine hc.mono ?_;rintro e w' ⟨rfl,n,rfl⟩;exact⟨rfl,Below.drewN (Below.refl _ _) n⟩
structure PairPost (o:Option P2) (w:World) (e:Ending) (w':World):Prop where
 out:∃X Y,e=.returned (.tuple #[.agg #[.string X,.string Y],.bool o.isSome])/\(∀a,o=some a->X=txt a.1/\Y=txt a.2)/\Below w.heap.size w w'
theorem zSr (s:ByteArray) (hs:s.size<=1000000) (w:World) (hT:TM w):
  Calls Tryz.prog 178 #[.string s] w (PairPost (rqPairT s.data.toList) w):=by
 have hP0:=Bx.new w .empty .empty 133;have hTw:=hT.below (below1 w (.cells #[.string .empty,.string .empty] 133));rcases zFf s.data.toList with⟨hn,h61⟩ | ⟨a,b,hn,he,h61⟩
 ·have hC:=fun w hM=>zQw s hs h61 w hM
  have hr:rqPairT s.data.toList=none:=by unfold rqPairT;rw[hn];rfl
  rw[hr];clear hr hn h61;go_enter Tryz.func178,Tryz.ntmps178;go_wp2_with (go_at_call 207;fail);refine (hC _ hTw.mx).mono ?_;rintro e w1 ⟨rfl,hb1⟩;obtain⟨c0,c1,_,f0,f1⟩:=hP0.below hb1;have hc:=(below1 w (.cells #[.string .empty,.string .empty] 133)).trans (hb1.mono (by simp));clear hP0 hTw hC hb1;go_wp2
  (try simp only[Exit.inBlock,Exit.then])
  obtain⟨g0,g1⟩:=zAj c0 c1 (.string ⟨#[]⟩) (.string ⟨#[]⟩);have hbe:=(hc.setCell (p:=⟨w.heap.size,0,none⟩) (Nat.le_refl _) (.string ⟨#[]⟩)).setCell (p:=⟨w.heap.size,1,none⟩) (Nat.le_refl _) (.string ⟨#[]⟩);refine bodyPost_ret (v:=.tuple #[.agg #[.string ⟨#[]⟩,.string ⟨#[]⟩],.bool false]) ?_ rfl ⟨⟨#[]⟩,⟨#[]⟩,rfl,fun a h=>(by cases h),hbe⟩;rw[results_cell_tmp rfl];go_simp
 ·have hC:=fun w hM=>cutp_hit s hs a b he h61 w hM
  have hlen:=congrArg List.length he;rw[<-Lib.size_eq,List.length_append,List.length_cons] at hlen;have hTy:=fun w hT=>zB1 (txt a) w hT
  have hV:=fun w hT=>zR1 (txt b) (by rw[zAg];omega) w hT
  simp only[zAf] at hTy hV;have hr:rqPairT s.data.toList=(rqFrom true b).map fun v=>((typ a).1,v):=by unfold rqPairT;rw[hn];rfl
  rw[hr];clear hr hn h61 he hlen;generalize (typ a).1=n at *;generalize (typ a).2=x at *;generalize rqFrom true b=o at *;go_enter Tryz.func178,Tryz.ntmps178;go_wp2_with (go_at_call 207;fail);refine (hC _ hTw.mx).mono ?_;rintro e w1 ⟨rfl,hb1⟩;have hP1:=hP0.below hb1;have hT1:=hTw.below hb1;have hc1:=(below1 w (.cells #[.string .empty,.string .empty] 133)).trans (hb1.mono (by simp));clear hP0 hTw hC hb1;go_wp2_with (go_at_call 104;fail);refine (hTy _ hT1.tt.types).mono ?_;rintro e w2 ⟨rfl,hb2⟩;have hP2:=hP1.below hb2;have hT2:=hT1.below hb2;have hc2:=hc1.trans (hb2.mono hc1.size);clear hP1 hT1 hTy hb2 hc1;go_wp2_with (go_at_call 208;fail);refine (hV _ hT2.tt.tabs).mono ?_;rintro e w3 ⟨rfl,hb3⟩;obtain⟨c0,c1,_,f0,f1⟩:=hP2.below hb3;have hc3:=hc2.trans (hb3.mono hc2.size);clear hP2 hT2 hV hb3 hc2;go_wp2
  (try simp only[Exit.inBlock,Exit.then])
  obtain⟨g0,g1⟩:=zAj c0 c1 (.string (txt n)) (.string (txt (o.getD [])));have hbe:=(hc3.setCell (p:=⟨w.heap.size,0,none⟩) (Nat.le_refl _) (.string (txt n))).setCell (p:=⟨w.heap.size,1,none⟩) (Nat.le_refl _) (.string (txt (o.getD [])));refine bodyPost_ret (v:=.tuple #[.agg #[.string (txt n),.string (txt (o.getD []))],.bool o.isSome]) ?_ rfl ⟨txt n,txt (o.getD []),by cases o<;>rfl,fun a h=>?_,hbe⟩
  ·rw [results_cell_tmp rfl];go_simp
  ·cases o with
   | none=>cases h
   | some v=>
    obtain rfl:=Option.some.inj h;exact⟨rfl,rfl⟩
def rdPairS (l:List UInt8):Option P2:=(eqCut l).bind fun p=>if (typ p.1).2=0 then none else (rd p.2).map fun v=>((typ p.1).1,v)
theorem zRm (s A B:ByteArray) (N:Nat) (n:List UInt8) (x:Int) (o:Option (List UInt8)) (hs:s.size<=1000000) (hAt:N<s.size) (heq:s[N]'hAt=61)
  (hne:Hid (∀(i:Nat) (hi:i<s.size),i<N->((s[i].toNat:Int)==61)=false)) (hXa:s.extract 0 N=A) (hXb:s.extract (N+1) s.size=B)
  (hTy:∀w,Calls Tryz.prog 118 #[.string A] w fun e w'=>e=.returned (.tuple #[.string (txt n),.int .i64 x])/\Below w.heap.size w w')
  (hV:∀w,Calls Tryz.prog 187 #[.string B] w fun e w'=>e=.returned (.tuple #[.string (txt (o.getD [])),.bool o.isSome])/\Below w.heap.size w w') (R:Option P2) (hR:R=if x=0 then none else o.map fun v=>(n,v)) (w:World) (hT:TM w):
  Calls Tryz.prog 140 #[.string s] w (PairPost R w):=by
 have hP0:=Bx.new w ⟨#[]⟩ ⟨#[]⟩ 149;have hbw:=below1 w (.cells #[.string ⟨#[]⟩,.string ⟨#[]⟩] 149);have hTw:=hT.below hbw;have hgN:=zDm s N 61 hAt heq (N:Int) rfl;have HN:=hide hAt;replace hR:=hide hR;clear heq hAt;go_enter Tryz.func140,Tryz.ntmps140;go_wp2;generalize w.alloc (.cells #[.string ⟨#[]⟩,.string ⟨#[]⟩] 149)=w1 at *
 go_loopg [4] N (fun k s4 wx=>∃i:Nat,i+k=N/\s4=.int .i64 (i:Int)/\wx=w1)
 case atStart=>exact⟨0,by omega,rfl,rfl⟩
 case round=>
  obtain⟨i,hig,rfl,rfl⟩:=hrel;cases gk with
  | succ k=>
   have hi:i<s.size:=by have:=HN.out;omega
   have hiz:(i:Int)<(s.size:Int):=by omega
   have hc:=hne.out i hi (by omega);clear hne hgN hTy hV hXa hXb;go_wp2
   go_roundg k
   case measure=>omega
   case rel=>exact⟨i+1,by omega,by go_num,rfl⟩
  | zero=>
   obtain rfl:i=N:=by omega
   have hAt:=HN.out;have hiz:(i:Int)<(s.size:Int):=by omega
   have hin:((i:Int)==(s.size:Int))=false:=beq_false_of_ne (by omega);have hil:(i:Int)<=(s.size:Int):=by omega
   have hil2:(i:Int)+1<=(s.size:Int):=by omega
   have hT1:=hTw;have hc1:=hbw;clear hne hTw hbw hAt;go_wp2_with (go_at_call 118;fail);refine (hTy _).mono ?_;rintro e w2 ⟨rfl,hb2⟩;have hP2:=hP0.below hb2;have hc2:=hc1.trans (hb2.mono hc1.size);clear hP0 hT1 hTy hb2 hc1;go_wp2_with (go_at_call 187;fail);refine (hV _).mono ?_;rintro e w3 ⟨rfl,hb3⟩;obtain⟨c0,c1,_,f0,f1⟩:=hP2.below hb3;have hc3:=hc2.trans (hb3.mono hc2.size);clear hP2 hV hb3 hc2;by_cases hx:x=0
   ·subst hx;have hRn:Hid (R=none):=hide (by rw[hR.out,if_pos rfl]);cases o with
    | none=>
     go_wp2
     (try simp only[Exit.inBlock,Exit.then])
     obtain⟨g0,g1⟩:=zAj c0 c1 (.string (txt n)) (.string (txt []));have hbe:=(hc3.setCell (p:=⟨w.heap.size,0,none⟩) (Nat.le_refl _) (.string (txt n))).setCell (p:=⟨w.heap.size,1,none⟩) (Nat.le_refl _) (.string (txt []));refine bodyPost_ret (v:=.tuple #[.agg #[.string (txt n),.string (txt [])],.bool false]) ?_ rfl ⟨txt n,txt [],by rw[hRn.out];rfl,fun a h=>(by rw[hRn.out] at h;cases h),hbe⟩;rw[results_cell_tmp rfl];go_simp
    | some v=>
     go_wp2
     (try simp only[Exit.inBlock,Exit.then])
     obtain⟨g0,g1⟩:=zAj c0 c1 (.string (txt n)) (.string (txt v));have hbe:=(hc3.setCell (p:=⟨w.heap.size,0,none⟩) (Nat.le_refl _) (.string (txt n))).setCell (p:=⟨w.heap.size,1,none⟩) (Nat.le_refl _) (.string (txt v));refine bodyPost_ret (v:=.tuple #[.agg #[.string (txt n),.string (txt v)],.bool false]) ?_ rfl ⟨txt n,txt v,by rw[hRn.out];rfl,fun a h=>(by rw[hRn.out] at h;cases h),hbe⟩;rw[results_cell_tmp rfl];go_simp
   ·have hx0:(x==0)=false:=beq_false_of_ne hx;have hRn:Hid (R=o.map fun v=>(n,v)):=hide (by rw[hR.out,if_neg hx]);have HX:=hide hx;clear hx;cases o with
    | none=>
     go_wp2
     (try simp only[Exit.inBlock,Exit.then])
     obtain⟨g0,g1⟩:=zAj c0 c1 (.string (txt n)) (.string (txt []));have hbe:=(hc3.setCell (p:=⟨w.heap.size,0,none⟩) (Nat.le_refl _) (.string (txt n))).setCell (p:=⟨w.heap.size,1,none⟩) (Nat.le_refl _) (.string (txt []));refine bodyPost_ret (v:=.tuple #[.agg #[.string (txt n),.string (txt [])],.bool false]) ?_ rfl ⟨txt n,txt [],by rw[hRn.out];rfl,fun a h=>(by rw[hRn.out] at h;cases h),hbe⟩;rw[results_cell_tmp rfl];go_simp
    | some v=>
     go_wp2
     (try simp only[Exit.inBlock,Exit.then])
     obtain⟨g0,g1⟩:=zAj c0 c1 (.string (txt n)) (.string (txt v));have hbe:=(hc3.setCell (p:=⟨w.heap.size,0,none⟩) (Nat.le_refl _) (.string (txt n))).setCell (p:=⟨w.heap.size,1,none⟩) (Nat.le_refl _) (.string (txt v));refine bodyPost_ret (v:=.tuple #[.agg #[.string (txt n),.string (txt v)],.bool true]) ?_ rfl ⟨txt n,txt v,by rw[hRn.out];rfl,fun a h=>(by rw[hRn.out] at h;obtain rfl:=Option.some.inj h;exact⟨rfl,rfl⟩),hbe⟩;rw[results_cell_tmp rfl];go_simp;exact HX.out
theorem zRw (s:ByteArray) (hs:s.size<=1000000) (w:World) (hT:TM w):
  Calls Tryz.prog 140 #[.string s] w (PairPost (rdPairS s.data.toList) w):=by
 have hL:=Lib.size_eq s;have hP0:=Bx.new w ⟨#[]⟩ ⟨#[]⟩ 149;have hbw:=below1 w (.cells #[.string ⟨#[]⟩,.string ⟨#[]⟩] 149);have hTw:=hT.below hbw;have hat:∀(i:Nat) (hi:i<s.size),s.data.toList[i]?=some s[i]:=fun i hi=>Lib.data_getElem? s i hi
 have hex:=fun a b=>zIb s a b
 generalize hl:s.data.toList=l at *;replace hl:=hide hl;rcases zFf l with⟨hn,h61⟩ | ⟨a,b,hn,he,h61⟩
 ·have hr:rdPairS l=none:=by unfold rdPairS;rw[hn];rfl
  rw[hr];have hne:Hid (∀(i:Nat) (hi:i<s.size),((s[i].toNat:Int)==61)=false):=hide fun i hi=>by
   refine beq_false_of_ne fun e=>h61 ?_
   have e1:s[i]=61:=UInt8.toNat_inj.1 (by have:(61:UInt8).toNat=61:=rfl;omega);have:=hat i hi;rw[e1] at this;exact List.mem_of_getElem? this
  clear hr hn h61 hat hex hL;go_enter Tryz.func140,Tryz.ntmps140;go_wp2;generalize w.alloc (.cells #[.string ⟨#[]⟩,.string ⟨#[]⟩] 149)=w1 at *;obtain⟨c0,c1,_,f0,f1⟩:=hP0
  go_loopg [4] s.size (fun k s4 wx=>∃i:Nat,i+k=s.size/\s4=.int .i64 (i:Int)/\wx=w1)
  case atStart=>exact⟨0,by omega,rfl,rfl⟩
  case round=>
   obtain⟨i,hig,rfl,rfl⟩:=hrel;cases gk with
   | zero=>
    obtain rfl:i=s.size:=by omega
    have hiz:¬((s.size:Int)<(s.size:Int)):=(by omega);clear hne;go_wp2
    (try simp only[Exit.inBlock,Exit.then])
    obtain⟨g0,g1⟩:=zAj c0 c1 (.string ⟨#[]⟩) (.string ⟨#[]⟩);have hbe:=(hbw.setCell (p:=⟨w.heap.size,0,none⟩) (Nat.le_refl _) (.string ⟨#[]⟩)).setCell (p:=⟨w.heap.size,1,none⟩) (Nat.le_refl _) (.string ⟨#[]⟩);refine bodyPost_ret (v:=.tuple #[.agg #[.string ⟨#[]⟩,.string ⟨#[]⟩],.bool false]) ?_ rfl ⟨⟨#[]⟩,⟨#[]⟩,rfl,fun a h=>(by cases h),hbe⟩;rw[results_cell_tmp rfl];go_simp
   | succ k=>
    have hi:i<s.size:=(by omega);have hiz:(i:Int)<(s.size:Int):=(by omega);have hc:=hne.out i hi;clear hne;go_wp2
    go_roundg k
    case measure=>omega
    case rel=>exact⟨i+1,by omega,by go_num,rfl⟩
 ·have hlen:s.size=a.length+(b.length+1):=by
   have:=congrArg List.length he;rw[List.length_append,List.length_cons] at this;omega
  have hTy:=fun w=>zB8 (txt a) (by rw[zAg];omega) w
  have hV:=fun w=>zQh (txt b) (by rw[zAg];omega) w
  simp only[zAf] at hTy hV;have hr:rdPairS l=if (typ a).2=0 then none else (rd b).map fun v=>((typ a).1,v):=by unfold rdPairS;rw[hn];rfl
  rw[hr];obtain⟨N,hN⟩:∃N,N=a.length:=⟨_,rfl⟩;have hne:Hid (∀(i:Nat) (hi:i<s.size),i<N->((s[i].toNat:Int)==61)=false):=hide fun i hi hia=>by
   refine beq_false_of_ne fun e=>h61 ?_
   have e1:s[i]=61:=UInt8.toNat_inj.1 (by have:(61:UInt8).toNat=61:=rfl;omega);have:=hat i hi;rw[e1,he,List.getElem?_append_left (by omega)] at this;exact List.mem_of_getElem? this
  have hAt:N<s.size:=by omega
  have heq:s[N]'hAt=61:=by
   have:=hat N hAt;have e0:N-a.length=0:=by omega
   rw[he,List.getElem?_append_right (by omega),e0] at this;simp at this;exact this.symm
  have hXa:s.extract 0 N=txt a:=by rw[hex,he,hN];simp
  have hXb:s.extract (N+1) s.size=txt b:=by
   have e1:a++61::b=(a++[61])++b:=by simp
   rw[hex,he,e1,List.drop_left' (by simp[hN]),List.take_of_length_le (by omega)]
  exact zRm s (txt a) (txt b) N _ _ _ hs hAt heq hne hXa hXb hTy hV _ rfl w hT
open Classical in
noncomputable def okB (a:P2):Bool:=decide (PairOk a)
open Classical in
noncomputable def partB (l:List P2):Bool:=decide (PartOk l)
open Classical in
theorem zMf {a:P2} (h:PairOk a):okB a=true:=by unfold okB;exact decide_eq_true h
open Classical in
theorem zEb {a:P2} (h:¬PairOk a):okB a=false:=by unfold okB;exact decide_eq_false h
open Classical in
theorem zBb {l:List P2} (h:PartOk l):partB l=true:=by unfold partB;exact decide_eq_true h
open Classical in
theorem zAn {l:List P2} (h:¬PartOk l):partB l=false:=by unfold partB;exact decide_eq_false h
theorem str_eq {a b:List UInt8} (h:a=b):((txt a).toList==(txt b).toList)=true:=by rw[zAb,zAb,h];simp
theorem zBn {a b:List UInt8} (h:a≠b):((txt a).toList==(txt b).toList)=false:=by rw[zAb,zAb];simpa using h
theorem zEi {a b:List UInt8} (h:a<b):Op.bytesLess a b=true:=by rw[bytesLess_eq];exact decide_eq_true h
theorem zG6 {a b:List UInt8} (h:¬a<b):Op.bytesLess a b=false:=by rw[bytesLess_eq];exact decide_eq_false h
theorem zSo (a:P2) (h2:a.2.length<=1000000) (w:World) (hT:TT w):
  Calls Tryz.prog 211 #[.agg #[.string (txt a.1),.string (txt a.2)]] w fun e w'=>e=.returned (.bool (okB a))/\Below w.heap.size w w':=by
 have hTy:=fun w hT=>zB1 (txt a.1) w hT
 have hNo:=fun w hT=>zEt (txt a.1) (txt a.2) (by rw[zAg];omega) w hT
 simp only[zAf] at hTy hNo;have hP0:=Bx.new w (txt a.1) (txt a.2) 133;have hbw:=below1 w (.cells #[.string (txt a.1),.string (txt a.2)] 133);have hTw:=hT.below hbw;obtain⟨R,hR⟩:∃R,okB a=R:=⟨_,rfl⟩;rw[hR];by_cases hn:(typ a.1).1=a.1
 ·rw [hn] at hTy;by_cases h13:(typ a.1).2=1\/(typ a.1).2=3
  ·have hRv:Hid (R=((norm a.1 a.2).2==0)):=hide (by
    rw[<-hR]
    by_cases h0:(norm a.1 a.2).2=0
    ·rw [zMf ⟨hn,h13,h0⟩,h0];rfl
    ·rw [zEb fun h=>h0 h.val]
     exact (beq_false_of_ne h0).symm)
   generalize (typ a.1).2=x at *;generalize (norm a.1 a.2).2=y at *;generalize txt (norm a.1 a.2).1=Y at *;generalize txt a.1=U at *;generalize txt a.2=V at *;clear hR hn;rcases h13 with rfl | rfl
   all_goals
    go_enter Tryz.func211,Tryz.ntmps211;obtain⟨c0,c1,hlt,_,_⟩:=hP0;go_wp2_with (go_at_call 104;fail);refine (hTy _ hTw.types).mono ?_;rintro e w2 ⟨rfl,hb2⟩;have hc2:=hbw.trans (hb2.mono hbw.size);have d0:=(hb2.cell (p:=⟨w.heap.size,0,none⟩) hlt).trans c0;have d1:=(hb2.cell (p:=⟨w.heap.size,1,none⟩) hlt).trans c1;have hT2:=hTw.below hb2;clear hb2 c0 c1 hTy hTw hbw;go_wp2_with (go_at_call 188;fail);refine (hNo _ hT2).mono ?_;rintro e w3 ⟨rfl,hb3⟩;have hc3:=hc2.trans (hb3.mono hc2.size);clear hb3 d0 d1 hNo hT2;go_wp2;go_ret;exact⟨by rw[hRv.out];rfl,hc3⟩
  ·have hRv:Hid (R=false):=hide (by rw[<-hR];exact zEb fun h=>h13 h.syn);have e1:((typ a.1).2==1)=false:=beq_false_of_ne fun h=>h13 (Or.inl h)
   have e3:((typ a.1).2==3)=false:=beq_false_of_ne fun h=>h13 (Or.inr h)
   have n1:((typ a.1).2 !=1)=true:=by unfold bne;rw[e1];rfl
   have n3:((typ a.1).2 !=3)=true:=by unfold bne;rw[e3];rfl
   generalize (typ a.1).2=x at *;generalize txt a.1=U at *;generalize txt a.2=V at *;clear hR hn hNo h13;go_enter Tryz.func211,Tryz.ntmps211;obtain⟨c0,c1,hlt,_,_⟩:=hP0;go_wp2_with (go_at_call 104;fail);refine (hTy _ hTw.types).mono ?_;rintro e w2 ⟨rfl,hb2⟩;have hc2:=hbw.trans (hb2.mono hbw.size);have d0:=(hb2.cell (p:=⟨w.heap.size,0,none⟩) hlt).trans c0;clear hb2 c0 c1 hTy hTw hbw;go_wp2;go_ret;exact⟨by rw[hRv.out];rfl,hc2⟩
 ·have hRv:Hid (R=false):=hide (by rw[<-hR];exact zEb fun h=>hn h.name);have hne:=zBn hn;generalize (typ a.1).2=x at *;generalize txt (typ a.1).1=M at *;generalize txt a.1=U at *;generalize txt a.2=V at *;clear hR hn hNo;go_enter Tryz.func211,Tryz.ntmps211;obtain⟨c0,c1,hlt,_,_⟩:=hP0;go_wp2_with (go_at_call 104;fail);refine (hTy _ hTw.types).mono ?_;rintro e w2 ⟨rfl,hb2⟩;have hc2:=hbw.trans (hb2.mono hbw.size);have d0:=(hb2.cell (p:=⟨w.heap.size,0,none⟩) hlt).trans c0;clear hb2 c0 c1 hTy hTw hbw;go_wp2;go_ret;exact⟨by rw[hRv.out];rfl,hc2⟩
def Good (l:List P2) (i:Nat):Prop:=∀j a,j<i->l[j]?=some a->PairOk a/\(0<j->∀b,l[j-1]?=some b->b.1<a.1)
theorem Good.zero (l:List P2):Good l 0:=fun j a h=>by omega
theorem Good.more {l:List P2} {i:Nat} {a:P2} (h:Good l i) (ha:l[i]?=some a) (h1:PairOk a) (h2:0<i->∀b,l[i-1]?=some b->b.1<a.1):Good l (i+1):=by
 intro j c hj hc;by_cases he:j=i
 ·subst he;rw[ha] at hc;obtain rfl:=Option.some.inj hc;exact⟨h1,h2⟩
 ·exact h j c (by omega) hc
theorem Good.done {l:List P2} (h:Good l l.length) (h1:1<=l.length) (h3:l.length<=3):PartOk l:=
 (zIw l).2 ⟨⟨h1,h3⟩,fun i a ha=>h i a (List.getElem?_eq_some_iff.1 ha).1 ha⟩
theorem zFh {l:List P2} {i:Nat} {a:P2} (ha:l[i]?=some a) (h:¬PairOk a):¬PartOk l:=fun hp=>h (((zIw l).1 hp).2 i a ha).1
theorem zNu {l:List P2} {i:Nat} {a b:P2} (ha:l[i]?=some a) (hi:0<i) (hb:l[i-1]?=some b) (h:¬b.1<a.1):¬PartOk l:=fun hp=>h ((((zIw l).1 hp).2 i a ha).2 hi b hb)
theorem zDr (w:World) (A:Option Addr) (n c:Nat) (l:List P2) (h:Has w w.heap.size 2 A n (prs l)) (hn:n<=10000) (hs:∀a∈l,a.2.length<=1000000) (hT:TT w):
  Calls Tryz.prog 182 #[.slice A n c] w fun e w'=>e=.returned (.bool (partB l))/\Below w.heap.size w w':=by
 have hnl:=h.pairs_n;obtain⟨R,hR⟩:∃R,partB l=R:=⟨_,rfl⟩;rw[hR];replace hR:=hide hR;by_cases h13:1<=n/\n<=3
 ·obtain ⟨g,o,rfl,hg,hrd⟩:=h.reads (by rintro rfl;simp at hnl;omega);have z1:¬((n:Int)<1):=by omega
  have z3:¬((3:Int)<(n:Int)):=by omega
  have HL:=hide hnl;have HR:=hide hrd;have HS:=hide hs;clear hnl h hrd hs;go_enter Tryz.func182,Tryz.ntmps182;go_wp2
  go_loopg [15] n (fun k s15 wx=>∃i:Nat,i+k=n/\s15=.int .i64 (i:Int)/\Hid (Good l i)/\Below w.heap.size w wx)
  case atStart=>exact⟨0,by omega,rfl,hide (Good.zero l),Below.refl _ _⟩
  case round=>
   obtain⟨i,hig,rfl,hG,hbr⟩:=hrel;cases gk with
   | zero=>
    obtain rfl:i=n:=by omega
    have hiz:¬((i:Int)<(i:Int)):=by omega
    have hRt:Hid (R=true):=hide (by
     rw[<-hR.out]
     have h1:=hG.out
     have h2:=HL.out
     rw[h2] at h1
     exact zBb (h1.done (by omega) (by omega)))
    clear hG hR HL HR HS;go_wp2;go_ret;exact⟨by rw[hRt.out];rfl,hbr⟩
   | succ k=>
    have hi:i<n:=(by omega);have hiz:(i:Int)<(n:Int):=(by omega);obtain⟨a,ha⟩:∃a,l[i]?=some a:=⟨_,List.getElem?_eq_getElem (by rw[<-HL.out];exact hi)⟩;have c0:=(hbr.cell (p:=⟨g,o+i*2,none⟩) hg).trans (HR.out.fst i a ha);have c1:=(hbr.cell (p:=⟨g,o+i*2+1,none⟩) hg).trans (HR.out.snd i a ha);have hF:=fun w hT=>zSo a (HS.out a (List.mem_of_getElem? ha)) w hT
    have Ha:=hide ha;clear ha;generalize hU:txt a.1=U at *;generalize hV:txt a.2=V at *;have HU:=hide hU;clear hU hV;go_wp2_with (go_at_call 211;fail);have hba:=hbr.alloc hbr.size (.cells #[.string U,.string V] 133);have hbx:=Bx.new wr U V 133;refine (hF _ (hT.below hba)).mono ?_;rintro e w2 ⟨rfl,hb2⟩;have hb3:=hba.trans (hb2.mono hba.size);have d0:=(hbx.below hb2).c0;clear hF hba hbx hb2 c0 c1;by_cases hok:PairOk a
    ·rw [zMf hok];have Hok:=hide hok;clear hok;by_cases hi0:i=0
     ·subst hi0;have hG2:=hide (hG.out.more Ha.out Hok.out fun h=>absurd h (Nat.lt_irrefl 0));clear hG Ha Hok HL HR HS;go_wp2
      go_quiet (fail)
      go_wp2
      go_roundg k
      case measure=>omega
      case rel=>exact⟨0+1,by omega,by go_num,hG2,Below.drewN hb3 _⟩
     ·obtain ⟨j,rfl⟩:∃j,i=j+1:=⟨i-1,by omega⟩;obtain⟨b,hb⟩:∃b,l[j]?=some b:=⟨_,List.getElem?_eq_getElem (by rw[<-HL.out];omega)⟩;have d1:=(hb3.cell (p:=⟨g,o+j*2,none⟩) hg).trans (HR.out.fst j b hb);have hjn:(j:Int)<(n:Int):=by omega
      have hj0:(0:Int)<(j:Int)+1:=(by omega);by_cases hlt:b.1<a.1
      ·have hG2:=hide (hG.out.more Ha.out Hok.out fun _ b' hb'=>by
        rw[Nat.add_sub_cancel,hb] at hb'
        obtain rfl:=Option.some.inj hb'
        exact hlt)
       have hbl:Op.bytesLess (txt b.1).toList U.toList=true:=(by rw[<-HU.out,zAb,zAb];exact zEi hlt);generalize txt b.1=T at *;clear hG Ha Hok HL HR HS hlt hb;go_wp2
       go_quiet (fail)
       go_wp2
       go_roundg k
       case measure=>omega
       case rel=>exact⟨j+1+1,by omega,by go_num,hG2,Below.drewN hb3 _⟩
      ·have hRf:Hid (R=false):=hide (by
        rw[<-hR.out]
        exact zAn (zNu Ha.out (by omega) (by rw[Nat.add_sub_cancel];exact hb) hlt))
       have hbl:Op.bytesLess (txt b.1).toList U.toList=false:=(by rw[<-HU.out,zAb,zAb];exact zG6 hlt);generalize txt b.1=T at *;clear hG Ha Hok HL HR HS hlt hb;go_wp2
       go_quiet (fail)
       go_wp2;go_ret;exact⟨by rw[hRf.out];rfl,Below.drewN hb3 _⟩
    ·have hRf:Hid (R=false):=hide (by rw[<-hR.out];exact zAn (zFh Ha.out hok));rw[zEb hok];clear hG Ha HL HR HS hok;go_wp2;go_ret;exact⟨by rw[hRf.out];rfl,hb3⟩
 ·have hRf:Hid (R=false):=hide (by
   rw[<-hR.out]
   exact zAn fun hp=>h13 (by have h1:=hp.pos;have h2:=hp.le;omega))
  clear hR h hs;by_cases h1:n<1
  ·have z1:((n:Int)<1):=by omega
   go_enter Tryz.func182,Tryz.ntmps182;go_wp2;go_ret;exact⟨by rw[hRf.out];rfl,Below.refl _ _⟩
  ·have z1:¬((n:Int)<1):=by omega
   have z3:((3:Int)<(n:Int)):=by omega
   go_enter Tryz.func182,Tryz.ntmps182;go_wp2;go_ret;exact⟨by rw[hRf.out];rfl,Below.refl _ _⟩
theorem zCz (w:World) (A:Option Addr) (n c:Nat) (l:List P2) (h:Has w w.heap.size 2 A n (prs l)) (hn:n<=10000) (hs:∀a∈l,a.1.length<=1000000/\a.2.length<=1000000) (hT:TT w):
  Calls Tryz.prog 141 #[.slice A n c] w fun e w'=>e=.returned (.bool (partB l))/\Below w.heap.size w w':=by
 have hnl:=h.pairs_n;obtain⟨R,hR⟩:∃R,partB l=R:=⟨_,rfl⟩;rw[hR];replace hR:=hide hR;by_cases h13:1<=n/\n<=3
 ·obtain ⟨g,o,rfl,hg,hrd⟩:=h.reads (by rintro rfl;simp at hnl;omega);have z1:¬((n:Int)<1):=by omega
  have z3:¬((3:Int)<(n:Int)):=by omega
  have HL:=hide hnl;have HR:=hide hrd;have HS:=hide hs;clear hnl h hrd hs;go_enter Tryz.func141,Tryz.ntmps141;go_wp2
  go_loopg [18] n (fun k s18 wx=>∃i:Nat,i+k=n/\s18=.int .i64 (i:Int)/\Hid (Good l i)/\Below w.heap.size w wx)
  case atStart=>exact⟨0,by omega,rfl,hide (Good.zero l),Below.refl _ _⟩
  case round=>
   obtain⟨i,hig,rfl,hG,hbr⟩:=hrel;cases gk with
   | zero=>
    obtain rfl:i=n:=by omega
    have hiz:¬((i:Int)<(i:Int)):=by omega
    have hRt:Hid (R=true):=hide (by
     rw[<-hR.out]
     have h1:=hG.out
     have h2:=HL.out
     rw[h2] at h1
     exact zBb (h1.done (by omega) (by omega)))
    clear hG hR HL HR HS;go_wp2;go_ret;exact⟨by rw[hRt.out];rfl,hbr⟩
   | succ k=>
    have hi:i<n:=(by omega);have hiz:(i:Int)<(n:Int):=(by omega);obtain⟨a,ha⟩:∃a,l[i]?=some a:=⟨_,List.getElem?_eq_getElem (by rw[<-HL.out];exact hi)⟩;have cw0:∀W,Below w.heap.size w W->W.cell? ⟨g,o+i*2,none⟩=some (.string (txt a.1)):=fun W hW=>(hW.cell (p:=⟨g,o+i*2,none⟩) hg).trans (HR.out.fst i a ha)
    have cw1:∀W,Below w.heap.size w W->W.cell? ⟨g,o+i*2+1,none⟩=some (.string (txt a.2)):=fun W hW=>(hW.cell (p:=⟨g,o+i*2+1,none⟩) hg).trans (HR.out.snd i a ha)
    have hTy:=fun w=>zB8 (txt a.1) (by rw[zAg];have:=(HS.out a (List.mem_of_getElem? ha)).1;omega) w
    have hNo:=fun w hT=>zDw (txt a.1) (txt a.2) (by rw[zAg];have:=(HS.out a (List.mem_of_getElem? ha)).1;omega) (by rw[zAg];have:=(HS.out a (List.mem_of_getElem? ha)).2;omega) w hT
    simp only[zAf] at hTy hNo;have Ha:=hide ha;clear ha;obtain⟨y,hy⟩:∃y,(norm a.1 a.2).2=y:=⟨_,rfl⟩;obtain⟨x,hx⟩:∃x,(typ a.1).2=x:=⟨_,rfl⟩;obtain⟨M,hM⟩:∃M,txt (typ a.1).1=M:=⟨_,rfl⟩;obtain⟨U,hU⟩:∃U,txt a.1=U:=⟨_,rfl⟩;rw[hU] at cw0;rw[hy,hU] at hNo;rw[hx,hM,hU] at hTy;generalize txt a.2=V at *;generalize txt (norm a.1 a.2).1=Y at *;replace hy:=hide hy;replace hx:=hide hx;replace hM:=hide hM;replace hU:=hide hU;have c0:=cw0 _ hbr;go_wp2_with (go_at_call 118;fail);refine (hTy _).mono ?_;rintro e w2 ⟨rfl,hb2'⟩;have hb2:=hbr.trans (hb2'.mono hbr.size);clear hTy hb2' c0 hbr;go_wp2_with fail;refine zAk w.heap.size (by kernel_rfl) ?_;have hbr2:Below w.heap.size w w2.drew:=hb2.trans ((Below.refl _ _).drew);generalize w2.drew=w3 at *;refine yTk 0 (some 31) ?_;simp only[pUz];refine yTk 1 (some 32) ?_;simp only[pUz];refine yTk 2 (some 33) ?_;simp only[pUz];refine yTk 3 (some 34) ?_;simp only[pUz];refine zAa 4 (some 35) (v:=?va4) rfl rfl (by kernel_rfl) rfl (by rfl) (fun W hW=>?ya4) ?_
    case ya4=>have h1:=cw0 W (hbr2.trans hW);go_simp<;>with_reducible rfl
    simp only[pUz];refine yTk 5 (some 36) ?_;simp only[pUz];refine yTk 6 (some 37) ?_;simp only[pUz];refine yTk 7 (some 38) ?_;simp only[pUz];refine yTk 8 (some 39) ?_;simp only[pUz];refine zAa 9 (some 40) (v:=?va9) rfl rfl (by kernel_rfl) rfl (by rfl) (fun W hW=>?ya9) ?_
    case ya9=>have h1:=cw1 W (hbr2.trans hW);go_simp<;>with_reducible rfl
    simp only[pUz];refine zAe 10 rfl (by kernel_rfl) (fun K hK=>?_);go_simp;have hT3:=hT.below hbr2;refine (hNo _ hT3).mono ?_;rintro e w4 ⟨rfl,hb4⟩;have hb4m:=hb4.mono hbr2.size;have hbr4:=hbr2.trans hb4m;refine hK.out _ _ hb4m ?_;clear hK K hb4 hb4m hT3;(try simp only[pUz]);refine yTk 11 (some 30) ?_;simp only[pUz];refine yTk 12 (some 42) ?_;simp only[pUz];refine yTk 13 (some 43) ?_;simp only[pUz];refine yTk 14 (some 6) ?_;simp only[pUz];refine yTk 15 (some 7) ?_;simp only[pUz];refine zAi (by kernel_rfl) ?_ _;have c0:=cw0 _ hbr4;by_cases hn1:(typ a.1).1=a.1
    ·have hMU:M=U:=by rw[<-hM.out,<-hU.out,hn1]
     subst hMU;by_cases h13x:x=1\/x=3
     ·by_cases hy0:y=0
      ·subst hy0;have Hok:=hide (PairOk.mk hn1 (by rw[hx.out];exact h13x) hy.out);clear hn1 hM hx hy;by_cases hi0:i=0
       ·subst hi0;have c00:w4.cell? ⟨g,o,none⟩=some (.string M):=by simpa using c0
        clear c0;have hG2:=hide (hG.out.more Ha.out Hok.out fun h=>absurd h (Nat.lt_irrefl 0));clear hG Ha Hok HL HR HS hU cw0;rcases h13x with rfl | rfl
        ·clear cw1 hNo;go_wp2
         go_roundg k
         case measure=>omega
         case rel=>exact⟨0+1,by omega,by go_num,hG2,hbr4⟩
        ·clear cw1 hNo;go_wp2
         go_roundg k
         case measure=>omega
         case rel=>exact⟨0+1,by omega,by go_num,hG2,hbr4⟩
       ·obtain ⟨j,rfl⟩:∃j,i=j+1:=⟨i-1,by omega⟩;obtain⟨b,hb⟩:∃b,l[j]?=some b:=⟨_,List.getElem?_eq_getElem (by rw[<-HL.out];omega)⟩;have d1:=(hbr4.cell (p:=⟨g,o+j*2,none⟩) hg).trans (HR.out.fst j b hb);have hjn:(j:Int)<(n:Int):=by omega
        have hj0:(0:Int)<(j:Int)+1:=(by omega);by_cases hlt:b.1<a.1
        ·have hG2:=hide (hG.out.more Ha.out Hok.out fun _ b' hb'=>by
          rw[Nat.add_sub_cancel,hb] at hb'
          obtain rfl:=Option.some.inj hb'
          exact hlt)
         have hbl:Op.bytesLess (txt b.1).toList M.toList=true:=(by rw[<-hU.out,zAb,zAb];exact zEi hlt);generalize txt b.1=T at *;clear hG Ha Hok HL HR HS hlt hb hU cw0;rcases h13x with rfl | rfl
         ·clear cw1 hNo;go_wp2
          go_roundg k
          case measure=>omega
          case rel=>exact⟨j+1+1,by omega,by go_num,hG2,hbr4⟩
         ·clear cw1 hNo;go_wp2
          go_roundg k
          case measure=>omega
          case rel=>exact⟨j+1+1,by omega,by go_num,hG2,hbr4⟩
        ·have hRf:Hid (R=false):=hide (by
          rw[<-hR.out]
          exact zAn (zNu Ha.out (by omega) (by rw[Nat.add_sub_cancel];exact hb) hlt))
         have hbl:Op.bytesLess (txt b.1).toList M.toList=false:=(by rw[<-hU.out,zAb,zAb];exact zG6 hlt);generalize txt b.1=T at *;clear hG Ha Hok HL HR HS hlt hb hU cw0;rcases h13x with rfl | rfl
         ·clear cw1 hNo;go_wp2;go_ret;exact⟨by rw[hRf.out];rfl,hbr4⟩
         ·clear cw1 hNo;go_wp2;go_ret;exact⟨by rw[hRf.out];rfl,hbr4⟩
      ·have hRf:Hid (R=false):=hide (by rw[<-hR.out];exact zAn (zFh Ha.out fun h=>hy0 (hy.out.symm.trans h.val)));have hy1:(y==0)=false:=beq_false_of_ne hy0;have hy2:(y !=0)=true:=by unfold bne;rw[hy1];rfl
       clear hG Ha HL HR HS hn1 hM hx hy hU cw0;rcases h13x with rfl | rfl
       ·clear cw1 hNo;go_wp2;go_ret;exact⟨by rw[hRf.out];rfl,hbr4⟩
       ·clear cw1 hNo;go_wp2;go_ret;exact⟨by rw[hRf.out];rfl,hbr4⟩
     ·have hRf:Hid (R=false):=hide (by rw[<-hR.out];exact zAn (zFh Ha.out fun h=>h13x (by have:=h.syn;rw[hx.out] at this;exact this)));have e1:(x==1)=false:=beq_false_of_ne fun h=>h13x (Or.inl h)
      have e3:(x==3)=false:=beq_false_of_ne fun h=>h13x (Or.inr h)
      have n1:(x !=1)=true:=(by unfold bne;rw[e1];rfl);have n3:(x !=3)=true:=(by unfold bne;rw[e3];rfl);clear hG Ha HL HR HS hn1 hM hx hy h13x hU cw0;clear cw1 hNo;go_wp2;go_ret;exact⟨by rw[hRf.out];rfl,hbr4⟩
    ·have hRf:Hid (R=false):=hide (by rw[<-hR.out];exact zAn (zFh Ha.out fun h=>hn1 h.name));have hne:(M.toList==U.toList)=false:=by rw[<-hM.out,<-hU.out];exact zBn hn1
     clear hG Ha HL HR HS hn1 hM hx hy hU cw0;clear cw1 hNo;go_wp2;go_ret;exact⟨by rw[hRf.out];rfl,hbr4⟩
 ·have hRf:Hid (R=false):=hide (by
   rw[<-hR.out]
   exact zAn fun hp=>h13 (by have h1:=hp.pos;have h2:=hp.le;omega))
  clear hR h hs;by_cases h1:n<1
  ·have z1:((n:Int)<1):=by omega
   go_enter Tryz.func141,Tryz.ntmps141;go_wp2;go_ret;exact⟨by rw[hRf.out];rfl,Below.refl _ _⟩
  ·have z1:¬((n:Int)<1):=by omega
   have z3:((3:Int)<(n:Int)):=by omega
   go_enter Tryz.func141,Tryz.ntmps141;go_wp2;go_ret;exact⟨by rw[hRf.out];rfl,Below.refl _ _⟩
theorem zH9:∀(l:List P2) (a:P2),prP (l++[a])=if l=[] then onePr a else prP l++43::onePr a
 | [],a=>rfl
 | [b],a=>by simp[prP]
 | b::c::r,a=>by
  have ih:=zH9 (c::r) a;rw[if_neg (by simp)] at ih ⊢;rw[List.cons_append,List.cons_append,prP,<-List.cons_append,ih,prP];simp
theorem zKa {a:P2} (h:PairOk a):(onePr a).length<=700:=by
 have:=h.small;have:=zNk a.2;unfold onePr;rw[List.length_append,List.length_cons];omega
theorem zIf:∀(l:List P2),(∀a∈l,PairOk a)->(prP l).length<=701*l.length
 | [],_=>by simp[prP]
 | [a],h=>by have:=zKa (h a (by simp));simp only[prP,List.length_singleton];omega
 | a::b::r,h=>by
  have h1:=zKa (h a (by simp));have h2:=zIf (b::r) fun c hc=>h c (by simp only[List.mem_cons] at hc ⊢;exact Or.inr hc)
  rw[prP,List.length_append,List.length_cons,List.length_cons];omega
structure BoxAt (w:World) (k:Nat) (U V:ByteArray):Prop where
 heap:w.heap[k]?=some (.cells #[.string U,.string V] 133)
 lt:k<w.heap.size
theorem BoxAt.new (w:World) (U V:ByteArray):BoxAt (w.alloc (.cells #[.string U,.string V] 133)) w.heap.size U V:=
 ⟨heap_alloc_new w _,by simp⟩
theorem BoxAt.old {w:World} {k:Nat} {U V:ByteArray} (h:BoxAt w k U V) (o:Obj):BoxAt (w.alloc o) k U V:=
 ⟨(heap_alloc_old w o h.lt).trans h.heap,by have:=h.lt;simp;omega⟩
theorem BoxAt.grown {w w':World} {k base n:Nat} {v:Value} {xs:List Value} {U V:ByteArray} (h:BoxAt w k U V) (hown:w.ownsRow base 5 1 v n xs) (hg:w.grownBy w' v.ownBlock):BoxAt w' k U V:=by
 have hne:v.ownBlock≠some k:=by
  intro e;rcases hown.2 with⟨rfl,_⟩ | ⟨g,cap,cur,rfl,_,hh,_⟩
  ·cases e
  ·have:g=k:=by simpa[Value.ownBlock] using e
   subst this;rw[h.heap] at hh;have:=Option.some.inj hh;simp at this
 exact⟨(hg.block k h.lt (fun e=>hne e.symm)).trans h.heap,Nat.lt_of_lt_of_le h.lt hg.size⟩
theorem BoxAt.c0 {w:World} {k:Nat} {U V:ByteArray} (h:BoxAt w k U V):w.cell? ⟨k,0,none⟩=some (.string U):=by simp[World.cell?,h.heap]
theorem BoxAt.c1 {w:World} {k:Nat} {U V:ByteArray} (h:BoxAt w k U V):w.cell? ⟨k,1,none⟩=some (.string V):=by simp[World.cell?,h.heap]
theorem str_bys (s:ByteArray):Lib.strCells s=bys s.data.toList:=by simp[Lib.strCells,bys,c8]
theorem app8g {ops:Array Oper} {rest:List Oper} {o:Oper} {a:Act} {Q:Exit->Act->World->Prop} (W:World) (hgd:o.guard=none) (s x:Operand)
  (ho:o.op=.call { callee:=.builtin .append,args:=#[s,x],argTypes:=#[160,160] })
  (base:Nat) (v:Value) (n:Nat) (xs:List UInt8) (hs:a.eval s=v) (hown:W.ownsRow base 5 1 v n (bys xs))
  (B:Nat) (A:Option Addr) (m c:Nat) (l:List UInt8) (hx:a.eval x=.slice A m c) (hr:Has W B 1 A m (bys l)) (ys:List UInt8) (hys:Hid (xs++l=ys)) (hlen:Hid (n+m=ys.length))
  (hb:n+m<=140737488355328) (hbase:base<=W.heap.size)
  (h:∀v' w',w'.ownsRow base 5 1 v' ys.length (bys ys)->Below base W w'->W.grownBy w' v.ownBlock->wpList Tryz.prog ops Q rest (a.put o.dst v') w'):
  wpList Tryz.prog ops Q (o::rest) a W:=by
 obtain⟨i0,hi,hz0,hz1,hz2⟩:=info_parts info8;refine zCc W hgd s x 160 ho base 5 i0 _ 1 1 Tryz.underlying160 hi hz0 hz1 hz2 rfl (by omega) v n (bys xs) hs hown B A m c (bys l) hx hr (zKv _) (by unfold maxLen;omega) (by omega) hbase ?_;intro v' w' h1 h2 h3;rw[<-zC9,hys.out,hlen.out] at h1;exact h v' w' h1 (zA0 hown h2 hbase) h2
theorem app8s {ops:Array Oper} {rest:List Oper} {o:Oper} {a:Act} {Q:Exit->Act->World->Prop} (W:World) (hgd:o.guard=none) (s x:Operand)
  (ho:o.op=.call { callee:=.builtin .append,args:=#[s,x],argTypes:=#[160,9] })
  (base:Nat) (v:Value) (n:Nat) (xs:List UInt8) (hs:a.eval s=v) (hown:W.ownsRow base 5 1 v n (bys xs)) (t:ByteArray) (hx:a.eval x=.string t) (ys:List UInt8) (hys:Hid (xs++t.data.toList=ys)) (hlen:Hid (n+t.size=ys.length))
  (hb:n+t.size<=140737488355328) (hbase:base<=W.heap.size)
  (h:∀v' w',w'.ownsRow base 5 1 v' ys.length (bys ys)->Below base W w'->W.grownBy w' v.ownBlock->wpList Tryz.prog ops Q rest (a.put o.dst v') w'):
  wpList Tryz.prog ops Q (o::rest) a W:=by
 obtain⟨i0,hi,hz0,hz1,hz2⟩:=info_parts info8;refine Lib.wpList_append_own_string W hgd s x 160 9 ho base 5 i0 Tryz.underlying160 Tryz.underlying9 hi hz0 hz1 hz2 v n (bys xs) hs hown t hx (by unfold maxLen;omega) hb hbase ?_;intro v' w' h1 h2 _;rw[str_bys,<-zC9,hys.out,hlen.out] at h1;exact h v' w' h1 (zA0 hown h2 hbase) h2
open Classical in
noncomputable def printV (l:List P2):List UInt8 × Int:=if PartOk l then (prP l,0) else ([],1)
open Classical in
theorem zIa {l:List P2} (h:PartOk l):printV l=(prP l,0):=by unfold printV;rw[if_pos h]
open Classical in
theorem prV_no {l:List P2} (h:¬PartOk l):printV l=([],1):=by unfold printV;rw[if_neg h]
theorem zOg (w:World) (A:Option Addr) (n c:Nat) (l:List P2) (h:Has w w.heap.size 2 A n (prs l)) (hn:n<=10000) (hs:∀a∈l,a.2.length<=1000000) (hT:TT w):
  Calls Tryz.prog 169 #[.slice A n c] w fun e w'=>e=.returned (.tuple #[.string (txt (printV l).1),.int .i64 (printV l).2])/\Below w.heap.size w w':=by
 have hF:=zDr w A n c l h hn hs hT;by_cases hp:PartOk l
 ·rw [zIa hp];rw[zBb hp] at hF;have hnl:=h.pairs_n;obtain⟨g,o,rfl,hg,hrd⟩:=h.reads (by rintro rfl;have:=hp.pos;simp at this);obtain⟨RV,hRV⟩:∃RV,txt (prP l)=RV:=⟨_,rfl⟩;simp only[hRV];have HRV:=hide hRV;have HL:=hide hnl;have HR:=hide hrd;have HP:=hide hp;have hn3:n<=3:=by have:=hp.le;omega
  clear hnl h hrd hs hp hT hRV;go_enter Tryz.func169,Tryz.ntmps169;go_wp2_with (go_at_call 182;fail);refine hF.mono ?_;rintro e w0 ⟨rfl,hb0⟩;clear hF;go_wp2
  go_loopg [4,12] n (fun k s4 s12 wx=>∃i:Nat,i+k=n/\s12=.int .i64 (i:Int)/\wx.ownsRow w.heap.size 5 1 s4 (prP (l.take i)).length (bys (prP (l.take i)))/\Below w.heap.size w wx)
  case atStart=>exact⟨0,by omega,rfl,by simpa[prP,bys] using nil_own _ _ _ _,hb0⟩
  case round=>
   obtain⟨i,hig,rfl,hor,hbr⟩:=hrel;clear hb0;cases gk with
   | zero=>
    obtain rfl:i=n:=by omega
    have hiz:¬((i:Int)<(i:Int)):=(by omega);have hl:l.take i=l:=List.take_of_length_le (by rw[HL.out];exact Nat.le_refl _);rw[hl] at hor;obtain⟨A,c,rfl,hnc,hHas⟩:=zAh hor;have htx:=txt8 wr c hHas;rw[HRV.out] at htx;clear hHas hor hl HL HR HP;go_wp2;go_ret2;exact⟨rfl,hbr⟩
   | succ k=>
    have hi:i<n:=(by omega);have hiz:(i:Int)<(n:Int):=(by omega);obtain⟨a,ha⟩:∃a,l[i]?=some a:=⟨_,List.getElem?_eq_getElem (by rw[<-HL.out];exact hi)⟩;have c0:=(hbr.cell (p:=⟨g,o+i*2,none⟩) hg).trans (HR.out.fst i a ha);have c1:=(hbr.cell (p:=⟨g,o+i*2+1,none⟩) hg).trans (HR.out.snd i a ha);have hok:=HP.out.each a (List.mem_of_getElem? ha);have hsm:=hok.small;have hpl:=zIf (l.take i) fun b hb=>HP.out.each b (List.mem_of_mem_take hb)
    have htl:(l.take i).length<=3:=(by rw[List.length_take];omega);have htk:l.take (i+1)=l.take i++[a]:=by rw[List.take_add_one,ha];rfl
    have hnext:Hid (prP (l.take (i+1))=(if i=0 then [] else prP (l.take i)++[43])++a.1++[61]++wrV a.2):=hide (by
     rw[htk,zH9]
     by_cases h0:i=0
     ·subst h0
      simp[onePr]
     ·have hne:l.take i≠[]:=by
       intro h
       have:=congrArg List.length h
       rw[List.length_take] at this
       have h2:=HL.out
       simp only[List.length_nil] at this
       omega
      rw[if_neg hne,if_neg h0]
      simp[onePr])
    have hV:=fun v0 p hp w base hbase hown=>zPg (txt a.2) (by rw[zAg];omega) v0 p hp w base hbase hown
    simp only[zAf] at hV;have hUs:(txt a.1).size<=20:=by rw[zAg];exact hsm.1
    have hUd:(txt a.1).data.toList=a.1:=zAf _;have hP0:Hid ((prP (l.take i)).length<=2103):=hide (by omega);generalize hU:txt a.1=U at *;generalize hVV:txt a.2=V at *;generalize wrV a.2=Z at *;have HUd:=hide hUd;clear ha hok hsm htl htk hU hVV hUd hpl;have hor1:=hor.alloc (.cells #[.string U,.string V] 133);have hbr1:=hbr.alloc hbr.size (.cells #[.string U,.string V] 133);have hbx1:=BoxAt.new wr U V;have hs1:=hbr1.size;obtain⟨w1,hw1⟩:∃w1,wr.alloc (.cells #[.string U,.string V] 133)=w1:=⟨_,rfl⟩;rw[hw1] at hor1 hbr1 hbx1 hs1;clear hor hbr;by_cases hi0:i=0
    ·subst hi0;have hz:¬((0:Int)<((0:Nat):Int)):=by omega
     rw[if_pos rfl] at hnext;have hnx:Hid (prP (l.take (0+1))=U.data.toList++[61]++Z):=hide (by rw[HUd.out];have:=hnext.out;simpa using this);have e0:prP (l.take 0)=[]:=by simp[prP]
     rw[e0] at hor1;have c00:wr.cell? ⟨g,o,none⟩=some (.string U):=by simpa using c0
     have c01:wr.cell? ⟨g,o+1,none⟩=some (.string V):=(by simpa using c1);clear hnext HR HL HP HRV e0 c0 c1 hP0;obtain⟨q,hq⟩:∃q,prP (l.take (0+1))=q:=⟨_,rfl⟩;rw[hq] at hnx;replace hq:=hide hq;obtain⟨p3,hp3'⟩:∃p3,[]++U.data.toList=p3:=⟨_,rfl⟩;obtain⟨p4,hp4'⟩:∃p4,p3++[61]=p4:=⟨_,rfl⟩;have e3:=congrArg List.length hp3';have e4:=congrArg List.length hp4';rw[List.length_append,<-Lib.size_eq] at e3;rw[List.length_append] at e4;have l3:Hid (0+U.size=p3.length):=hide (by simpa using e3);have l4:Hid (p3.length+1=p4.length):=hide (by rw[<-e4];rfl);have k4:Hid (p4.length<=2200):=hide (by have:=e3;have:=e4;simp only[List.length_nil,List.length_singleton] at *;omega);have k3:p3.length<=2200:=by have:=e3;simp only[List.length_nil] at *;omega
     have hp3:=hide hp3';have hp4:=hide hp4';have hq7:Hid (p4++Z=q):=hide (by rw[hnx.out,<-hp4',<-hp3'];rfl);clear hp3' hp4' e3 e4 hnx;have hor3:w1.ownsRow w.heap.size 5 1 u4 0 (bys []):=hor1;have hbr3:=hbr1;have hbx3:=hbx1;have hs3:=hbr3.size;have d0:=hbx3.c0;clear hor1 hbr1 hbx1 hs1;go_wp2_with (at_builtin;go_must (refine app8s _ rfl (.tmp 22) (.tmp 24) rfl w.heap.size _ _ [] rfl hor3 U rfl p3 hp3 l3 (by omega) hs3 ?_));intro v4 w4 hor4 hb4 hg4;have hbr4:=hbr3.trans hb4;have hbx4:=hbx3.grown hor3 hg4;have hs4:=hbr4.size;clear hor3 hbr3 hbx3 hs3 hb4 hg4 d0;have hone:(w4.alloc (.cells #[.int .u8 61] 5)).ownsRow w4.heap.size 5 1 (.slice (some ⟨w4.heap.size,0,none⟩) 1 1) 1 (bys [61]):=one8 w4 61;have hH:=Has.own hone;have hor5:=hor4.alloc (.cells #[.int .u8 61] 5);have hbr5:=hbr4.alloc hs4 (.cells #[.int .u8 61] 5);have hbx5:=hbx4.old (.cells #[.int .u8 61] 5);have hs5:=hbr5.size;clear hone hor4 hbr4 hbx4 hs4;go_wp2_with (at_builtin;go_must (refine app8g _ rfl (.tmp 26) (.tmp 27) rfl w.heap.size _ _ p3 rfl hor5 _ _ 1 1 [61] rfl hH p4 hp4 l4 (by omega) hs5 ?_));intro v6 w6 hor6 hb6 hg6;have hbr6:=hbr5.trans hb6;have hbx6:=hbx5.grown hor5 hg6;have hs6:=hbr6.size;have d1:=hbx6.c1;clear hor5 hbr5 hbx5 hs5 hH hb6 hg6;go_wp2_with (go_at_call 200;fail);refine (hV _ p4 (by have:=k4.out;omega) _ _ hs6 hor6).mono ?_;rintro e w7 ⟨v7,rfl,hor7,hb7⟩;have hbr7:=hbr6.trans hb7;rw[hq7.out] at hor7;clear hor6 hbr6 hbx6 hs6 hb7 d1 hV;go_wp2
     go_roundg k
     case measure=>omega
     case rel=>exact⟨0+1,by omega,by go_num,by rw[hq.out];exact hor7,hbr7⟩
    ·have hz:((0:Int)<(i:Int)):=by omega
     have hnx:Hid (prP (l.take (i+1))=prP (l.take i)++[43]++U.data.toList++[61]++Z):=hide (by rw[HUd.out];have:=hnext.out;rwa [if_neg hi0] at this);clear hnext hi0 HR HL HP HRV;generalize prP (l.take i)=p at *;obtain⟨q,hq⟩:∃q,prP (l.take (i+1))=q:=⟨_,rfl⟩;rw[hq] at hnx;replace hq:=hide hq;obtain⟨p2,hp2'⟩:∃p2,p++[43]=p2:=⟨_,rfl⟩;have e2:=congrArg List.length hp2';rw[List.length_append] at e2;have l2:Hid (p.length+1=p2.length):=hide (by rw[<-e2];rfl);have k2:p2.length<=2104:=by have:=hP0.out;have:=l2.out;omega
     have hp2:=hide hp2';obtain⟨p3,hp3'⟩:∃p3,p2++U.data.toList=p3:=⟨_,rfl⟩;obtain⟨p4,hp4'⟩:∃p4,p3++[61]=p4:=⟨_,rfl⟩;have e3:=congrArg List.length hp3';have e4:=congrArg List.length hp4';rw[List.length_append,<-Lib.size_eq] at e3;rw[List.length_append] at e4;have l3:Hid (p2.length+U.size=p3.length):=hide (by exact e3);have l4:Hid (p3.length+1=p4.length):=hide (by rw[<-e4];rfl);have k4:Hid (p4.length<=2200):=hide (by have:=e3;have:=e4;simp only[List.length_singleton] at *;omega);have k3:p3.length<=2200:=by omega
     have hp3:=hide hp3';have hp4:=hide hp4';have hq7:Hid (p4++Z=q):=hide (by rw[hnx.out,<-hp4',<-hp3',<-hp2']);clear hp3' hp4' e3 e4 hnx hp2' e2;have hone:(w1.alloc (.cells #[.int .u8 43] 5)).ownsRow w1.heap.size 5 1 (.slice (some ⟨w1.heap.size,0,none⟩) 1 1) 1 (bys [43]):=one8 w1 43;have hH:=Has.own hone;have hor2:=hor1.alloc (.cells #[.int .u8 43] 5);have hbr2:=hbr1.alloc hs1 (.cells #[.int .u8 43] 5);have hbx2:=hbx1.old (.cells #[.int .u8 43] 5);have hs2:=hbr2.size;clear hone hor1 hbr1 hbx1 hs1;go_wp2_with (at_builtin;go_must (refine app8g _ rfl (.tmp 19) (.tmp 20) rfl w.heap.size _ _ p rfl hor2 _ _ 1 1 [43] rfl hH p2 hp2 l2 (by have:=hP0.out;omega) hs2 ?_));intro v3 w3 hor3 hb3 hg3;have hbr3:=hbr2.trans hb3;have hbx3:=hbx2.grown hor2 hg3;have hs3:=hbr3.size;have d0:=hbx3.c0;clear hor2 hbr2 hbx2 hs2 hH hb3 hg3 c0 c1 hw1;go_wp2_with (at_builtin;go_must (refine app8s _ rfl (.tmp 22) (.tmp 24) rfl w.heap.size _ _ p2 rfl hor3 U rfl p3 hp3 l3 (by have:=hP0.out;omega) hs3 ?_));intro v4 w4 hor4 hb4 hg4;have hbr4:=hbr3.trans hb4;have hbx4:=hbx3.grown hor3 hg4;have hs4:=hbr4.size;clear hor3 hbr3 hbx3 hs3 hb4 hg4 d0;have hone:(w4.alloc (.cells #[.int .u8 61] 5)).ownsRow w4.heap.size 5 1 (.slice (some ⟨w4.heap.size,0,none⟩) 1 1) 1 (bys [61]):=one8 w4 61;have hH:=Has.own hone;have hor5:=hor4.alloc (.cells #[.int .u8 61] 5);have hbr5:=hbr4.alloc hs4 (.cells #[.int .u8 61] 5);have hbx5:=hbx4.old (.cells #[.int .u8 61] 5);have hs5:=hbr5.size;clear hone hor4 hbr4 hbx4 hs4;go_wp2_with (at_builtin;go_must (refine app8g _ rfl (.tmp 26) (.tmp 27) rfl w.heap.size _ _ p3 rfl hor5 _ _ 1 1 [61] rfl hH p4 hp4 l4 (by have:=hP0.out;omega) hs5 ?_));intro v6 w6 hor6 hb6 hg6;have hbr6:=hbr5.trans hb6;have hbx6:=hbx5.grown hor5 hg6;have hs6:=hbr6.size;have d1:=hbx6.c1;clear hor5 hbr5 hbx5 hs5 hH hb6 hg6;go_wp2_with (go_at_call 200;fail);refine (hV _ p4 (by have:=k4.out;omega) _ _ hs6 hor6).mono ?_;rintro e w7 ⟨v7,rfl,hor7,hb7⟩;have hbr7:=hbr6.trans hb7;rw[hq7.out] at hor7;clear hor6 hbr6 hbx6 hs6 hb7 d1 hV;go_wp2
     go_roundg k
     case measure=>omega
     case rel=>exact⟨i+1,by omega,by go_num,by rw[hq.out];exact hor7,hbr7⟩
 ·rw [prV_no hp];rw[zAn hp] at hF;clear h hs hp hT;go_enter Tryz.func169,Tryz.ntmps169;go_wp2_with (go_at_call 182;fail);refine hF.mono ?_;rintro e w0 ⟨rfl,hb0⟩;clear hF;go_wp2;go_ret2;exact⟨rfl,hb0⟩
theorem zPd (w:World) (A:Option Addr) (n c:Nat) (l:List P2) (h:Has w w.heap.size 2 A n (prs l)) (hn:n<=10000) (hs:∀a∈l,a.1.length<=1000000/\a.2.length<=1000000) (hT:TT w):
  Calls Tryz.prog 122 #[.slice A n c] w fun e w'=>e=.returned (.tuple #[.string (txt (printV l).1),.int .i64 (printV l).2])/\Below w.heap.size w w':=by
 have hF:=zCz w A n c l h hn hs hT;by_cases hp:PartOk l
 ·rw [zIa hp];rw[zBb hp] at hF;have hnl:=h.pairs_n;obtain⟨g,o,rfl,hg,hrd⟩:=h.reads (by rintro rfl;have:=hp.pos;simp at this);obtain⟨RV,hRV⟩:∃RV,txt (prP l)=RV:=⟨_,rfl⟩;simp only[hRV];have HRV:=hide hRV;have HL:=hide hnl;have HR:=hide hrd;have HP:=hide hp;have hn3:n<=3:=by have:=hp.le;omega
  clear hnl h hrd hs hp hT hRV;go_enter Tryz.func122,Tryz.ntmps122;go_wp2_with (go_at_call 141;fail);refine hF.mono ?_;rintro e w0 ⟨rfl,hb0⟩;clear hF;go_wp2
  go_loopg [4,11] n (fun k s4 s11 wx=>∃(i:Nat) (S:ByteArray),i+k=n/\s4=.string S/\s11=.int .i64 (i:Int)/\Hid (S=txt (prP (l.take i)))/\S.size<=2103/\Below w.heap.size w wx)
  case atStart=>exact⟨0,⟨#[]⟩,by omega,rfl,rfl,hide (by simp[prP,txt]),by decide,hb0⟩
  case round=>
   obtain⟨i,S,hig,rfl,rfl,hS,hSz,hbr⟩:=hrel;clear hb0;cases gk with
   | zero=>
    obtain rfl:i=n:=by omega
    have hiz:¬((i:Int)<(i:Int)):=(by omega);have hSR:Hid (S=RV):=hide (by rw[hS.out,<-HRV.out,List.take_of_length_le (by rw[HL.out];exact Nat.le_refl _)]);clear hS HL HR HP HRV;go_wp2;go_ret2;exact⟨by rw[<-hSR.out];rfl,hbr⟩
   | succ k=>
    have hi:i<n:=(by omega);have hiz:(i:Int)<(n:Int):=(by omega);obtain⟨a,ha⟩:∃a,l[i]?=some a:=⟨_,List.getElem?_eq_getElem (by rw[<-HL.out];exact hi)⟩;have cw0:∀W,Below w.heap.size w W->W.cell? ⟨g,o+i*2,none⟩=some (.string (txt a.1)):=fun W hW=>(hW.cell (p:=⟨g,o+i*2,none⟩) hg).trans (HR.out.fst i a ha)
    have cw1:∀W,Below w.heap.size w W->W.cell? ⟨g,o+i*2+1,none⟩=some (.string (txt a.2)):=fun W hW=>(hW.cell (p:=⟨g,o+i*2+1,none⟩) hg).trans (HR.out.snd i a ha)
    have hok:=HP.out.each a (List.mem_of_getElem? ha);have hsm:=hok.small;have htl:(l.take (i+1)).length<=3:=by rw[List.length_take];omega
    have hpl:=zIf (l.take (i+1)) fun b hb=>HP.out.each b (List.mem_of_mem_take hb)
    have htk:l.take (i+1)=l.take i++[a]:=(by rw[List.take_add_one,ha];rfl);have hzl:(wrV a.2).length<=600:=by have:=zNk a.2;omega
    have hnext:Hid (txt (prP (l.take (i+1)))=(if i=0 then S else S++⟨#[43]⟩)++txt a.1++⟨#[61]⟩++txt (wrV a.2)):=hide (by
     rw[hS.out,htk,zH9]
     by_cases h0:i=0
     ·subst h0
      simp only[List.take_zero,if_true,prP]
      rw[show (⟨#[61]⟩:ByteArray)=txt [61] from rfl,zA3,zA3,zA3]
      simp[onePr]
     ·have hne:l.take i≠[]:=by
       intro h
       have:=congrArg List.length h
       rw[List.length_take] at this
       have h2:=HL.out
       simp only[List.length_nil] at this
       omega
      rw[if_neg hne,if_neg h0,show (⟨#[61]⟩:ByteArray)=txt [61] from rfl,show (⟨#[43]⟩:ByteArray)=txt [43] from rfl,zA3,zA3,zA3,zA3]
      simp[onePr])
    have hnz:Hid ((txt (prP (l.take (i+1)))).size<=2103):=hide (by rw[zAg];omega);have hV:=fun w=>zR7 (txt a.2) (by rw[zAg];omega) w
    simp only[zAf] at hV;have hUs:(txt a.1).size<=20:=by rw[zAg];exact hsm.1
    have hZs:(txt (wrV a.2)).size<=600:=(by rw[zAg];exact hzl);generalize txt a.1=U at *;generalize txt a.2=V at *;generalize txt (wrV a.2)=Z at *;clear ha hok hsm htl htk hpl hzl HP;have s1:(U.size:Int)<=20:=by omega
    have s2:(Z.size:Int)<=600:=(by omega);have s3:(S.size:Int)<=2103:=(by omega);by_cases hi0:i=0
    ·subst hi0;have hz:¬((0:Int)<((0:Nat):Int)):=by omega
     rw[if_pos rfl] at hnext;have hnx:Hid (S++U++⟨#[61]⟩++Z=txt (prP (l.take (0+1)))):=hide hnext.out.symm;have cw00:∀W,Below w.heap.size w W->W.cell? ⟨g,o,none⟩=some (.string U):=fun W hW=>by simpa using cw0 W hW
     have cw01:∀W,Below w.heap.size w W->W.cell? ⟨g,o+1,none⟩=some (.string V):=fun W hW=>by simpa using cw1 W hW
     clear hnext HR HL HRV hS hSz;rw[<-hnx.out] at hnz;go_wp2_with fail;refine zAk w.heap.size (by kernel_rfl) ?_;have hbr2:Below w.heap.size w wr.drew:=hbr.trans ((Below.refl _ _).drew);generalize wr.drew=w3 at *;refine yTk 0 (some 18) ?_;simp only[pUz];refine yTk 1 (some 19) ?_;simp only[pUz];refine yTk 2 (some 20) ?_;simp only[pUz];refine yTk 3 (some 21) ?_;simp only[pUz];refine yTk 4 (some 22) ?_;simp only[pUz];refine zAa 5 (some 23) (v:=?va5) rfl rfl (by kernel_rfl) rfl (by rfl) (fun W hW=>?ya5) ?_
     case ya5=>have h1:=cw0 W (hbr2.trans hW);have h2:=cw00 W (hbr2.trans hW);go_simp<;>with_reducible rfl
     simp only[pUz];refine zAa 6 (some 24) (v:=?va6) rfl rfl (by kernel_rfl) rfl (by rfl) (fun W hW=>?ya6) ?_
     case ya6=>go_simp;rw[if_neg (by omega)]
     simp only[pUz];refine zAa 7 (some 25) (v:=?va7) rfl rfl (by kernel_rfl) rfl (by rfl) (fun W hW=>?ya7) ?_
     case ya7=>go_simp;rw[if_neg (by omega)]
     simp only[pUz];refine yTk 8 (some 26) ?_;simp only[pUz];refine yTk 9 (some 27) ?_;simp only[pUz];refine yTk 10 (some 28) ?_;simp only[pUz];refine yTk 11 (some 29) ?_;simp only[pUz];refine zAa 12 (some 30) (v:=?va12) rfl rfl (by kernel_rfl) rfl (by rfl) (fun W hW=>?ya12) ?_
     case ya12=>have h1:=cw1 W (hbr2.trans hW);have h2:=cw01 W (hbr2.trans hW);go_simp<;>with_reducible rfl
     simp only[pUz];refine zAe 13 rfl (by kernel_rfl) (fun K hK=>?_);go_simp;refine (hV _).mono ?_;rintro e w4 ⟨rfl,hb4⟩;have hb4m:=hb4.mono hbr2.size;have hbr4:=hbr2.trans hb4m;refine hK.out _ _ hb4m ?_;clear hK K hb4 hb4m;(try simp only[pUz]);refine zAa 14 (some 32) (v:=?va14) rfl rfl (by kernel_rfl) rfl (by rfl) (fun W hW=>?ya14) ?_
     case ya14=>go_simp;rw[if_neg (by omega)]
     simp only[pUz];refine yTk 15 (some 4) ?_;simp only[pUz];refine zAi (by kernel_rfl) ?_ _;go_wp2
     go_roundg k
     case measure=>omega
     case rel=>exact⟨0+1,_,by omega,rfl,by go_num,hnx,hnz.out,hbr4⟩
    ·have hz:((0:Int)<(i:Int)):=by omega
     rw[if_neg hi0] at hnext;have hnx:Hid (S++⟨#[43]⟩++U++⟨#[61]⟩++Z=txt (prP (l.take (i+1)))):=hide hnext.out.symm;clear hnext HR HL HRV hS hSz hi0;rw[<-hnx.out] at hnz;go_wp2_with fail;refine zAk w.heap.size (by kernel_rfl) ?_;have hbr2:Below w.heap.size w wr.drew:=hbr.trans ((Below.refl _ _).drew);generalize wr.drew=w3 at *;refine yTk 0 (some 18) ?_;simp only[pUz];refine yTk 1 (some 19) ?_;simp only[pUz];refine yTk 2 (some 20) ?_;simp only[pUz];refine yTk 3 (some 21) ?_;simp only[pUz];refine yTk 4 (some 22) ?_;simp only[pUz];refine zAa 5 (some 23) (v:=?vb5) rfl rfl (by kernel_rfl) rfl (by rfl) (fun W hW=>?yb5) ?_
     case yb5=>have h1:=cw0 W (hbr2.trans hW);go_simp<;>with_reducible rfl
     simp only[pUz];refine zAa 6 (some 24) (v:=?vb6) rfl rfl (by kernel_rfl) rfl (by rfl) (fun W hW=>?yb6) ?_
     case yb6=>go_simp;rw[if_neg (by omega)]
     simp only[pUz];refine zAa 7 (some 25) (v:=?vb7) rfl rfl (by kernel_rfl) rfl (by rfl) (fun W hW=>?yb7) ?_
     case yb7=>go_simp;rw[if_neg (by omega)]
     simp only[pUz];refine yTk 8 (some 26) ?_;simp only[pUz];refine yTk 9 (some 27) ?_;simp only[pUz];refine yTk 10 (some 28) ?_;simp only[pUz];refine yTk 11 (some 29) ?_;simp only[pUz];refine zAa 12 (some 30) (v:=?vb12) rfl rfl (by kernel_rfl) rfl (by rfl) (fun W hW=>?yb12) ?_
     case yb12=>have h1:=cw1 W (hbr2.trans hW);go_simp<;>with_reducible rfl
     simp only[pUz];refine zAe 13 rfl (by kernel_rfl) (fun K hK=>?_);go_simp;refine (hV _).mono ?_;rintro e w4 ⟨rfl,hb4⟩;have hb4m:=hb4.mono hbr2.size;have hbr4:=hbr2.trans hb4m;refine hK.out _ _ hb4m ?_;clear hK K hb4 hb4m;(try simp only[pUz]);refine zAa 14 (some 32) (v:=?vb14) rfl rfl (by kernel_rfl) rfl (by rfl) (fun W hW=>?yb14) ?_
     case yb14=>go_simp;rw[if_neg (by omega)]
     simp only[pUz];refine yTk 15 (some 4) ?_;simp only[pUz];refine zAi (by kernel_rfl) ?_ _;go_wp2
     go_roundg k
     case measure=>omega
     case rel=>exact⟨i+1,_,by omega,rfl,by go_num,hnx,hnz.out,hbr4⟩
 ·rw [prV_no hp];rw[zAn hp] at hF;clear h hs hp hT;go_enter Tryz.func122,Tryz.ntmps122;go_wp2_with (go_at_call 141;fail);refine hF.mono ?_;rintro e w0 ⟨rfl,hb0⟩;clear hF;go_wp2;go_ret2;exact⟨rfl,hb0⟩
end Go.Proofs.YtdkekamkmlpnhaaGreatDoor
