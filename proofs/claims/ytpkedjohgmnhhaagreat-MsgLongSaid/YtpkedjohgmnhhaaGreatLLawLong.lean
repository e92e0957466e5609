/- The walk of MsgLong: whatever the number and the name, true. By an AI agent. -/
import Derived.Test.YtpkedjohgmnhhaaGreatM23
set_option maxRecDepth 100000
set_option maxHeartbeats 64000000
set_option linter.unusedSimpArgs false
namespace Go.Proofs.YtpkedjohgmnhhaaGreat
open Go.RowKit
open Wr
set_option linter.unusedVariables false
theorem Fr.ofB {B:Nat} {w w':World} (h:Below B w w'):Fr (fun k=>B≤k) w w':=⟨h.os,h.tape,h.output,h.size,fun i hi hx=>h.block i (by omega)⟩
theorem byte_nat (k:Nat):IntKind.u8.wrap (k:Int)=(((UInt8.ofNat k).toNat:Nat):Int):=by
 rw[UInt8.toNat_ofNat']
 simp[IntKind.wrap,IntKind.bits,IntKind.signed]
theorem long_far (x:Int) (s:ByteArray) (h9:900<s.size) (h48:s.size≤9223372036854775807) (w:World):
  Calls Tryz.prog 8 #[.int .u32 x,.string s] w fun e w'=>e=.returned (.bool true)∧Below w.heap.size w w':=by
 have haw:=hide (fun W=>awake_any W)
 obtain⟨n,hn⟩:∃n,s.size=n:=⟨_,rfl⟩
 have hz:(900:Int)<(n:Int):=by omega
 have hz2:(n:Int)≤9223372036854775807:=by omega
 clear h9 h48
 go_enter Tryz.func8,Tryz.ntmps8
 go_wp2_with (go_at_call 9;fail)
 refine (haw.out _).mono ?_
 rintro e w1 ⟨rfl,hb1⟩
 have HB1:=hide hb1
 clear hb1
 go_wp2_with (go_at_call 9;fail)
 refine (haw.out _).mono ?_
 rintro e w2 ⟨rfl,hb2⟩
 have HB2:=hide (HB1.out.trans (hb2.mono HB1.out.size))
 clear hb2
 go_wp2
 go_ret
 exact⟨rfl,HB2.out⟩
theorem long_near (x:Int) (hx0:0≤x) (hx1:x≤4294967295) (nm:List UInt8) (h9:nm.length≤900) (w:World):
  Calls Tryz.prog 8 #[.int .u32 x,.string (txt nm)] w fun e w'=>e=.returned (.bool true)∧Below w.heap.size w w':=by
 have haw:=hide (fun W=>awake_any W)
 obtain⟨sn,hsn⟩:∃sn,txt nm=sn:=⟨_,rfl⟩
 obtain⟨k,hk⟩:∃k,nm.length=k:=⟨_,rfl⟩
 have hsz:sn.size=k:=by rw[←hsn,txt_size,hk]
 have hz:¬((900:Int)<(k:Int)):=by omega
 rw[hsn]
 have Hsn:=hide hsn
 have Hk:=hide hk
 clear hsn
 go_enter Tryz.func8,Tryz.ntmps8
 go_wp2_with (go_at_call 9;fail)
 refine (haw.out _).mono ?_
 rintro e w1 ⟨rfl,hb1⟩
 have HB1:=hide hb1
 clear hb1 haw
 go_upto_region 4 with fail
 obtain⟨n,hn⟩:∃n,x/2=n:=⟨_,rfl⟩
 have hn0:0≤n:=by omega
 have hn1:n≤2147483647:=by omega
 rw[hn]
 clear hn hx0 hx1
 obtain⟨cs,hcs⟩:∃cs,([.int .i64 n,.int .i64 10,.string sn,.string ⟨#[]⟩,.int .i64 0,.int .i64 0,.int .i64 0,.int .i64 0,.int .i64 0,.bool false,.int .i64 0,.string ⟨#[]⟩,.string ⟨#[]⟩,.string ⟨#[]⟩,.string ⟨#[]⟩,.slice none 0 0,.slice none 0 0,.slice none 0 0,.slice none 0 0,.slice none 0 0,.string ⟨#[]⟩,.bool false,.bool false,.string ⟨#[]⟩,.string ⟨#[]⟩,.string ⟨#[]⟩,.int .i64 0,.int .i64 0,.string ⟨#[]⟩,.string ⟨#[]⟩,.slice none 0 0,.slice none 0 0]:List Value)=cs:=⟨_,rfl⟩
 have hbt:=del_built n sn
 rw[hcs] at hbt
 have hn32:cs.length=32:=by rw[←hcs];rfl
 have hrep:∀W,repM W (inB W) (delM n nm) (.agg cs.toArray):=fun W=>by
  have:=zeroRepOf W (inB W) (delM n nm) ⟨rfl,rfl,rfl,rfl,rfl,rfl⟩
  rw[←hcs,←Hsn.out]
  exact this
 have h1c:∀u∈cs,u.oneCell'=true:=by rw[←hcs];simp[Value.oneCell']
 have hBz:Blk (w1.alloc (.cells #[.int .i64 0,.int .i64 0,.string ⟨#[]⟩,.string ⟨#[]⟩,.int .i64 0,.int .i64 0,.int .i64 0,.int .i64 0,.int .i64 0,.bool false,.int .i64 0,.string ⟨#[]⟩,.string ⟨#[]⟩,.string ⟨#[]⟩,.string ⟨#[]⟩,.slice none 0 0,.slice none 0 0,.slice none 0 0,.slice none 0 0,.slice none 0 0,.string ⟨#[]⟩,.bool false,.bool false,.string ⟨#[]⟩,.string ⟨#[]⟩,.string ⟨#[]⟩,.int .i64 0,.int .i64 0,.string ⟨#[]⟩,.string ⟨#[]⟩,.slice none 0 0,.slice none 0 0] 42)) w1.heap.size zeroCells:=Blk.new w1 zeroCells 42
 have hP2:Blk (World.setCells (w1.alloc (.cells #[.int .i64 0,.int .i64 0,.string ⟨#[]⟩,.string ⟨#[]⟩,.int .i64 0,.int .i64 0,.int .i64 0,.int .i64 0,.int .i64 0,.bool false,.int .i64 0,.string ⟨#[]⟩,.string ⟨#[]⟩,.string ⟨#[]⟩,.string ⟨#[]⟩,.slice none 0 0,.slice none 0 0,.slice none 0 0,.slice none 0 0,.slice none 0 0,.string ⟨#[]⟩,.bool false,.bool false,.string ⟨#[]⟩,.string ⟨#[]⟩,.string ⟨#[]⟩,.int .i64 0,.int .i64 0,.string ⟨#[]⟩,.string ⟨#[]⟩,.slice none 0 0,.slice none 0 0] 42)) w1.heap.size 0 cs) w1.heap.size cs:=hBz.sets 0 cs (by rw[hn32];exact Nat.le_refl _) cs (by rw[List.drop_eq_nil_of_le (by rw[hn32];exact Nat.le_refl _)];simp)
 have hf2:Fr (fun _=>False) w1 (World.setCells (w1.alloc (.cells #[.int .i64 0,.int .i64 0,.string ⟨#[]⟩,.string ⟨#[]⟩,.int .i64 0,.int .i64 0,.int .i64 0,.int .i64 0,.int .i64 0,.bool false,.int .i64 0,.string ⟨#[]⟩,.string ⟨#[]⟩,.string ⟨#[]⟩,.string ⟨#[]⟩,.slice none 0 0,.slice none 0 0,.slice none 0 0,.slice none 0 0,.slice none 0 0,.string ⟨#[]⟩,.bool false,.bool false,.string ⟨#[]⟩,.string ⟨#[]⟩,.string ⟨#[]⟩,.int .i64 0,.int .i64 0,.string ⟨#[]⟩,.string ⟨#[]⟩,.slice none 0 0,.slice none 0 0] 42)) w1.heap.size 0 cs):=(Fr.alloc (fun _=>False) w1 _).trans' (Fr.setCells (X:=fun k=>k=w1.heap.size) _ w1.heap.size 0 cs rfl) (fun k hk q=>by omega)
 obtain⟨w2,hw2⟩:∃w2,World.setCells (w1.alloc (.cells #[.int .i64 0,.int .i64 0,.string ⟨#[]⟩,.string ⟨#[]⟩,.int .i64 0,.int .i64 0,.int .i64 0,.int .i64 0,.int .i64 0,.bool false,.int .i64 0,.string ⟨#[]⟩,.string ⟨#[]⟩,.string ⟨#[]⟩,.string ⟨#[]⟩,.slice none 0 0,.slice none 0 0,.slice none 0 0,.slice none 0 0,.slice none 0 0,.string ⟨#[]⟩,.bool false,.bool false,.string ⟨#[]⟩,.string ⟨#[]⟩,.string ⟨#[]⟩,.int .i64 0,.int .i64 0,.string ⟨#[]⟩,.string ⟨#[]⟩,.slice none 0 0,.slice none 0 0] 42)) w1.heap.size 0 cs=w2:=⟨_,rfl⟩
 rw[hw2] at hP2 hf2
 have hb:Below w1.heap.size w1 w2:=hf2.below (Nat.le_refl _) (fun k q=>q.elim)
 have Hbt:=hide hbt
 have HBz:=hide hBz
 have H1:=hide h1c
 have HP2:=hide hP2
 have Hw2:=hide hw2
 have HB2:=hide (HB1.out.trans (hb.mono HB1.out.size))
 have hfo:=del_formed (nm:=nm) hn0 hn1 (by omega)
 have hby:=del_bytes (n:=n) (nm:=nm) (by omega)
 have hen0:=fun (W:World) (v:Value) (h:repM W (inB W) (delM n nm) v)=>enc_small (delM n nm) W v h hfo (.inr rfl) rfl (by omega)
 have hld:=long_decode (nm:=nm) hn0 hn1 (by omega)
 have hil:=Ber.intOfs_length n
 have hi8:=(Ber.isize_le n)
 have hig0:=fun (W:World)=>integer_any n hn0 hn1 W
 have hlb:longB n nm=[48,130,UInt8.ofNat ((longC n nm).length/256),UInt8.ofNat (longC n nm).length]++longC n nm:=rfl
 have hlc:longC n nm=([2,132,0,0,0,UInt8.ofNat (Ber.intOfs n).length]++Ber.intOfs n)++[74,131,0,UInt8.ofNat (nm.length/256),UInt8.ofNat nm.length]++nm:=rfl
 have hcl:=longC_len n nm (by omega)
 obtain⟨l,hl⟩:∃l,Ber.intOfs n=l:=⟨_,rfl⟩
 obtain⟨sb,hsb⟩:∃sb,bytesW (delM n nm)=sb:=⟨_,rfl⟩
 obtain⟨lc,hlcc⟩:∃lc,longC n nm=lc:=⟨_,rfl⟩
 obtain⟨lb,hlbb⟩:∃lb,longB n nm=lb:=⟨_,rfl⟩
 rw[hl] at hig0 hlc hil
 rw[hsb] at hen0 hby
 rw[hlbb] at hld hlb
 rw[hlcc] at hlb hlc hcl
 obtain⟨L,hL⟩:∃L,l.length=L:=⟨_,rfl⟩
 obtain⟨ns,hns⟩:∃ns,sb.length=ns:=⟨_,rfl⟩
 obtain⟨C,hC⟩:∃C,lc.length=C:=⟨_,rfl⟩
 have hL8:L≤8:=by omega
 rw[hL] at hlc
 rw[hC] at hlb hcl
 rw[hk] at hlc
 obtain⟨b1,hb1⟩:∃b:UInt8,UInt8.ofNat L=b:=⟨_,rfl⟩
 obtain⟨b2,hb2⟩:∃b:UInt8,UInt8.ofNat (k/256)=b:=⟨_,rfl⟩
 obtain⟨b3,hb3⟩:∃b:UInt8,UInt8.ofNat k=b:=⟨_,rfl⟩
 obtain⟨b4,hb4⟩:∃b:UInt8,UInt8.ofNat (C/256)=b:=⟨_,rfl⟩
 obtain⟨b5,hb5⟩:∃b:UInt8,UInt8.ofNat C=b:=⟨_,rfl⟩
 have v1:IntKind.u8.wrap (L:Int)=(b1.toNat:Int):=by rw[←hb1];exact byte_nat L
 have v2:IntKind.u8.wrap ((k:Int)/256)=(b2.toNat:Int):=by rw[←hb2];exact byte_nat (k/256)
 have v3:IntKind.u8.wrap (k:Int)=(b3.toNat:Int):=by rw[←hb3];exact byte_nat k
 have v4:IntKind.u8.wrap ((C:Int)/256)=(b4.toNat:Int):=by rw[←hb4];exact byte_nat (C/256)
 have v5:IntKind.u8.wrap (C:Int)=(b5.toNat:Int):=by rw[←hb5];exact byte_nat C
 rw[hb1,hb2,hb3] at hlc
 rw[hb4,hb5] at hlb
 have Hlc:=hide hlc
 have Hlb:=hide hlb
 have HL:=hide hL
 have HC:=hide hC
 have Hns:=hide hns
 have Hld:=hide hld
 have Hcl:=hide hcl
 have hen:=hide hen0
 have hig:=hide hig0
 have Hrep:=hide hrep
 clear hbt hrep h1c hBz hP2 hf2 hw2 hb hfo hby hld hil hi8 hlb hlc hl hsb hlcc hlbb hL hns hC hb1 hb2 hb3 hb4 hb5 hcs h9 hk HB1 hcl hen0 hig0
 have HPx:Hid (Blk (World.setCells (w1.alloc (.cells #[.int .i64 0,.int .i64 0,.string ⟨#[]⟩,.string ⟨#[]⟩,.int .i64 0,.int .i64 0,.int .i64 0,.int .i64 0,.int .i64 0,.bool false,.int .i64 0,.string ⟨#[]⟩,.string ⟨#[]⟩,.string ⟨#[]⟩,.string ⟨#[]⟩,.slice none 0 0,.slice none 0 0,.slice none 0 0,.slice none 0 0,.slice none 0 0,.string ⟨#[]⟩,.bool false,.bool false,.string ⟨#[]⟩,.string ⟨#[]⟩,.string ⟨#[]⟩,.int .i64 0,.int .i64 0,.string ⟨#[]⟩,.string ⟨#[]⟩,.slice none 0 0,.slice none 0 0] 42)) w1.heap.size 0 cs) w1.heap.size cs):=hide (by rw[Hw2.out];exact HP2.out)
 go_wp2_with (first | (go_at_call 11;fail) | (refine wpList_buildTo rfl 42 #[(0,.tmp 26),(1,.const (.int .i64 10)),(2,.tmp 27)] rfl (some 28) rfl cs.toArray (by simp only[List.map_toArray,List.map_cons,List.map_nil];exact Hbt.out) ?_) | (refine storeM (w1.alloc (.cells #[.int .i64 0,.int .i64 0,.string ⟨#[]⟩,.string ⟨#[]⟩,.int .i64 0,.int .i64 0,.int .i64 0,.int .i64 0,.int .i64 0,.bool false,.int .i64 0,.string ⟨#[]⟩,.string ⟨#[]⟩,.string ⟨#[]⟩,.string ⟨#[]⟩,.slice none 0 0,.slice none 0 0,.slice none 0 0,.slice none 0 0,.slice none 0 0,.string ⟨#[]⟩,.bool false,.bool false,.string ⟨#[]⟩,.string ⟨#[]⟩,.string ⟨#[]⟩,.int .i64 0,.int .i64 0,.string ⟨#[]⟩,.string ⟨#[]⟩,.slice none 0 0,.slice none 0 0] 42)) rfl (.tmp 6) (.tmp 28) rfl w1.heap.size zeroCells cs rfl rfl HBz.out rfl hn32 H1.out ?_) | (refine loadM rfl (.tmp 6) rfl w1.heap.size rfl cs HPx.out hn32 ?_))
 rw[Hw2.out]
 clear Hw2 Hbt HBz HPx
 generalize w1.heap.size=p1 at *
 refine (hen.out w2 _ (Hrep.out w2)).mono ?_
 rintro e w3 ⟨⟨vs,rfl,hown⟩,hb⟩
 rw[Hns.out] at hown
 obtain⟨As,cS,rfl,-,hS⟩:=own_form hown
 have HpB:Hid (p1<w3.heap.size):=hide (Nat.lt_of_lt_of_le HP2.out.lt hb.size)
 have HP3:=hide (HP2.out.fr (Fr.of (X:=fun _=>False) hb) id)
 have HB3:=hide (HB2.out.trans (hb.mono HB2.out.size))
 have HS3:=hide hS
 obtain⟨B3,hB3⟩:∃B3,w3.heap.size=B3:=⟨_,rfl⟩
 rw[hB3] at HS3 HpB
 have HwB:Hid (w.heap.size≤B3):=hide (by rw[←hB3];exact HB3.out.size)
 have HZ3:Hid (B3≤w3.heap.size):=hide (Nat.le_of_eq hB3.symm)
 clear hown hS hb HP2 HB2 hB3
 go_wp2_with (go_at_call 19;fail)
 refine (hig.out w3).mono ?_
 rintro e w4 hpost
 obtain⟨vi,rfl,hown,hbf⟩:=hpost.out
 rw[HL.out] at hown
 obtain⟨Ai,ci,rfl,-,hI⟩:=own_form hown
 clear hpost hown
 have hb:Below B3 w3 w4:=hbf.mono HZ3.out
 have HS4:=hide (HS3.out.below hb)
 have HP4:=hide (HP3.out.fr (Fr.ofB hb) (by have:=HpB.out;omega))
 have HB4:=hide (HB3.out.trans (hb.mono HwB.out))
 have HZ4:=hide (Nat.le_trans HZ3.out hb.size)
 clear hb HS3 HP3 HB3 HZ3 hbf
 clear hI
 have hbf:Below w4.heap.size w4 (w4.alloc (.cells #[.int .u8 2,.int .u8 132,.int .u8 0,.int .u8 0,.int .u8 0,.int .u8 (b1.toNat:Int)] 5)):=(Below.refl _ _).alloc (Nat.le_refl _) _
 have ho:(w4.alloc (.cells #[.int .u8 2,.int .u8 132,.int .u8 0,.int .u8 0,.int .u8 0,.int .u8 (b1.toNat:Int)] 5)).ownsRow B3 5 1 (.slice (some ⟨w4.heap.size,0,none⟩) 6 6) 6 (bys [2,132,0,0,0,b1]):=own_base (base:=w4.heap.size) (own_lit w4 #[.int .u8 2,.int .u8 132,.int .u8 0,.int .u8 0,.int .u8 0,.int .u8 (b1.toNat:Int)] 5 6 (by unfold maxLen;omega) rfl) HZ4.out
 obtain⟨w5,hw5⟩:∃w5,(w4.alloc (.cells #[.int .u8 2,.int .u8 132,.int .u8 0,.int .u8 0,.int .u8 0,.int .u8 (b1.toNat:Int)] 5))=w5:=⟨_,rfl⟩
 rw[hw5] at hbf ho
 have HT5:=hide ho
 have Hw5:=hide hw5
 clear ho hw5
 have HO5:=hide HT5.out
 clear HT5
 have hb:Below B3 w4 w5:=hbf.mono HZ4.out
 have HS5:=hide (HS4.out.below hb)
 have HP5:=hide (HP4.out.fr (Fr.ofB hb) (by have:=HpB.out;omega))
 have HB5:=hide (HB4.out.trans (hb.mono HwB.out))
 have HZ5:=hide (Nat.le_trans HZ4.out hb.size)
 clear hb HS4 HP4 HB4 HZ4 hbf
 go_wp2_with (go_at_call 19;fail)
 rw[Hw5.out]
 refine (hig.out w5).mono ?_
 rintro e w6 hpost
 obtain⟨vi,rfl,hown,hbf⟩:=hpost.out
 rw[HL.out] at hown
 obtain⟨Ai,ci,rfl,-,hI⟩:=own_form hown
 clear hpost hown
 have HO6:=hide (own_below HO5.out hbf)
 clear HO5
 have hb:Below B3 w5 w6:=hbf.mono HZ5.out
 have HS6:=hide (HS5.out.below hb)
 have HP6:=hide (HP5.out.fr (Fr.ofB hb) (by have:=HpB.out;omega))
 have HB6:=hide (HB5.out.trans (hb.mono HwB.out))
 have HZ6:=hide (Nat.le_trans HZ5.out hb.size)
 clear hb HS5 HP5 HB5 HZ5 hbf
 obtain⟨y1,hy1⟩:∃y1,[2,132,0,0,0,b1]++l=y1:=⟨_,rfl⟩
 have hl1:Hid (6+L=y1.length):=hide (by rw[←hy1,List.length_append,HL.out];simp)
 have Hy1:=hide hy1
 have ho:=HO6.out
 have hbase:=HZ6.out
 clear hy1 HO6 Hw5
 go_wp2_with (at_builtin;go_must (refine app8g _ rfl (.tmp 38) (.tmp 40) rfl B3 _ 6 [2,132,0,0,0,b1] rfl ho _ Ai L ci l rfl hI y1 Hy1 hl1 (by omega) hbase ?_))
 intro v7 w7 hor7 hb _
 have HO7:=hide hor7
 clear ho hbase hI hor7
 have HS7:=hide (HS6.out.below hb)
 have HP7:=hide (HP6.out.fr (Fr.ofB hb) (by have:=HpB.out;omega))
 have HB7:=hide (HB6.out.trans (hb.mono HwB.out))
 have HZ7:=hide (Nat.le_trans HZ6.out hb.size)
 clear hb HS6 HP6 HB6 HZ6
 have hbf:Below w7.heap.size w7 (w7.alloc (.cells #[.int .u8 74,.int .u8 131,.int .u8 0,.int .u8 (b2.toNat:Int),.int .u8 (b3.toNat:Int)] 5)):=(Below.refl _ _).alloc (Nat.le_refl _) _
 have ho:(w7.alloc (.cells #[.int .u8 74,.int .u8 131,.int .u8 0,.int .u8 (b2.toNat:Int),.int .u8 (b3.toNat:Int)] 5)).ownsRow B3 5 1 (.slice (some ⟨w7.heap.size,0,none⟩) 5 5) 5 (bys [74,131,0,b2,b3]):=own_base (base:=w7.heap.size) (own_lit w7 #[.int .u8 74,.int .u8 131,.int .u8 0,.int .u8 (b2.toNat:Int),.int .u8 (b3.toNat:Int)] 5 5 (by unfold maxLen;omega) rfl) HZ7.out
 obtain⟨w8,hw8⟩:∃w8,(w7.alloc (.cells #[.int .u8 74,.int .u8 131,.int .u8 0,.int .u8 (b2.toNat:Int),.int .u8 (b3.toNat:Int)] 5))=w8:=⟨_,rfl⟩
 rw[hw8] at hbf ho
 have HT8:=hide ho
 have Hw8:=hide hw8
 clear ho hw8
 have HO8:=hide (own_below HO7.out hbf)
 clear HO7
 have hb:Below B3 w7 w8:=hbf.mono HZ7.out
 have HS8:=hide (HS7.out.below hb)
 have HP8:=hide (HP7.out.fr (Fr.ofB hb) (by have:=HpB.out;omega))
 have HB8:=hide (HB7.out.trans (hb.mono HwB.out))
 have HZ8:=hide (Nat.le_trans HZ7.out hb.size)
 clear hb HS7 HP7 HB7 HZ7 hbf
 obtain⟨At,ct,et,-,hT⟩:=own_form HT8.out
 cases et
 obtain⟨y2,hy2⟩:∃y2,y1++[74,131,0,b2,b3]=y2:=⟨_,rfl⟩
 have hl2:Hid (y1.length+5=y2.length):=hide (by rw[←hy2,List.length_append];rfl)
 have Hy2:=hide hy2
 have hn1l:y1.length≤20:=by have:=hl1.out;omega
 have ho:=HO8.out
 have hbase:=HZ8.out
 rw[←Hw8.out] at ho hT hbase
 clear hy2 HO8 HT8
 go_wp2_with (at_builtin;go_must (refine app8g _ rfl (.tmp 42) (.tmp 50) rfl B3 _ _ y1 rfl ho _ _ 5 _ [74,131,0,b2,b3] rfl hT y2 Hy2 hl2 (by omega) hbase ?_))
 intro v9 w9 hor9 hb _
 rw[Hw8.out] at hb
 have HO9:=hide hor9
 clear ho hbase hT hor9 Hw8 hn1l
 have HS9:=hide (HS8.out.below hb)
 have HP9:=hide (HP8.out.fr (Fr.ofB hb) (by have:=HpB.out;omega))
 have HB9:=hide (HB8.out.trans (hb.mono HwB.out))
 have HZ9:=hide (Nat.le_trans HZ8.out hb.size)
 clear hb HS8 HP8 HB8 HZ8
 have hsl:sn.data.toList=nm:=by rw[←Hsn.out];exact txt_toList nm
 have Hy3:Hid (y2++sn.data.toList=lc):=hide (by rw[hsl,←Hy2.out,←Hy1.out,Hlc.out])
 have hl3:Hid (y2.length+sn.size=lc.length):=hide (by rw[←Hy3.out,List.length_append,hsl,hsz,Hk.out])
 have hn2l:y2.length+sn.size≤950:=by have:=hl3.out;have:=HC.out;have:=Hcl.out;omega
 have ho:=HO9.out
 have hbase:=HZ9.out
 clear hsl HO9
 go_wp2_with (at_builtin;go_must (refine app8s _ rfl (.tmp 52) (.tmp 53) rfl B3 _ _ y2 rfl ho sn rfl lc Hy3 hl3 (by omega) hbase ?_))
 intro v10 w10 hor10 hb _
 rw[HC.out] at hor10
 obtain⟨Ac,cc,rfl,-,-⟩:=own_form hor10
 have HO10:=hide hor10
 clear ho hbase hor10 hn2l Hy3 hl3 hl2 hl1
 have HS10:=hide (HS9.out.below hb)
 have HP10:=hide (HP9.out.fr (Fr.ofB hb) (by have:=HpB.out;omega))
 have HB10:=hide (HB9.out.trans (hb.mono HwB.out))
 have HZ10:=hide (Nat.le_trans HZ9.out hb.size)
 clear hb HS9 HP9 HB9 HZ9
 have hbf:Below w10.heap.size w10 (w10.alloc (.cells #[.int .u8 48,.int .u8 130,.int .u8 (b4.toNat:Int),.int .u8 (b5.toNat:Int)] 5)):=(Below.refl _ _).alloc (Nat.le_refl _) _
 have ho:(w10.alloc (.cells #[.int .u8 48,.int .u8 130,.int .u8 (b4.toNat:Int),.int .u8 (b5.toNat:Int)] 5)).ownsRow B3 5 1 (.slice (some ⟨w10.heap.size,0,none⟩) 4 4) 4 (bys [48,130,b4,b5]):=own_base (base:=w10.heap.size) (own_lit w10 #[.int .u8 48,.int .u8 130,.int .u8 (b4.toNat:Int),.int .u8 (b5.toNat:Int)] 5 4 (by unfold maxLen;omega) rfl) HZ10.out
 obtain⟨w11,hw11⟩:∃w11,(w10.alloc (.cells #[.int .u8 48,.int .u8 130,.int .u8 (b4.toNat:Int),.int .u8 (b5.toNat:Int)] 5))=w11:=⟨_,rfl⟩
 rw[hw11] at hbf ho
 have HT11:=hide ho
 have Hw11:=hide hw11
 clear ho hw11
 have HO11:=hide (own_below HO10.out hbf)
 clear HO10
 have hb:Below B3 w10 w11:=hbf.mono HZ10.out
 have HS11:=hide (HS10.out.below hb)
 have HP11:=hide (HP10.out.fr (Fr.ofB hb) (by have:=HpB.out;omega))
 have HB11:=hide (HB10.out.trans (hb.mono HwB.out))
 have HZ11:=hide (Nat.le_trans HZ10.out hb.size)
 clear hb HS10 HP10 HB10 HZ10 hbf
 obtain⟨At2,ct2,et2,-,hT⟩:=own_form HO11.out
 cases et2
 have Hy4:Hid ([48,130,b4,b5]++lc=lb):=hide (by rw[Hlb.out])
 have hl4:Hid (4+C=lb.length):=hide (by rw[←Hy4.out,List.length_append,HC.out];simp)
 have hn3l:C≤950:=Hcl.out
 have ho:=HT11.out
 have hbase:=HZ11.out
 rw[←Hw11.out] at ho hT hbase
 clear HO11 HT11
 go_wp2_with (at_builtin;go_must (refine app8g _ rfl (.tmp 62) (.tmp 63) rfl B3 _ 4 [48,130,b4,b5] rfl ho _ _ C _ lc rfl hT lb Hy4 hl4 (by omega) hbase ?_))
 intro v12 w12 hor12 hb _
 rw[Hw11.out] at hb
 obtain⟨Ab,cb,rfl,hc1,hcm,hH⟩:=Ber.own_form' hor12
 have hde:=decode_any w12 Ab cb lb hH hc1 hcm
 have hlb4:=hl4.out
 obtain⟨nb,hnb⟩:∃nb,lb.length=nb:=⟨_,rfl⟩
 have Hnb:=hide hnb
 rw[hnb] at hde
 have Hde:=hide hde
 rw[hnb]
 clear ho hbase hT hor12 Hw11 hn3l hc1 hcm hH hde hnb
 have HS12:=hide (HS11.out.below hb)
 have HP12:=hide (HP11.out.fr (Fr.ofB hb) (by have:=HpB.out;omega))
 have HB12:=hide (HB11.out.trans (hb.mono HwB.out))
 have HZ12:=hide (Nat.le_trans HZ11.out hb.size)
 clear hb HS11 HP11 HB11 HZ11
 go_wp2_with (go_at_call 14;fail)
 refine Hde.out.mono ?_
 rintro e w13 hpost
 obtain⟨m2,v2,rfl,hrep2,hm2,hbf⟩:=hpost.out
 have hm2:m2=delM n nm:=by rw[hm2,Hld.out];rfl
 subst hm2
 have hcode:(if 16384<lb.length then (4:Int) else if (Rd.decode lb).isSome=true then 0 else 2)=0:=by rw[if_neg (by have:=Hcl.out;omega),Hld.out];rfl
 rw[hcode]
 obtain⟨g0,g1,g2,g3,g4,g5,g6,ua,ul,uc,ur,uk,rfl,hY⟩:=hrep2
 obtain⟨cy,hcy⟩:∃cy,mcells (delM n nm) g0 g1 g2 g3 g4 g5 g6 ua ul uc ur uk=cy:=⟨_,rfl⟩
 have hny:cy.length=32:=by rw[←hcy];rfl
 have h1y:=MReps.one hY
 rw[hcy] at h1y
 have hBz:Blk (w13.alloc (.cells #[.int .i64 0,.int .i64 0,.string ⟨#[]⟩,.string ⟨#[]⟩,.int .i64 0,.int .i64 0,.int .i64 0,.int .i64 0,.int .i64 0,.bool false,.int .i64 0,.string ⟨#[]⟩,.string ⟨#[]⟩,.string ⟨#[]⟩,.string ⟨#[]⟩,.slice none 0 0,.slice none 0 0,.slice none 0 0,.slice none 0 0,.slice none 0 0,.string ⟨#[]⟩,.bool false,.bool false,.string ⟨#[]⟩,.string ⟨#[]⟩,.string ⟨#[]⟩,.int .i64 0,.int .i64 0,.string ⟨#[]⟩,.string ⟨#[]⟩,.slice none 0 0,.slice none 0 0] 42)) w13.heap.size zeroCells:=Blk.new w13 zeroCells 42
 have hB14:Blk (World.setCells (w13.alloc (.cells #[.int .i64 0,.int .i64 0,.string ⟨#[]⟩,.string ⟨#[]⟩,.int .i64 0,.int .i64 0,.int .i64 0,.int .i64 0,.int .i64 0,.bool false,.int .i64 0,.string ⟨#[]⟩,.string ⟨#[]⟩,.string ⟨#[]⟩,.string ⟨#[]⟩,.slice none 0 0,.slice none 0 0,.slice none 0 0,.slice none 0 0,.slice none 0 0,.string ⟨#[]⟩,.bool false,.bool false,.string ⟨#[]⟩,.string ⟨#[]⟩,.string ⟨#[]⟩,.int .i64 0,.int .i64 0,.string ⟨#[]⟩,.string ⟨#[]⟩,.slice none 0 0,.slice none 0 0] 42)) w13.heap.size 0 cy) w13.heap.size cy:=hBz.sets 0 cy (by rw[hny];exact Nat.le_refl _) cy (by rw[List.drop_eq_nil_of_le (by rw[hny];exact Nat.le_refl _)];simp)
 have hf14:Fr (fun _=>False) w13 (World.setCells (w13.alloc (.cells #[.int .i64 0,.int .i64 0,.string ⟨#[]⟩,.string ⟨#[]⟩,.int .i64 0,.int .i64 0,.int .i64 0,.int .i64 0,.int .i64 0,.bool false,.int .i64 0,.string ⟨#[]⟩,.string ⟨#[]⟩,.string ⟨#[]⟩,.string ⟨#[]⟩,.slice none 0 0,.slice none 0 0,.slice none 0 0,.slice none 0 0,.slice none 0 0,.string ⟨#[]⟩,.bool false,.bool false,.string ⟨#[]⟩,.string ⟨#[]⟩,.string ⟨#[]⟩,.int .i64 0,.int .i64 0,.string ⟨#[]⟩,.string ⟨#[]⟩,.slice none 0 0,.slice none 0 0] 42)) w13.heap.size 0 cy):=(Fr.alloc (fun _=>False) w13 _).trans' (Fr.setCells (X:=fun k=>k=w13.heap.size) _ w13.heap.size 0 cy rfl) (fun k hk q=>by omega)
 obtain⟨w14,hw14⟩:∃w14,World.setCells (w13.alloc (.cells #[.int .i64 0,.int .i64 0,.string ⟨#[]⟩,.string ⟨#[]⟩,.int .i64 0,.int .i64 0,.int .i64 0,.int .i64 0,.int .i64 0,.bool false,.int .i64 0,.string ⟨#[]⟩,.string ⟨#[]⟩,.string ⟨#[]⟩,.string ⟨#[]⟩,.slice none 0 0,.slice none 0 0,.slice none 0 0,.slice none 0 0,.slice none 0 0,.string ⟨#[]⟩,.bool false,.bool false,.string ⟨#[]⟩,.string ⟨#[]⟩,.string ⟨#[]⟩,.int .i64 0,.int .i64 0,.string ⟨#[]⟩,.string ⟨#[]⟩,.slice none 0 0,.slice none 0 0] 42)) w13.heap.size 0 cy=w14:=⟨_,rfl⟩
 have HBx:Hid (Blk (World.setCells (w13.alloc (.cells #[.int .i64 0,.int .i64 0,.string ⟨#[]⟩,.string ⟨#[]⟩,.int .i64 0,.int .i64 0,.int .i64 0,.int .i64 0,.int .i64 0,.bool false,.int .i64 0,.string ⟨#[]⟩,.string ⟨#[]⟩,.string ⟨#[]⟩,.string ⟨#[]⟩,.slice none 0 0,.slice none 0 0,.slice none 0 0,.slice none 0 0,.slice none 0 0,.string ⟨#[]⟩,.bool false,.bool false,.string ⟨#[]⟩,.string ⟨#[]⟩,.string ⟨#[]⟩,.int .i64 0,.int .i64 0,.string ⟨#[]⟩,.string ⟨#[]⟩,.slice none 0 0,.slice none 0 0] 42)) w13.heap.size 0 cy) w13.heap.size cy):=hide hB14
 rw[hw14] at hB14 hf14
 have hb14:Below w13.heap.size w13 w14:=hf14.below (Nat.le_refl _) (fun k q=>q.elim)
 have hr14:repM w14 (inB w14) (delM n nm) (.agg cy.toArray):=⟨g0,g1,g2,g3,g4,g5,g6,ua,ul,uc,ur,uk,by rw[hcy],hY.move (fun p hp=>hb14.cell (by exact hp.2)) (fun k hk=>Nat.lt_of_lt_of_le hk.2 hb14.size)⟩
 have hbf:=hbf.trans (hb14.mono hbf.size)
 have HBz:=hide hBz
 have H1y:=hide h1y
 have HB14:=hide hB14
 have Hw14:=hide hw14
 have Hr14:=hide hr14
 rw[hcy]
 clear hpost hY hcy hBz hB14 hf14 hw14 hb14 hr14 h1y Hde hcode
 have hb:Below B3 w12 w14:=hbf.mono HZ12.out
 have HS14:=hide (HS12.out.below hb)
 have HP14:=hide (HP12.out.fr (Fr.ofB hb) (by have:=HpB.out;omega))
 have HB14:=hide (HB12.out.trans (hb.mono HwB.out))
 have HZ14:=hide (Nat.le_trans HZ12.out hb.size)
 clear hb HS12 HP12 HB12 HZ12 hbf
 go_wp2_with (first | (go_at_call 11;fail) | (refine storeM (w13.alloc (.cells #[.int .i64 0,.int .i64 0,.string ⟨#[]⟩,.string ⟨#[]⟩,.int .i64 0,.int .i64 0,.int .i64 0,.int .i64 0,.int .i64 0,.bool false,.int .i64 0,.string ⟨#[]⟩,.string ⟨#[]⟩,.string ⟨#[]⟩,.string ⟨#[]⟩,.slice none 0 0,.slice none 0 0,.slice none 0 0,.slice none 0 0,.slice none 0 0,.string ⟨#[]⟩,.bool false,.bool false,.string ⟨#[]⟩,.string ⟨#[]⟩,.string ⟨#[]⟩,.int .i64 0,.int .i64 0,.string ⟨#[]⟩,.string ⟨#[]⟩,.slice none 0 0,.slice none 0 0] 42)) rfl (.tmp 11) (.tmp 68) rfl w13.heap.size zeroCells cy rfl rfl HBz.out rfl hny H1y.out ?_) | (refine loadM rfl (.tmp 11) rfl w13.heap.size rfl cy HBx.out hny ?_))
 rw[Hw14.out]
 clear HBx HBz H1y
 generalize w13.heap.size=p13 at *
 refine (hen.out w14 _ Hr14.out).mono ?_
 rintro e w15 ⟨⟨vs2,rfl,hown⟩,hbf⟩
 rw[Hns.out] at hown
 obtain⟨As2,cS2,rfl,-,hS2⟩:=own_form hown
 have HQ15:=hide hS2
 have HM15:=hide (HB14.out.fr (Fr.of (X:=fun _=>False) hbf) id)
 have Hr15:=hide (repM_below Hr14.out hbf)
 clear hown hS2 HB14 Hr14
 have hb:Below B3 w14 w15:=hbf.mono HZ14.out
 have HS15:=hide (HS14.out.below hb)
 have HP15:=hide (HP14.out.fr (Fr.ofB hb) (by have:=HpB.out;omega))
 have HB15:=hide (HB14.out.trans (hb.mono HwB.out))
 have HZ15:=hide (Nat.le_trans HZ14.out hb.size)
 clear hb HS14 HP14 HB14 HZ14 hbf
 have hsa:=same_any w15 (delM n nm) (delM n nm) _ _ Hr15.out (Hrep.out w15) (by simp[FT.wee,FT.weeL]) true (by simp)
 have Hsa:=hide hsa
 clear hsa Hr15
 go_wp2_with (first | (go_at_call 18;fail) | (refine loadG (by rfl) (.tmp 11) rfl p13 rfl cy HM15.out hny ?_) | (refine loadG (by rfl) (.tmp 6) rfl p1 rfl cs HP15.out hn32 ?_))
 refine Hsa.out.mono ?_
 rintro e w16 ⟨rfl,hbf⟩
 have hq:=((HQ15.out.below hbf).upto hbf.size)
 have hs:=(HS15.out.below (hbf.mono HZ15.out))
 have hx1:=run_txt (P:=Tryz.prog) w16 (c:=cS2) hq 33 9 5 Tryz.underlying33 Tryz.underlying5 Tryz.underlying9
 have hx2:=run_txt (P:=Tryz.prog) w16 (c:=cS) hs 33 9 5 Tryz.underlying33 Tryz.underlying5 Tryz.underlying9
 clear hq hs Hsa HQ15 HM15
 have hb:Below B3 w15 w16:=hbf.mono HZ15.out
 have HS16:=hide (HS15.out.below hb)
 have HP16:=hide (HP15.out.fr (Fr.ofB hb) (by have:=HpB.out;omega))
 have HB16:=hide (HB15.out.trans (hb.mono HwB.out))
 have HZ16:=hide (Nat.le_trans HZ15.out hb.size)
 clear hb HS15 HP15 HB15 HZ15 hbf
 generalize txt sb=tb at *
 go_wp2
 go_ret
 exact⟨rfl,HB16.out⟩
theorem txt_back (s:ByteArray):txt s.data.toList=s:=by
 obtain⟨⟨l⟩⟩:=s
 rfl
theorem long_law (x:Int) (hx0:0≤x) (hx1:x≤4294967295) (s:ByteArray) (hs:s.size≤9223372036854775807) (w:World):
  Calls Tryz.prog 8 #[.int .u32 x,.string s] w fun e w'=>e=.returned (.bool true)∧Below w.heap.size w w':=by
 by_cases h:900<s.size
 ·exact long_far x s h hs w
 ·have:=long_near x hx0 hx1 s.data.toList (by simpa using Nat.le_of_not_lt h) w
  rwa [txt_back] at this
end Go.Proofs.YtpkedjohgmnhhaaGreat
