/- Several texts in one: MEnc, LLongI, MAwake, MLawBack. By an AI agent. -/
import Derived.Test.YtcpjmgfloimfhaaGreatMWrM
import Derived.Test.YtcpjmgfloimfhaaGreatMSmall
import Derived.Test.YtcpjmgfloimfhaaGreatM19
import Derived.Test.YtcpjmgfloimfhaaGreatM18
import Derived.Test.YtcpjmgfloimfhaaGreatM01
import Derived.Test.YtcpjmgfloimfhaaGreatLWrTwo
import Derived.Test.YtcpjmgfloimfhaaGreatRSameR
import Derived.Test.YtcpjmgfloimfhaaGreatMTheirs
import Derived.Test.YtcpjmgfloimfhaaGreatMLawW
import Derived.Test.YtcpjmgfloimfhaaGreatMOurs
set_option linter.unusedSimpArgs false
set_option linter.unusedVariables false
set_option maxHeartbeats 64000000
set_option maxRecDepth 100000
namespace Go.Proofs.YtcpjmgfloimfhaaGreat
open Go.RowKit
theorem mwide_of {m:MT} (hb:mw m<=1048576) (hi:∀n∈[m.id,m.kind,m.ver,m.scope,m.deref,m.size,m.time,m.target,m.code],-9223372036854775808<=n/\n<=9223372036854775807) (hc:∀c∈m.chs,-9223372036854775808<=c.1/\c.1<=9223372036854775807)
  (hf:m.filt.formed=true) (ht:m.filt.tiny):m.wide:=by
 unfold mw at hb
 have mem:∀{L:List (List UInt8)} {s:List UInt8},s∈L->tsw L<=1048576->s.length<=2000000:=fun {L s} hs h=>by
  have:=sum_mem tw hs
  unfold tsw at h
  unfold tw at this
  have e:(L.map fun s=>s.length+1)=L.map tw:=rfl
  unfold tw at h
  omega
 have wa:∀a:Atr,aw a<=1048576->wideA a:=fun a h=>by
  unfold aw at h
  refine⟨by unfold tw at h;omega,fun s hs=>mem hs (by omega)⟩
 refine⟨?_,fun s hs=>mem hs (by omega),fun s hs=>mem hs (by omega),fun a ha=>wa a (by have:=sum_mem aw ha;omega),fun c hcm=>⟨wa c.2 (by have h1:=sum_mem hw hcm;have h2:hw c=aw c.2+2:=rfl;omega),hc c hcm⟩,fun c hcm=>?_,hi,⟨hf,ht⟩⟩
 ·unfold tw at hb
  omega
 ·have h1:=sum_mem cw hcm
  have h2:cw c=tw c.oid+tw c.value+3:=rfl
  have h3:tw c.oid=c.oid.length+1:=rfl
  have h4:tw c.value=c.value.length+1:=rfl
  omega
open Wr in
theorem contentW_len {m:MT} (hw:m.wide):(contentW m).length<=50000000:=by
 have ht:=hw.texts
 have a1:=field_len 4 m.name
 have a2:=int_len 2 m.ver
 have a3:=field_len 0x80 m.pw
 have a4:=int_len 10 m.scope
 have a5:=int_len 10 m.deref
 have a6:=int_len 2 m.size
 have a7:=int_len 2 m.time
 have a8:=flag_len m.tonly
 have fa:=formed_all hw.filt.1
 have a9:=filterW_len m.filt fa.1
 have a10:=Nat.mul_le_mul_left 30000 fa.2
 have a11:=(textsW_len 48 hw.attrs).1
 have a12:=changesW_len (fun a ha=>(hw.chs a ha).1)
 have a13:=attrsW_len hw.lst
 have a14:=field_len 4 m.nrdn
 have a15:=flag_len m.delold
 have a16:=field_len 0x80 m.sup
 have a17:=field_len 4 m.attr
 have a18:=field_len 4 m.value
 have a19:=field_len 48 (Ber.fieldOf 4 m.attr++Ber.fieldOf 4 m.value)
 have a20:(Ber.intOfs m.target).length<=9:=by have:=Ber.isize_le m.target;have:=Ber.intOfs_length m.target;omega
 have a21:=(textsW_len 163 hw.refs)
 have a22:=int_len 10 m.code
 have a23:=field_len 4 m.matched
 have a24:=field_len 4 m.text
 have a25:(refsW m.refs).length<=2100000:=by
  unfold refsW
  split
  ·simp
  ·exact a21.1
 have a26:(if m.hassup then Ber.fieldOf 0x80 m.sup else ([]:List UInt8)).length<=2000010:=by
  split
  ·omega
  ·simp
 rw[List.length_append] at a19
 unfold contentW
 split
 ·simp
 split
 ·simp only[List.flatten_cons,List.flatten_nil,List.append_nil,List.length_append];omega
 split
 ·simp only[List.flatten_cons,List.flatten_nil,List.append_nil,List.length_append];omega
 split
 ·simp only[List.flatten_cons,List.flatten_nil,List.append_nil,List.length_append];omega
 split
 ·simp only[List.flatten_cons,List.flatten_nil,List.append_nil,List.length_append];omega
 split
 ·omega
 split
 ·simp only[List.flatten_cons,List.flatten_nil,List.append_nil,List.length_append];omega
 split
 ·simp only[List.length_append];omega
 split
 ·omega
 split
 ·exact Nat.le_trans a21.2 (by omega)
 ·simp only[List.flatten_cons,List.flatten_nil,List.append_nil,List.length_append];omega
open Wr in
theorem messageW_len {m:MT} (hw:m.wide):(messageW m).length<=100000000:=by
 have h1:=contentW_len hw
 have h2:=field_len (tagW m.kind) (contentW m)
 have h3:=int_len 2 m.id
 have h4:(ctlsW m.ctls).length<=4200000:=by
  unfold ctlsW
  split
  ·simp
  ·exact ctlsW_len hw.ctls
 unfold messageW
 have h5:=field_len 0x30 ((Ber.fieldOf 2 (Ber.intOfs m.id)++Ber.fieldOf (tagW m.kind) (contentW m))++ctlsW m.ctls)
 simp only[List.length_append] at h5
 omega
def laidM (m:MT):List UInt8:=if m.filt.formed=true then Wr.messageW m else []
theorem laidM_len {m:MT} (hb:mw m<=1048576) (hi:∀n∈[m.id,m.kind,m.ver,m.scope,m.deref,m.size,m.time,m.target,m.code],-9223372036854775808<=n/\n<=9223372036854775807) (hc:∀c∈m.chs,-9223372036854775808<=c.1/\c.1<=9223372036854775807) (ht:m.filt.tiny):(laidM m).length<=100000000:=by
 unfold laidM
 split
 ·rename_i h
  exact messageW_len (mwide_of hb hi hc h ht)
 ·simp
theorem encode_small (w:World) (m:MT) (v:Value) (hm:repM w (inB w) m v) (hb:mw m<=1048576) (hi:∀n∈[m.id,m.kind,m.ver,m.scope,m.deref,m.size,m.time,m.target,m.code],-9223372036854775808<=n/\n<=9223372036854775807) (hc:∀c∈m.chs,-9223372036854775808<=c.1/\c.1<=9223372036854775807) (ht:m.filt.tiny):
  Calls Tryz.prog 11 #[v] w (EncPost m (laidM m) w):=by
 have hl:=laidM_len hb hi hc ht
 refine encode_of w m v hm (laidM m) (by omega) (fun hf W hW=>?_)
 have hw:=mwide_of hb hi hc hf ht
 rw[show laidM m=Wr.messageW m by unfold laidM;rw[if_pos hf]]
 exact wmsg_any W m v (repM_below hm hW) hw (by have:=contentW_len hw;omega)
end Go.Proofs.YtcpjmgfloimfhaaGreat
namespace Go.Proofs.YtcpjmgfloimfhaaGreat
open Go.RowKit
open Wr
theorem zeroRepOf (w:World) (P:Nat->Prop) (m:MT) (h:m.filt=.mk 0 [] [] [] [] [] []/\m.attrs=[]/\m.lst=[]/\m.chs=[]/\m.refs=[]/\m.ctls=[]):
  repM w P m (.agg (mcells m (.int .i64 0) (.string ⟨#[]⟩) (.string ⟨#[]⟩) (.string ⟨#[]⟩) (.string ⟨#[]⟩) (.slice none 0 0) (.slice none 0 0) (.slice none 0 0) (.slice none 0 0) (.slice none 0 0) (.slice none 0 0) (.slice none 0 0)).toArray):=by
 obtain⟨z1,z2,z3,z4,z5,z6⟩:=h
 refine⟨_,_,_,_,_,_,_,_,_,_,_,_,rfl,⟨?_,?_,?_,?_,?_,?_⟩⟩
 ·rw [z1];exact⟨none,0,none,0,[],rfl,⟨by unfold maxLen;simp,by unfold maxLen;simp⟩,HasP.none _,HasP.none _,rfl⟩
 ·rw [z2];exact zBg
 ·rw [z3];exact zBg
 ·rw [z4];exact zBg
 ·rw [z5];exact zBg
 ·rw [z6];exact zBg
def wakeM:MT:={ id:=3,kind:=2 }
theorem wake_built:Tryz.prog.built 42 [(0,.int .i64 3),(1,.int .i64 2)]=some ([.int .i64 3,.int .i64 2,.string ⟨#[]⟩,.string ⟨#[]⟩,.int .i64 0,.int .i64 0,.int .i64 0,.int .i64 0,.int .i64 0,.bool false,.int .i64 0,.string ⟨#[]⟩,.string ⟨#[]⟩,.string ⟨#[]⟩,.string ⟨#[]⟩,.slice none 0 0,.slice none 0 0,.slice none 0 0,.slice none 0 0,.slice none 0 0,.string ⟨#[]⟩,.bool false,.bool false,.string ⟨#[]⟩,.string ⟨#[]⟩,.string ⟨#[]⟩,.int .i64 0,.int .i64 0,.string ⟨#[]⟩,.string ⟨#[]⟩,.slice none 0 0,.slice none 0 0]:List Value).toArray:=by kernel_rfl
end Go.Proofs.YtcpjmgfloimfhaaGreat
namespace Go.Proofs.YtcpjmgfloimfhaaGreat
open Go.RowKit
theorem laid_wake:laidM wakeM=[48,5,2,1,3,66,0]:=by decide+kernel
theorem wake_dec:Rd.decode [48,5,2,1,3,66,0]=some wakeM:=by kernel_rfl
theorem wakeM_mw:mw wakeM<=1048576:=by decide+kernel
theorem wakeM_ints:∀n∈[wakeM.id,wakeM.kind,wakeM.ver,wakeM.scope,wakeM.deref,wakeM.size,wakeM.time,wakeM.target,wakeM.code],-9223372036854775808<=n/\n<=9223372036854775807:=by decide+kernel
theorem wakeM_tiny:wakeM.filt.tiny:=by simp[wakeM,FT.tiny,FT.tinyL]
theorem awakeM_any (w:World):Calls Tryz.prog 9 #[] w fun e w'=>e=.returned (.bool true)/\Below w.heap.size w w':=by
 obtain⟨cs,hcs⟩:∃cs,([.int .i64 3,.int .i64 2,.string ⟨#[]⟩,.string ⟨#[]⟩,.int .i64 0,.int .i64 0,.int .i64 0,.int .i64 0,.int .i64 0,.bool false,.int .i64 0,.string ⟨#[]⟩,.string ⟨#[]⟩,.string ⟨#[]⟩,.string ⟨#[]⟩,.slice none 0 0,.slice none 0 0,.slice none 0 0,.slice none 0 0,.slice none 0 0,.string ⟨#[]⟩,.bool false,.bool false,.string ⟨#[]⟩,.string ⟨#[]⟩,.string ⟨#[]⟩,.int .i64 0,.int .i64 0,.string ⟨#[]⟩,.string ⟨#[]⟩,.slice none 0 0,.slice none 0 0]:List Value)=cs:=⟨_,rfl⟩
 have hb:=wake_built
 rw[hcs] at hb
 have hr:=zeroRepOf w (inB w) wakeM ⟨rfl,rfl,rfl,rfl,rfl,rfl⟩
 replace hr:repM w (inB w) wakeM (.agg ([.int .i64 3,.int .i64 2,.string ⟨#[]⟩,.string ⟨#[]⟩,.int .i64 0,.int .i64 0,.int .i64 0,.int .i64 0,.int .i64 0,.bool false,.int .i64 0,.string ⟨#[]⟩,.string ⟨#[]⟩,.string ⟨#[]⟩,.string ⟨#[]⟩,.slice none 0 0,.slice none 0 0,.slice none 0 0,.slice none 0 0,.slice none 0 0,.string ⟨#[]⟩,.bool false,.bool false,.string ⟨#[]⟩,.string ⟨#[]⟩,.string ⟨#[]⟩,.int .i64 0,.int .i64 0,.string ⟨#[]⟩,.string ⟨#[]⟩,.slice none 0 0,.slice none 0 0]:List Value).toArray):=hr
 rw[hcs] at hr
 have henc:=(encode_small w wakeM _ hr wakeM_mw wakeM_ints (by intro c hc;simp[wakeM] at hc) wakeM_tiny).mono (fun e w' hp=>(show (∃v,e=.returned (.tuple #[v,.int .i64 0])/\w'.ownsRow w.heap.size 5 1 v (laidM wakeM).length (bys (laidM wakeM)))/\Below w.heap.size w w' from ⟨hp.yes (by rw[laid_wake];exact⟨rfl,wake_dec⟩),hp.below⟩))
 rw[laid_wake] at henc
 obtain⟨ys,hys⟩:∃ys:List UInt8,[48,5,2,1,3,66,0]=ys:=⟨_,rfl⟩
 rw[hys] at henc
 have ht:txt ys=⟨#[48,5,2,1,3,66,0]⟩:=by rw[<-hys];rfl
 have Ht:=hide ht
 have Henc:=hide henc
 have Hb:=hide hb
 clear hcs hb hr henc hys ht
 go_enter Tryz.func9,Tryz.ntmps9
 go_upto_region 1 with fail
 refine wp_region_lit ?_
 refine wpList_buildTo rfl 42 #[(0,.const (.int .i64 3)),(1,.const (.int .i64 2))] rfl (some 4) rfl cs.toArray (by simp only[List.map_toArray,List.map_cons,List.map_nil];exact Hb.out) ?_
 simp only[pU]
 go_wp2_with (go_at_call 11;fail)
 refine Henc.out.mono ?_
 rintro e w1 ⟨⟨v,rfl,hown⟩,hb1⟩
 obtain⟨A,c,rfl,-,hH⟩:=own_form hown
 have hx:=run_txt (P:=Tryz.prog) w1 (c:=c) hH 33 9 5 Tryz.underlying33 Tryz.underlying5 Tryz.underlying9
 rw[Ht.out] at hx
 have HB1:=hide hb1
 clear hown hb1 hH Henc Hb Ht
 generalize ys.length=ny at *
 go_wp2
 go_ret
 exact⟨rfl,HB1.out⟩
theorem msgback_n (w w1:World) (p1:Nat) (cx:List Value) (Hw:Hid (w.alloc (.cells cx.toArray 30)=w1)) (Hp:Hid (w.heap.size=p1)) (HX:Hid (Blk w1 p1 cx)) (hnx:cx.length=32) (HBw:Hid (Below w.heap.size w w1))
  (SX:Hid (∀W,Below w1.heap.size w1 W->Calls Tryz.prog 10 #[.agg cx.toArray] W fun e w'=>e=.returned (.bool false)/\Below W.heap.size W w')):
  Calls Tryz.prog 5 #[.agg cx.toArray] w fun e w'=>e=.returned (.bool true)/\Below w.heap.size w w':=by
 have AW:Hid (∀W,Below w1.heap.size w1 W->Calls Tryz.prog 9 #[] W fun e w'=>e=.returned (.bool true)/\Below W.heap.size W w'):=hide fun W _=>awakeM_any W
 have HB1:Hid (Below w1.heap.size w1 w1):=hide (Below.refl _ _)
 go_enter Tryz.func5,Tryz.ntmps5
 go_wp2_with (first | (refine boxTo rfl 30 (.tmp 0) rfl (some 1) rfl cx rfl p1 Hp.out w1 Hw.out ?_) | (go_at_call 9;fail))
 refine (AW.out _ HB1.out).mono ?_
 rintro e w2 ⟨rfl,hb⟩
 have HB2:=hT HB1 hb
 clear hb
 have HX2:=hide (HX.out.fr (Fr.of (X:=fun _=>False) HB2.out) id)
 go_wp2_with (first | (go_at_call 10;fail) | (refine loadGR (by rfl) (.tmp 1) rfl p1 rfl cx HX2.out hnx ?_))
 refine (SX.out _ HB2.out).mono ?_
 rintro e w3 ⟨rfl,hb⟩
 have HB3:=hT HB2 hb
 clear hb
 go_wp2_with (go_at_call 9;fail)
 refine (AW.out _ HB3.out).mono ?_
 rintro e w4 ⟨rfl,hb⟩
 have HB4:=hT HB3 hb
 clear hb
 go_wp2
 go_ret
 exact⟨rfl,HBw.out.trans (HB4.out.mono HBw.out.size)⟩
theorem msgback_x (w w1:World) (p1:Nat) (cx:List Value) (Hw:Hid (w.alloc (.cells cx.toArray 30)=w1)) (Hp:Hid (w.heap.size=p1)) (HX:Hid (Blk w1 p1 cx)) (hnx:cx.length=32) (HBw:Hid (Below w.heap.size w w1))
  (SX:Hid (∀W,Below w1.heap.size w1 W->Calls Tryz.prog 10 #[.agg cx.toArray] W fun e w'=>e=.returned (.bool true)/\Below W.heap.size W w'))
  (m:MT) (b:List UInt8) (TX:Hid (∀W,Below w1.heap.size w1 W->Calls Tryz.prog 12 #[.agg cx.toArray] W (MConv m W)))
  (HE:Hid (∀(W:World) (v:Value),repM W (inB W) m v->Calls Tryz.prog 11 #[v] W (EncPost m b W)))
  (Hno:Hid (¬encV m b)):
  Calls Tryz.prog 5 #[.agg cx.toArray] w fun e w'=>e=.returned (.bool true)/\Below w.heap.size w w':=by
 have AW:Hid (∀W,Below w1.heap.size w1 W->Calls Tryz.prog 9 #[] W fun e w'=>e=.returned (.bool true)/\Below W.heap.size W w'):=hide fun W _=>awakeM_any W
 have HB1:Hid (Below w1.heap.size w1 w1):=hide (Below.refl _ _)
 go_enter Tryz.func5,Tryz.ntmps5
 go_wp2_with (first | (refine boxTo rfl 30 (.tmp 0) rfl (some 1) rfl cx rfl p1 Hp.out w1 Hw.out ?_) | (go_at_call 9;fail))
 refine (AW.out _ HB1.out).mono ?_
 rintro e w2 ⟨rfl,hb⟩
 have HB2:=hT HB1 hb
 clear hb
 have HX2:=hide (HX.out.fr (Fr.of (X:=fun _=>False) HB2.out) id)
 go_wp2_with (first | (go_at_call 10;fail) | (refine loadGR (by rfl) (.tmp 1) rfl p1 rfl cx HX2.out hnx ?_))
 refine (SX.out _ HB2.out).mono ?_
 rintro e w3 ⟨rfl,hb⟩
 have HB3:=hT HB2 hb
 clear hb
 have HX3:=hide (HX.out.fr (Fr.of (X:=fun _=>False) HB3.out) id)
 go_wp2_with (first | (go_at_call 12;fail) | (refine loadMR rfl (.tmp 1) rfl p1 rfl cx HX3.out hnx ?_))
 refine (TX.out _ HB3.out).mono ?_
 rintro e w4 hpost
 obtain⟨v4,rfl,hr,hb⟩:=hpost.out
 have HB4:=hT HB3 hb
 have R4:=hide hr
 clear hpost hr hb
 go_wp2_with (go_at_call 11;fail)
 refine (HE.out _ _ R4.out).mono ?_
 rintro e w5 hpost
 obtain rfl:=hpost.no Hno.out
 have HB5:=hide (HB4.out.trans (hpost.below.mono HB4.out.size))
 clear hpost
 go_wp2
 go_ret
 exact⟨rfl,HBw.out.trans (HB5.out.mono HBw.out.size)⟩
theorem msgback_y (w w1:World) (p1:Nat) (cx:List Value) (Hw:Hid (w.alloc (.cells cx.toArray 30)=w1)) (Hp:Hid (w.heap.size=p1)) (HX:Hid (Blk w1 p1 cx)) (hnx:cx.length=32) (HBw:Hid (Below w.heap.size w w1))
  (SX:Hid (∀W,Below w1.heap.size w1 W->Calls Tryz.prog 10 #[.agg cx.toArray] W fun e w'=>e=.returned (.bool true)/\Below W.heap.size W w'))
  (m:MT) (b:List UInt8) (TX:Hid (∀W,Below w1.heap.size w1 W->Calls Tryz.prog 12 #[.agg cx.toArray] W (MConv m W)))
  (HE:Hid (∀(W:World) (v:Value),repM W (inB W) m v->Calls Tryz.prog 11 #[v] W (EncPost m b W)))
  (Hyes:Hid (encV m b)) (hbl:b.length<=16384) (RX:Hid (∀W,Below w1.heap.size w1 W->repM W (inB W) m (.agg cx.toArray)))
  (PX:Hid (∀(W:World) (v v':Value),repM W (inB W) m v->repM W (inB W) m v'->Calls Tryz.prog 18 #[v,v'] W fun e w'=>e=.returned (.bool true)/\Below W.heap.size W w'))
  (OX:Hid (∀(W:World) (v:Value),repM W (inB W) m v->Calls Tryz.prog 17 #[v] W (MConv m W)))
  (RR:Hid (∀(W:World) (v v':Value),repM W (inB W) m v->repM W (inB W) m v'->Calls Tryz.prog 16 #[v,v'] W fun e w'=>e=.returned (.bool true)/\Below W.heap.size W w')):
  Calls Tryz.prog 5 #[.agg cx.toArray] w fun e w'=>e=.returned (.bool true)/\Below w.heap.size w w':=by
 have AW:Hid (∀W,Below w1.heap.size w1 W->Calls Tryz.prog 9 #[] W fun e w'=>e=.returned (.bool true)/\Below W.heap.size W w'):=hide fun W _=>awakeM_any W
 have HB1:Hid (Below w1.heap.size w1 w1):=hide (Below.refl _ _)
 go_enter Tryz.func5,Tryz.ntmps5
 go_wp2_with (first | (refine boxTo rfl 30 (.tmp 0) rfl (some 1) rfl cx rfl p1 Hp.out w1 Hw.out ?_) | (go_at_call 9;fail))
 refine (AW.out _ HB1.out).mono ?_
 rintro e w2 ⟨rfl,hb⟩
 have HB2:=hT HB1 hb
 clear hb
 have HX2:=hide (HX.out.fr (Fr.of (X:=fun _=>False) HB2.out) id)
 go_wp2_with (first | (go_at_call 10;fail) | (refine loadGR (by rfl) (.tmp 1) rfl p1 rfl cx HX2.out hnx ?_))
 refine (SX.out _ HB2.out).mono ?_
 rintro e w3 ⟨rfl,hb⟩
 have HB3:=hT HB2 hb
 clear hb
 have HX3:=hide (HX.out.fr (Fr.of (X:=fun _=>False) HB3.out) id)
 go_wp2_with (first | (go_at_call 12;fail) | (refine loadMR rfl (.tmp 1) rfl p1 rfl cx HX3.out hnx ?_))
 refine (TX.out _ HB3.out).mono ?_
 rintro e w4 hpost
 obtain⟨v4,rfl,hr,hb⟩:=hpost.out
 have HB4:=hT HB3 hb
 have R4:=hide hr
 clear hpost hr hb
 go_wp2_with (go_at_call 11;fail)
 refine (HE.out _ _ R4.out).mono ?_
 rintro e w5 hpost
 obtain⟨vb,rfl,hown⟩:=hpost.yes Hyes.out
 have HB5:=hide (HB4.out.trans (hpost.below.mono HB4.out.size))
 obtain⟨A,c,rfl,hc1,hcm,hH⟩:=Ber.own_form' hown
 have hde:=decode_any w5 A c b hH hc1 hcm
 have Hde:=hide hde
 clear hpost hown hH hde hc1 hcm
 obtain⟨nb,hnb⟩:∃nb,b.length=nb:=⟨_,rfl⟩
 rw[hnb] at Hde hbl
 simp only
 rw[hnb]
 have Hnb:=hide hnb
 clear hnb
 go_wp2_with (go_at_call 14;fail)
 refine Hde.out.mono ?_
 rintro e w6 hpost
 obtain⟨m2,v2,rfl,hrep,hm2,hb6⟩:=hpost.out
 have hde2:=Hyes.out.2
 have hm3:m2=m:=by rw[hm2,hde2];rfl
 have hcode:(if 16384<b.length then (4:Int) else if (Rd.decode b).isSome=true then 0 else 2)=0:=by rw[Hnb.out,if_neg (by omega),hde2];rfl
 rw[hcode]
 subst hm3
 obtain⟨g0,g1,g2,g3,g4,g5,g6,ua,ul,uc,ur,uk,rfl,hY⟩:=hrep
 obtain⟨cy,hcy⟩:∃cy,mcells m2 g0 g1 g2 g3 g4 g5 g6 ua ul uc ur uk=cy:=⟨_,rfl⟩
 have hny:cy.length=32:=by rw[<-hcy];rfl
 have hBz:Blk (w6.alloc (.cells #[.int .i64 0,.int .i64 0,.string ⟨#[]⟩,.string ⟨#[]⟩,.int .i64 0,.int .i64 0,.int .i64 0,.int .i64 0,.int .i64 0,.bool false,.int .i64 0,.string ⟨#[]⟩,.string ⟨#[]⟩,.string ⟨#[]⟩,.string ⟨#[]⟩,.slice none 0 0,.slice none 0 0,.slice none 0 0,.slice none 0 0,.slice none 0 0,.string ⟨#[]⟩,.bool false,.bool false,.string ⟨#[]⟩,.string ⟨#[]⟩,.string ⟨#[]⟩,.int .i64 0,.int .i64 0,.string ⟨#[]⟩,.string ⟨#[]⟩,.slice none 0 0,.slice none 0 0] 42)) w6.heap.size zeroCells:=Blk.new w6 zeroCells 42
 have h1y:=MReps.one hY
 rw[hcy] at h1y
 obtain⟨w7,hw7⟩:∃w7,(w6.alloc (.cells #[.int .i64 0,.int .i64 0,.string ⟨#[]⟩,.string ⟨#[]⟩,.int .i64 0,.int .i64 0,.int .i64 0,.int .i64 0,.int .i64 0,.bool false,.int .i64 0,.string ⟨#[]⟩,.string ⟨#[]⟩,.string ⟨#[]⟩,.string ⟨#[]⟩,.slice none 0 0,.slice none 0 0,.slice none 0 0,.slice none 0 0,.slice none 0 0,.string ⟨#[]⟩,.bool false,.bool false,.string ⟨#[]⟩,.string ⟨#[]⟩,.string ⟨#[]⟩,.int .i64 0,.int .i64 0,.string ⟨#[]⟩,.string ⟨#[]⟩,.slice none 0 0,.slice none 0 0] 42)).setCells w6.heap.size 0 cy=w7:=⟨_,rfl⟩
 have hf7:Fr (fun _=>False) w6 w7:=by
  rw[<-hw7]
  exact (Fr.alloc (fun _=>False) w6 (.cells #[.int .i64 0,.int .i64 0,.string ⟨#[]⟩,.string ⟨#[]⟩,.int .i64 0,.int .i64 0,.int .i64 0,.int .i64 0,.int .i64 0,.bool false,.int .i64 0,.string ⟨#[]⟩,.string ⟨#[]⟩,.string ⟨#[]⟩,.string ⟨#[]⟩,.slice none 0 0,.slice none 0 0,.slice none 0 0,.slice none 0 0,.slice none 0 0,.string ⟨#[]⟩,.bool false,.bool false,.string ⟨#[]⟩,.string ⟨#[]⟩,.string ⟨#[]⟩,.int .i64 0,.int .i64 0,.string ⟨#[]⟩,.string ⟨#[]⟩,.slice none 0 0,.slice none 0 0] 42)).trans' (Fr.setCells (X:=fun k=>k=w6.heap.size) _ w6.heap.size 0 cy rfl) (fun k hk q=>by omega)
 have hB7:Blk w7 w6.heap.size cy:=by rw[<-hw7];exact blk_sets32 hBz rfl hny
 have hb7:Below w6.heap.size w6 w7:=hf7.below (Nat.le_refl _) (fun k q=>q.elim)
 have hrY:repM w7 (inB w7) m2 (.agg cy.toArray):=⟨g0,g1,g2,g3,g4,g5,g6,ua,ul,uc,ur,uk,by rw[hcy],hY.move (fun p hp=>hb7.cell (by exact hp.2)) (fun k hk=>Nat.lt_of_lt_of_le hk.2 hb7.size)⟩
 have HB6:=hT HB5 hb6
 have HB7:=hT HB6 hb7
 obtain⟨p5,hp5⟩:∃p5,w6.heap.size=p5:=⟨_,rfl⟩
 have HBz:=hide hBz
 have H1y:=hide h1y
 have Hw7:=hide hw7
 rw[hp5] at hB7
 have Hp5:=hide hp5
 have HY7:=hide hB7
 have HrY:=hide hrY
 rw[hcy]
 clear hpost hY hcy hBz h1y hw7 hf7 hB7 hb7 hrY hp5 hb6 Hde hde2 hcode hm2 Hnb hbl R4
 go_upto_region 7 with (refine storeToM (w6.alloc (.cells #[.int .i64 0,.int .i64 0,.string ⟨#[]⟩,.string ⟨#[]⟩,.int .i64 0,.int .i64 0,.int .i64 0,.int .i64 0,.int .i64 0,.bool false,.int .i64 0,.string ⟨#[]⟩,.string ⟨#[]⟩,.string ⟨#[]⟩,.string ⟨#[]⟩,.slice none 0 0,.slice none 0 0,.slice none 0 0,.slice none 0 0,.slice none 0 0,.string ⟨#[]⟩,.bool false,.bool false,.string ⟨#[]⟩,.string ⟨#[]⟩,.string ⟨#[]⟩,.int .i64 0,.int .i64 0,.string ⟨#[]⟩,.string ⟨#[]⟩,.slice none 0 0,.slice none 0 0] 42)) rfl (.tmp 5) (.tmp 29) rfl w6.heap.size zeroCells cy rfl rfl HBz.out rfl hny H1y.out w7 Hw7.out ?_)
 try rw[Hp5.out]
 have KX:Hid (∀W,Below w7.heap.size w7 W->W.rangeAt p1 0 cx):=hide fun W hW=>(HX.out.fr (Fr.of (X:=fun _=>False) (HB7.out.trans (hW.mono HB7.out.size))) id).range
 have KY:Hid (∀W,Below w7.heap.size w7 W->W.rangeAt p5 0 cy):=hide fun W hW=>(HY7.out.fr (Fr.of (X:=fun _=>False) hW) id).range
 have RY:Hid (∀W,Below w7.heap.size w7 W->repM W (inB W) m2 (.agg cy.toArray)):=hide fun W hW=>repM_below HrY.out hW
 have RX7:Hid (∀W,Below w7.heap.size w7 W->repM W (inB W) m2 (.agg cx.toArray)):=hide fun W hW=>RX.out W (HB7.out.trans (hW.mono HB7.out.size))
 have TX7:Hid (∀W,Below w7.heap.size w7 W->Calls Tryz.prog 12 #[.agg cx.toArray] W (MConv m2 W)):=hide fun W hW=>TX.out W (HB7.out.trans (hW.mono HB7.out.size))
 have HB0:Hid (Below w7.heap.size w7 w7.drew):=hide (Below.refl _ _).drew
 clear HX HX2 HX3 AW SX HB1 HB2 HB3 HB4 HB5 HB6 Hw Hp HBz H1y Hw7 HY7 HrY RX TX HE Hyes
 refine zAs (by kernel_rfl) ?_
 generalize w7.drew=wd at *
 have HBc:=HB0
 refine zAa 0 (some 31) rfl rfl (by kernel_rfl) rfl (by rfl) (fun W hW=>by go_simp<;>with_reducible rfl) ?_
 try simp only[pU]
 refine zAa 1 (some 32) (v:=.bool true) rfl rfl (by kernel_rfl) rfl (by rfl) (fun W hW=>by go_simp<;>with_reducible rfl) ?_
 try simp only[pU]
 refine zAa 2 (some 33) (v:=.bool true) rfl rfl (by kernel_rfl) rfl (by rfl) (fun W hW=>by go_simp<;>with_reducible rfl) ?_
 try simp only[pU]
 refine zAa 3 (some 34) (v:=.agg cy.toArray) rfl rfl (by kernel_rfl) rfl (by rfl) (fun W hW=>?ya3) ?_
 case ya3=>
  exact zAd _ _ _ rfl p5 0 rfl _ (run_loadVar_mid W p5 0 42 cy _ (KY.out W (HBc.out.trans (hW.mono HBc.out.size))) Tryz.underlying42 rfl (by rw[hny];kernel_rfl))
 try simp only[pU]
 refine zAa 4 (some 35) (v:=.agg cx.toArray) rfl rfl (by kernel_rfl) rfl (by rfl) (fun W hW=>?ya4) ?_
 case ya4=>
  exact zAd _ _ _ rfl p1 0 rfl _ (run_loadVar_mid W p1 0 30 cx _ (KX.out W (HBc.out.trans (hW.mono HBc.out.size))) Tryz.underlying30 rfl (by rw[hnx];kernel_rfl))
 try simp only[pU]
 refine zAc 5 rfl (by kernel_rfl) (fun K hK=>?_)
 go_simp
 refine (TX7.out _ HBc.out).mono ?_
 rintro e k1 hpost
 obtain⟨v36,rfl,hr,hb⟩:=hpost.out
 have R36:=hide hr
 clear hr hpost
 replace HBc:=hT HBc hb
 refine hK.out _ _ hb ?_
 clear hK K hb
 try simp only[pU]
 refine zAc 6 rfl (by kernel_rfl) (fun K hK=>?_)
 go_simp
 refine (PX.out _ _ _ (RY.out _ HBc.out) R36.out).mono ?_
 rintro e k2 ⟨rfl,hb⟩
 clear R36
 replace HBc:=hT HBc hb
 refine hK.out _ _ hb ?_
 clear hK K hb
 try simp only[pU]
 refine zAa 7 (some 38) (v:=.bool true) rfl rfl (by kernel_rfl) rfl (by rfl) (fun W hW=>by go_simp<;>with_reducible rfl) ?_
 try simp only[pU]
 refine zAa 8 (some 39) (v:=.bool true) rfl rfl (by kernel_rfl) rfl (by rfl) (fun W hW=>by go_simp<;>with_reducible rfl) ?_
 try simp only[pU]
 refine zAa 9 (some 40) (v:=.agg cy.toArray) rfl rfl (by kernel_rfl) rfl (by rfl) (fun W hW=>?ya9) ?_
 case ya9=>
  exact zAd _ _ _ rfl p5 0 rfl _ (run_loadVar_mid W p5 0 42 cy _ (KY.out W (HBc.out.trans (hW.mono HBc.out.size))) Tryz.underlying42 rfl (by rw[hny];kernel_rfl))
 try simp only[pU]
 refine zAa 11 (some 42) (v:=.agg cx.toArray) rfl rfl (by kernel_rfl) rfl (by rfl) (fun W hW=>?ya11) ?_
 case ya11=>
  exact zAd _ _ _ rfl p1 0 rfl _ (run_loadVar_mid W p1 0 30 cx _ (KX.out W (HBc.out.trans (hW.mono HBc.out.size))) Tryz.underlying30 rfl (by rw[hnx];kernel_rfl))
 try simp only[pU]
 refine zAc 10 rfl (by kernel_rfl) (fun K hK=>?_)
 go_simp
 refine (OX.out _ _ (RY.out _ HBc.out)).mono ?_
 rintro e k3 hpost
 obtain⟨v41,rfl,hr,hb⟩:=hpost.out
 have R41:=hide hr
 clear hr hpost
 replace HBc:=hT HBc hb
 refine hK.out _ _ hb ?_
 clear hK K hb
 try simp only[pU]
 refine zAc 12 rfl (by kernel_rfl) (fun K hK=>?_)
 go_simp
 refine (RR.out _ _ _ R41.out (RX7.out _ HBc.out)).mono ?_
 rintro e k4 ⟨rfl,hb⟩
 clear R41
 replace HBc:=hT HBc hb
 refine hK.out _ _ hb ?_
 clear hK K hb
 try simp only[pU]
 refine zAa 13 (some 44) (v:=.bool true) rfl rfl (by kernel_rfl) rfl (by rfl) (fun W hW=>by go_simp<;>with_reducible rfl) ?_
 try simp only[pU]
 refine zAa 14 (some 2) rfl rfl (by kernel_rfl) rfl (by rfl) (fun W hW=>by go_simp<;>with_reducible rfl) ?_
 try simp only[pU]
 refine zAi (by kernel_rfl) ?_ _
 go_wp2
 go_ret
 exact⟨rfl,HBw.out.trans ((HB7.out.trans (HBc.out.mono HB7.out.size)).mono HBw.out.size)⟩
theorem msgback_law {H:Type} (w:World) (x:MT) (v:Value) (d:DataW H) (hx:Opens.MsgIn w v d x) (hdx:Rows.uptoBulk d<=1048576):
  Calls Tryz.prog 5 #[v] w fun e w'=>e=.returned (.bool true)/\Below w.heap.size w w':=by
 obtain⟨f0,f1,f2,f3,f4,f5,f6,va,vl,vc,vr,vk,rfl,hX⟩:=hx.out
 have hbx:=hx.bulk
 have hi:=hx.ints
 have hmx:mw x<=1048576:=by omega
 have hch:∀c∈x.chs,-9223372036854775808<=c.1/\c.1<=9223372036854775807:=by
  obtain⟨A,c,xs,_,_,_,hr⟩:=hX.chs
  exact rowH0_ints hr
 have SXx:∀W,Below w.heap.size w W->Calls Tryz.prog 10 #[.agg (mcells x f0 f1 f2 f3 f4 f5 f6 va vl vc vr vk).toArray] W fun e w'=>e=.returned (.bool (smallM x))/\Below W.heap.size W w':=fun W hW=>msmall_any W x _ _ _ _ _ _ _ _ _ _ _ _ (hX.below hW) hmx
 have RX:smallM x=true->∀W,Below w.heap.size w W->repM W (inB W) x (.agg (mcells x f0 f1 f2 f3 f4 f5 f6 va vl vc vr vk).toArray):=fun h W hW=>⟨_,_,_,_,_,_,_,_,_,_,_,_,rfl,(hX.below hW).reps (few_of_smallM h)⟩
 obtain⟨cx,hcx⟩:∃cx,mcells x f0 f1 f2 f3 f4 f5 f6 va vl vc vr vk=cx:=⟨_,rfl⟩
 have hnx:cx.length=32:=by rw[<-hcx];rfl
 rw[hcx] at SXx RX ⊢
 have hB1:Blk (w.alloc (.cells cx.toArray 30)) w.heap.size cx:=Blk.new w cx 30
 have hb:Below w.heap.size w (w.alloc (.cells cx.toArray 30)):=below1 _ _
 obtain⟨w1,hw1⟩:∃w1,w.alloc (.cells cx.toArray 30)=w1:=⟨_,rfl⟩
 rw[hw1] at hB1 hb
 have hup:∀W,Below w1.heap.size w1 W->Below w.heap.size w W:=fun W hW=>hb.trans (hW.mono hb.size)
 have Hp:Hid (w.heap.size=w.heap.size):=hide rfl
 cases hsx:smallM x with
 | false=>
  rw[hsx] at SXx
  exact msgback_n w w1 _ cx (hide hw1) Hp (hide hB1) hnx (hide hb) (hide fun W hW=>SXx W (hup W hW))
 | true=>
  rw[hsx] at SXx
  have hwee:=wee_of_smallM hsx
  have htiny:x.filt.tiny:=by
   have h:=hsx
   unfold smallM FT.smallB at h
   simp only[Bool.and_eq_true,decide_eq_true_eq] at h
   exact FT.tiny_of_small h.2
  by_cases hv:encV x (laidM x)
  ·refine msgback_y w w1 _ cx (hide hw1) Hp (hide hB1) hnx (hide hb) (hide fun W hW=>SXx W (hup W hW)) x (laidM x) (hide fun W hW=>theirsM_any W x _ (RX hsx W (hup W hW)) hwee) (hide fun W v h=>encode_small W x v h hmx hi hch htiny)
    (hide hv) (decode_good hv.2).2.2 (hide fun W hW=>RX hsx W (hup W hW)) (hide fun W v v' h h'=>same_any W x x v v' h h' hwee true (by simp)) (hide fun W v h=>oursM_any W x v h hwee) (hide fun W v v' h h'=>rsame_refl W x v v' h h')
  ·exact msgback_x w w1 _ cx (hide hw1) Hp (hide hB1) hnx (hide hb) (hide fun W hW=>SXx W (hup W hW)) x (laidM x) (hide fun W hW=>theirsM_any W x _ (RX hsx W (hup W hW)) hwee) (hide fun W v h=>encode_small W x v h hmx hi hch htiny) (hide hv)
end Go.Proofs.YtcpjmgfloimfhaaGreat
