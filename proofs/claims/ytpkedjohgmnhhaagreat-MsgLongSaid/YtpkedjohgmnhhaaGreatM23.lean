/- Several texts in one: LWrTwo, LLongI. By an AI agent. -/
import Derived.Test.YtpkedjohgmnhhaaGreatLWrMsg
import Derived.Test.YtpkedjohgmnhhaaGreatM22
import Derived.Test.YtpkedjohgmnhhaaGreatM19
set_option maxRecDepth 100000
set_option maxHeartbeats 32000000
set_option linter.unusedSimpArgs false
namespace Go.Proofs.YtpkedjohgmnhhaaGreat
open Go.RowKit
open Wr
set_option linter.unusedVariables false
theorem content_two (w:World) (m:MT) (v:Value) (hm:repM w (inB w) m v) (hk:m.kind=2):Calls Tryz.prog 64 #[v] w (CPost [] w):=by
 obtain⟨f0,f1,f2,f3,f4,f5,f6,va,vl,vc,vr,vk,rfl,hX⟩:=hm
 obtain⟨cs,hcs⟩:∃cs,mcells m f0 f1 f2 f3 f4 f5 f6 va vl vc vr vk=cs:=⟨_,rfl⟩
 rw[hcs]
 have hB1:Blk (w.alloc (.cells cs.toArray 42)) w.heap.size cs:=Blk.new w cs 42
 have hb1:Below w.heap.size w (w.alloc (.cells cs.toArray 42)):=(Below.refl _ _).alloc (Nat.le_refl _) _
 obtain⟨w1,hw1⟩:∃w1,w.alloc (.cells cs.toArray 42)=w1:=⟨_,rfl⟩
 rw[hw1] at hB1 hb1
 have k1:w1.cell? ⟨w.heap.size,1,none⟩=some (.int .i64 2):=hB1.cells 1 _ (by rw[←hcs,←hk];rfl)
 have Hw:=hide hw1
 have HB:=hide hb1
 clear hX hB1 hb1 hw1 hcs hk
 go_enter Tryz.func64,Tryz.ntmps64
 go_upto_region 1 with fail
 rw[Hw.out]
 go_wp2
 go_ret
 exact⟨⟨none,0,rfl,⟨rfl,.inl rfl⟩,HB.out⟩⟩
theorem content_ten (w:World) (m:MT) (v:Value) (hm:repM w (inB w) m v) (hk:m.kind=10):Calls Tryz.prog 64 #[v] w (CPost m.name w):=by
 obtain⟨f0,f1,f2,f3,f4,f5,f6,va,vl,vc,vr,vk,rfl,hX⟩:=hm
 obtain⟨cs,hcs⟩:∃cs,mcells m f0 f1 f2 f3 f4 f5 f6 va vl vc vr vk=cs:=⟨_,rfl⟩
 rw[hcs]
 have hB1:Blk (w.alloc (.cells cs.toArray 42)) w.heap.size cs:=Blk.new w cs 42
 have hb1:Below w.heap.size w (w.alloc (.cells cs.toArray 42)):=(Below.refl _ _).alloc (Nat.le_refl _) _
 obtain⟨w1,hw1⟩:∃w1,w.alloc (.cells cs.toArray 42)=w1:=⟨_,rfl⟩
 rw[hw1] at hB1 hb1
 have k1:w1.cell? ⟨w.heap.size,1,none⟩=some (.int .i64 10):=hB1.cells 1 _ (by rw[←hcs,←hk];rfl)
 have k2:w1.cell? ⟨w.heap.size,2,none⟩=some (.string (txt m.name)):=hB1.cells 2 _ (by rw[←hcs];rfl)
 obtain⟨cap,w2,hrun,hR,hb2⟩:=run_bytes8 (P:=Tryz.prog) w1 (txt m.name) 9 33 5 Tryz.underlying9 Tryz.underlying33 Tryz.underlying5
 rw[txt_size] at hrun
 have hR:Row8 w2 w1.heap.size m.name:=hR
 have hH:Has w2 w2.heap.size 1 (some ⟨w1.heap.size,0,none⟩) m.name.length (bys m.name):=hR.has.upto hR.lt
 have Hw:=hide hw1
 have HB:=hide (hb1.trans (hb2.mono hb1.size))
 have HH:=hide hH
 generalize w1.heap.size=g1 at *
 generalize txt m.name=tn at *
 generalize m.name=nm at *
 generalize hnl:nm.length=nl at *
 have Hnl:=hide hnl
 clear hX hB1 hb1 hw1 hcs hk hR hH hb2 hnl
 go_enter Tryz.func64,Tryz.ntmps64
 go_upto_region 1 with fail
 rw[Hw.out]
 go_wp2
 go_ret
 exact⟨⟨_,_,by rw[Hnl.out];rfl,by rw[Hnl.out];exact HH.out,HB.out⟩⟩
theorem enc_small (m:MT) (w:World) (v:Value) (hm:repM w (inB w) m v) (hf:FormedM m) (hk:m.kind=2∨m.kind=10) (hctl:m.ctls=[]) (hl:(bytesW m).length≤16384):
  Calls Tryz.prog 11 #[v] w fun e w'=>(∃v,e=.returned (.tuple #[v,.int .i64 0])∧w'.ownsRow w.heap.size 5 1 v (bytesW m).length (bys (bytesW m)))∧Below w.heap.size w w':=by
 have hid:=hf.ok.ints.1
 unfold in31 at hid
 have hnm:=hf.ok.texts.1
 obtain⟨t1,t2,-⟩:=oper_tag m.kind hf.known
 have hwr:∀W,Below w.heap.size w W→Calls Tryz.prog 22 #[v] W (WPost (bytesW m) W):=fun W hW=>by
  have hmW:=repM_below hm hW
  rcases hk with hk | hk
  ·have e:bytesW m=Wr.enc [(0x30,Wr.enc [Wr.numF 2 m.id,(operTag m.kind,[])])]:=by
    unfold bytesW messageF ctlsF operF contentF
    rw[hctl,hk]
    rfl
   rw[e]
   exact write_of W m v hmW [] (operTag m.kind) (by omega) hctl t2 (by simp) (fun V hV=>content_two V m v (repM_below hmW hV) hk)
  ·have e:bytesW m=Wr.enc [(0x30,Wr.enc [Wr.numF 2 m.id,(operTag m.kind,m.name)])]:=by
    unfold bytesW messageF ctlsF operF
    rw[hctl,hk]
    rfl
   rw[e]
   exact write_of W m v hmW m.name (operTag m.kind) (by omega) hctl t2 (by omega) (fun V hV=>content_ten V m v (repM_below hmW hV) hk)
 refine (encode_of w m v hm (bytesW m) (by omega) (fun _=>hwr)).mono ?_
 rintro e w' hpost
 have hz:=((kept_zero hf.kept).2.1 (by omega)).2.2.2.2.2.1
 have hv:encV m (bytesW m):=⟨by rw[hz];decide,decode_bytes m hf hl⟩
 exact⟨hpost.yes hv,hpost.below⟩
end Go.Proofs.YtpkedjohgmnhhaaGreat
namespace Go.Proofs.YtpkedjohgmnhhaaGreat
open Go.RowKit
open Wr
set_option linter.unusedVariables false
theorem more_int (n:Int) (h0:0≤n) (h1:n≤2147483647) (i:Nat) (hi:i≤3):127<n/2 ^ (8*i)↔i+1<Ber.isize n:=by
 have hc:i=0∨i=1∨i=2∨i=3:=by omega
 unfold Ber.isize
 rcases hc with rfl | rfl | rfl | rfl<;>simp only[Nat.mul_zero,Nat.mul_one,Nat.reduceMul]<;>(repeat' split)<;>omega
theorem byte_int (y:Int):IntKind.u8.wrap y=(((UInt8.ofNat (y % 256).toNat).toNat:Nat):Int):=by
 rw[UInt8.toNat_ofNat']
 simp[IntKind.wrap,IntKind.bits,IntKind.signed]
 omega
theorem integer_any (n:Int) (h0:0≤n) (h1:n≤2147483647) (w:World):
  Calls Tryz.prog 19 #[.int .i64 n] w (WPost (Ber.intOfs n) w):=by
 obtain⟨N,hN⟩:∃N,Ber.isize n-1=N:=⟨_,rfl⟩
 have hi4:Ber.isize n≤4:=by unfold Ber.isize;(repeat' split)<;>omega
 have hi1:=(Ber.isize_le n).1
 have hmore:Hid (∀i,i≤3→(127<n/2 ^ (8*i)↔i<N)):=hide fun i hi=>(more_int n h0 h1 i hi).trans (by omega)
 have hfin:Hid (Ber.intOfs n=Ber.bei (N+1) n):=hide (by rw[intOfs_bei,show N+1=Ber.isize n by omega])
 have hN3:N≤3:=by omega
 have hstep:Hid (∀i,Ber.bei (i+1) n=UInt8.ofNat (n/2 ^ (8*i) % 256).toNat::Ber.bei i n):=hide fun i=>bei_front i n
 have hdiv:Hid (∀i:Nat,n/2 ^ (8*i)/256=n/2 ^ (8*(i+1))):=hide fun i=>by
  have hp:(0:Int)≤2 ^ (8*i):=Int.le_of_lt (Int.pow_pos (by omega))
  have e:(2:Int) ^ (8*(i+1))=2 ^ (8*i)*256:=by rw[show 8*(i+1)=8*i+8 by omega,Int.pow_add];rfl
  rw[e,Int.ediv_ediv_of_nonneg hp]
 have hpos:Hid (∀i:Nat,0≤n/2 ^ (8*i)∧n/2 ^ (8*i)≤2147483647):=hide fun i=>by
  have hp:(0:Int)<2 ^ (8*i):=Int.pow_pos (by omega)
  exact⟨Int.ediv_nonneg h0 (Int.le_of_lt hp),Int.le_trans (Int.ediv_le_self _ h0) h1⟩
 have hlen:Hid (∀k,(Ber.bei k n).length=k):=hide fun k=>Ber.bei_length k n
 obtain⟨b0,hb0⟩:∃b:UInt8,UInt8.ofNat (n % 256).toNat=b:=⟨_,rfl⟩
 have hw0:IntKind.u8.wrap n=(b0.toNat:Int):=by rw[byte_int,hb0]
 have hbei1:Hid (Ber.bei 1 n=[b0]):=hide (by rw[hstep.out 0,←hb0];simp[Ber.bei])
 have ho0:Hid ((w.alloc (.cells #[.int .u8 (b0.toNat:Int)] 5)).ownsRow w.heap.size 5 1 (.slice (some ⟨w.heap.size,0,none⟩) 1 1) 1 (bys (Ber.bei 1 n))):=hide (by
  rw[hbei1.out]
  have:=own_lit w #[.int .u8 (b0.toNat:Int)] 5 1 (by unfold maxLen;omega) rfl
  simpa[bys,c8] using this)
 have hb1:Hid (Below w.heap.size w (w.alloc (.cells #[.int .u8 (b0.toNat:Int)] 5))):=hide ((Below.refl _ w).alloc (Nat.le_refl _) _)
 have hn0:Hid (n=n/2 ^ (8*0)):=hide (by simp)
 clear hN hi4 hi1 hb0 hbei1
 go_enter Tryz.func19,Tryz.ntmps19
 go_wp2
 go_loopg [0,3] N (fun k s0 s3 wx=>∃i:Nat,∃y:Int,i+k=N∧s0=.int .i64 y∧Hid (y=n/2 ^ (8*i))∧Hid (wx.ownsRow w.heap.size 5 1 s3 (i+1) (bys (Ber.bei (i+1) n)))∧Hid (Below w.heap.size w wx))
 case atStart=>exact⟨0,n,by omega,rfl,hn0,ho0,hb1⟩
 case round=>
  obtain⟨i,y,hig,rfl,hy,hor,hB⟩:=hrel
  clear ho0 hb1 hw0
  cases gk with
  | zero=>
   obtain rfl:i=N:=by omega
   have hz:¬(127<y):=by rw[hy.out];intro h;have:=(hmore.out i hN3).1 h;omega
   have HO:Hid (wr.ownsRow w.heap.size 5 1 _ (Ber.intOfs n).length (bys (Ber.intOfs n))):=hide (by rw[hfin.out,hlen.out];exact hor.out)
   clear hor hmore hfin hstep hdiv hpos hlen hy hn0
   go_wp2
   go_ret
   exact⟨⟨_,rfl,HO.out,hB.out⟩⟩
  | succ r=>
   have hz:127<y:=by rw[hy.out];exact (hmore.out i (by omega)).2 (by omega)
   have hyp:=hpos.out i
   rw[←hy.out] at hyp
   obtain⟨z,hzz⟩:∃z,y/256=z:=⟨_,rfl⟩
   have hz2:Hid (z=n/2 ^ (8*(i+1))):=hide (by rw[←hdiv.out,←hy.out,hzz])
   obtain⟨b,hb⟩:∃b:UInt8,UInt8.ofNat (z % 256).toNat=b:=⟨_,rfl⟩
   have hwb:IntKind.u8.wrap z=(b.toNat:Int):=by rw[byte_int,hb]
   have hnew:Hid ([b]++Ber.bei (i+1) n=Ber.bei (i+2) n):=hide (by rw[hstep.out (i+1),←hz2.out,hb];rfl)
   obtain⟨A3,c3,hs3,-,hH3⟩:=own_form hor.out
   subst hs3
   have hba:Below wr.heap.size wr (wr.alloc (.cells #[.int .u8 (b.toNat:Int)] 5)):=(Below.refl _ wr).alloc (Nat.le_refl _) _
   have hH4:=hH3.below hba
   have hol:(wr.alloc (.cells #[.int .u8 (b.toNat:Int)] 5)).ownsRow w.heap.size 5 1 (.slice (some ⟨wr.heap.size,0,none⟩) 1 1) 1 (bys [b]):=own_base (base:=wr.heap.size) (by
    have:=own_lit wr #[.int .u8 (b.toNat:Int)] 5 1 (by unfold maxLen;omega) rfl
    simpa[bys,c8] using this) hB.out.size
   have hbw:w.heap.size≤(wr.alloc (.cells #[.int .u8 (b.toNat:Int)] 5)).heap.size:=by have:=hB.out.size;have:=hba.size;omega
   obtain⟨ys,hys⟩:∃ys,Ber.bei (i+2) n=ys:=⟨_,rfl⟩
   rw[hys] at hnew
   have hyl:Hid (1+(i+1)=ys.length):=hide (by rw[←hys,hlen.out];omega)
   have Hys2:=hide hys
   have hBa:=hide (hB.out.trans (hba.mono hB.out.size))
   obtain⟨lb,hlb⟩:∃lb,Ber.bei (i+1) n=lb:=⟨_,rfl⟩
   rw[hlb] at hnew hH4
   have hi3:i≤3:=by omega
   clear hor hmore hfin hstep hdiv hpos hlen hy hn0 hH3 hys hlb hb hba hyp hB
   go_wp2_with (at_builtin;go_must (refine app8g _ rfl (.tmp 13) (.tmp 14) rfl w.heap.size _ 1 [b] rfl hol _ A3 (i+1) c3 lb rfl hH4 ys hnew hyl (by omega) hbw ?_))
   intro v' w6 hor6 hb6 _
   have HO6:Hid (w6.ownsRow w.heap.size 5 1 v' (i+1+1) (bys (Ber.bei (i+1+1) n))):=hide (by rw[Hys2.out,show i+1+1=ys.length by have:=hyl.out;omega];exact hor6)
   have HB6:=hide (hBa.out.trans hb6)
   clear hol hbw hBa hH4 hor6 hb6 hwb
   go_wp2
   go_roundg r
   case measure=>omega
   case rel=>exact⟨i+1,z,by omega,rfl,hz2,HO6,HB6⟩
theorem zeroRepOf (w:World) (P:Nat→Prop) (m:MT) (h:m.filt=.mk 0 [] [] [] [] [] []∧m.attrs=[]∧m.lst=[]∧m.chs=[]∧m.refs=[]∧m.ctls=[]):
  repM w P m (.agg (mcells m (.int .i64 0) (.string ⟨#[]⟩) (.string ⟨#[]⟩) (.string ⟨#[]⟩) (.string ⟨#[]⟩) (.slice none 0 0) (.slice none 0 0) (.slice none 0 0) (.slice none 0 0) (.slice none 0 0) (.slice none 0 0) (.slice none 0 0)).toArray):=by
 obtain⟨z1,z2,z3,z4,z5,z6⟩:=h
 refine⟨_,_,_,_,_,_,_,_,_,_,_,_,rfl,⟨?_,?_,?_,?_,?_,?_⟩⟩
 ·rw [z1];exact⟨none,0,none,0,[],rfl,⟨by unfold maxLen;simp,by unfold maxLen;simp⟩,HasP.none _,HasP.none _,rfl⟩
 ·rw [z2];exact repL_zero
 ·rw [z3];exact repL_zero
 ·rw [z4];exact repL_zero
 ·rw [z5];exact repL_zero
 ·rw [z6];exact repL_zero
def wakeM:MT:={ id:=3,kind:=2 }
theorem wake_built:Tryz.prog.built 42 [(0,.int .i64 3),(1,.int .i64 2)]=some ([.int .i64 3,.int .i64 2,.string ⟨#[]⟩,.string ⟨#[]⟩,.int .i64 0,.int .i64 0,.int .i64 0,.int .i64 0,.int .i64 0,.bool false,.int .i64 0,.string ⟨#[]⟩,.string ⟨#[]⟩,.string ⟨#[]⟩,.string ⟨#[]⟩,.slice none 0 0,.slice none 0 0,.slice none 0 0,.slice none 0 0,.slice none 0 0,.string ⟨#[]⟩,.bool false,.bool false,.string ⟨#[]⟩,.string ⟨#[]⟩,.string ⟨#[]⟩,.int .i64 0,.int .i64 0,.string ⟨#[]⟩,.string ⟨#[]⟩,.slice none 0 0,.slice none 0 0]:List Value).toArray:=by kernel_rfl
theorem del_built (n:Int) (s:ByteArray):Tryz.prog.built 42 [(0,.int .i64 n),(1,.int .i64 10),(2,.string s)]=some ([.int .i64 n,.int .i64 10,.string s,.string ⟨#[]⟩,.int .i64 0,.int .i64 0,.int .i64 0,.int .i64 0,.int .i64 0,.bool false,.int .i64 0,.string ⟨#[]⟩,.string ⟨#[]⟩,.string ⟨#[]⟩,.string ⟨#[]⟩,.slice none 0 0,.slice none 0 0,.slice none 0 0,.slice none 0 0,.slice none 0 0,.string ⟨#[]⟩,.bool false,.bool false,.string ⟨#[]⟩,.string ⟨#[]⟩,.string ⟨#[]⟩,.int .i64 0,.int .i64 0,.string ⟨#[]⟩,.string ⟨#[]⟩,.slice none 0 0,.slice none 0 0]:List Value).toArray:=by kernel_rfl
theorem wake_bytes:bytesW wakeM=[48,5,2,1,3,66,0]:=by decide+kernel
theorem wake_formed:FormedM wakeM:=⟨.inl ⟨by simp[wakeM],by simp[wakeM]⟩,by simp[keptM,wakeM],bounds_of (i:=3) (k:=2) ⟨by omega,by omega⟩ (by omega) (by omega)⟩
theorem awake_any (w:World):Calls Tryz.prog 9 #[] w fun e w'=>e=.returned (.bool true)∧Below w.heap.size w w':=by
 obtain⟨cs,hcs⟩:∃cs,([.int .i64 3,.int .i64 2,.string ⟨#[]⟩,.string ⟨#[]⟩,.int .i64 0,.int .i64 0,.int .i64 0,.int .i64 0,.int .i64 0,.bool false,.int .i64 0,.string ⟨#[]⟩,.string ⟨#[]⟩,.string ⟨#[]⟩,.string ⟨#[]⟩,.slice none 0 0,.slice none 0 0,.slice none 0 0,.slice none 0 0,.slice none 0 0,.string ⟨#[]⟩,.bool false,.bool false,.string ⟨#[]⟩,.string ⟨#[]⟩,.string ⟨#[]⟩,.int .i64 0,.int .i64 0,.string ⟨#[]⟩,.string ⟨#[]⟩,.slice none 0 0,.slice none 0 0]:List Value)=cs:=⟨_,rfl⟩
 have hb:=wake_built
 rw[hcs] at hb
 have hr:=zeroRepOf w (inB w) wakeM ⟨rfl,rfl,rfl,rfl,rfl,rfl⟩
 replace hr:repM w (inB w) wakeM (.agg ([.int .i64 3,.int .i64 2,.string ⟨#[]⟩,.string ⟨#[]⟩,.int .i64 0,.int .i64 0,.int .i64 0,.int .i64 0,.int .i64 0,.bool false,.int .i64 0,.string ⟨#[]⟩,.string ⟨#[]⟩,.string ⟨#[]⟩,.string ⟨#[]⟩,.slice none 0 0,.slice none 0 0,.slice none 0 0,.slice none 0 0,.slice none 0 0,.string ⟨#[]⟩,.bool false,.bool false,.string ⟨#[]⟩,.string ⟨#[]⟩,.string ⟨#[]⟩,.int .i64 0,.int .i64 0,.string ⟨#[]⟩,.string ⟨#[]⟩,.slice none 0 0,.slice none 0 0]:List Value).toArray):=hr
 rw[hcs] at hr
 have henc:=enc_small wakeM w _ hr wake_formed (.inl rfl) rfl (by rw[wake_bytes];simp)
 rw[wake_bytes] at henc
 obtain⟨ys,hys⟩:∃ys:List UInt8,[48,5,2,1,3,66,0]=ys:=⟨_,rfl⟩
 rw[hys] at henc
 have ht:txt ys=⟨#[48,5,2,1,3,66,0]⟩:=by rw[←hys];rfl
 have Ht:=hide ht
 have Henc:=hide henc
 have Hb:=hide hb
 clear hcs hb hr henc hys ht
 go_enter Tryz.func9,Tryz.ntmps9
 go_upto_region 1 with fail
 refine wp_region_lit ?_
 refine wpList_buildTo rfl 42 #[(0,.const (.int .i64 3)),(1,.const (.int .i64 2))] rfl (some 4) rfl cs.toArray (by simp only[List.map_toArray,List.map_cons,List.map_nil];exact Hb.out) ?_
 simp only[Act.put,List.setIfInBounds_toArray,List.set_cons_zero,List.set_cons_succ]
 go_wp2_with (go_at_call 11;fail)
 refine Henc.out.mono ?_
 rintro e w1 ⟨⟨v,rfl,hown⟩,hb1⟩
 obtain⟨A,c,rfl,-,hH⟩:=own_form hown
 have hx:=run_txt (P:=Tryz.prog) w1 (c:=c) hH 33 9 5 Tryz.underlying33 Tryz.underlying5 Tryz.underlying9
 rw[Ht.out] at hx
 have HB1:=hide hb1
 clear hown hb1 hH Henc Hb Ht
 generalize ys.length=ny at *
 go_wp2
 go_ret
 exact⟨rfl,HB1.out⟩
end Go.Proofs.YtpkedjohgmnhhaaGreat
