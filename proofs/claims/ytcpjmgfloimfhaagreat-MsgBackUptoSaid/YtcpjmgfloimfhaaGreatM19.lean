/- Several texts in one: LEncode, LWrMsg. By an AI agent. -/
import Derived.Test.YtcpjmgfloimfhaaGreatM18
import Derived.Test.YtcpjmgfloimfhaaGreatM17
import Derived.Test.YtcpjmgfloimfhaaGreatLConcat
import Derived.Test.YtcpjmgfloimfhaaGreatM12
set_option linter.unusedSimpArgs false
set_option linter.unusedVariables false
set_option maxRecDepth 100000
set_option maxHeartbeats 64000000
namespace Go.Proofs.YtcpjmgfloimfhaaGreat
open Go.RowKit
def encV (m:MT) (b:List UInt8):Prop:=m.filt.formed=true/\Rd.decode b=some m
structure EncPost (m:MT) (b:List UInt8) (w:World) (e:Ending) (w':World):Prop where
 yes:encV m b->∃v,e=.returned (.tuple #[v,.int .i64 0])/\w'.ownsRow w.heap.size 5 1 v b.length (bys b)
 no:¬encV m b->e=.returned (.tuple #[.slice none 0 0,.int .i64 1])
 below:Below w.heap.size w w'
theorem loadG {ops:Array Oper} {rest:List Oper} {op:Oper} {a:Act} {w:World} {Q:Exit->Act->World->Prop} (hw:Region.wanted op (yielded ops a.tmps)=true) (x:Operand) (ho:op.op=.load 42 x)
  (b:Nat) (hx:a.eval x=.pointer (some ⟨b,0,none⟩)) (cs:List Value) (hc:Blk w b cs) (hn:cs.length=32)
  (h:wpList Tryz.prog ops Q rest (a.put op.dst (.agg cs.toArray)) w):wpList Tryz.prog ops Q (op::rest) a w:=
 wpList_step fun K hK=>by
  rw[if_pos hw]
  exact wp_load_mid 42 x ho b 0 hx cs _ hc.range Tryz.underlying42 rfl (by rw[hn];kernel_rfl) (hK _ _ h)
theorem repM_below {w w':World} {m:MT} {v:Value} (h:repM w (inB w) m v) (hb:Below w.heap.size w w'):repM w' (inB w') m v:=by
 obtain⟨f0,f1,f2,f3,f4,f5,f6,va,vl,vc,vr,vk,rfl,hX⟩:=h
 exact⟨f0,f1,f2,f3,f4,f5,f6,va,vl,vc,vr,vk,rfl,hX.below hb⟩
theorem encode_of (w:World) (m:MT) (v:Value) (hm:repM w (inB w) m v) (b:List UInt8) (hlen:b.length<=1073741824)
  (hW:m.filt.formed=true->∀W,Below w.heap.size w W->Calls Tryz.prog 22 #[v] W (WPost b W)):
  Calls Tryz.prog 11 #[v] w (EncPost m b w):=by
 have hm0:=hm
 obtain⟨f0,f1,f2,f3,f4,f5,f6,va,vl,vc,vr,vk,rfl,hX⟩:=hm
 obtain⟨cs,hcs⟩:∃cs,mcells m f0 f1 f2 f3 f4 f5 f6 va vl vc vr vk=cs:=⟨_,rfl⟩
 have hn:cs.length=32:=by rw[<-hcs];rfl
 rw[hcs] at hm0 hW ⊢
 have hB1:Blk (w.alloc (.cells cs.toArray 42)) w.heap.size cs:=Blk.new w cs 42
 have hf1:Fr (fun _=>False) w (w.alloc (.cells cs.toArray 42)):=Fr.alloc _ _ _
 obtain⟨w1,hw1⟩:∃w1,w.alloc (.cells cs.toArray 42)=w1:=⟨_,rfl⟩
 rw[hw1] at hB1 hf1
 have hb1:Below w.heap.size w w1:=hf1.below (Nat.le_refl _) (fun k q=>q.elim)
 have hs1:w.heap.size<w1.heap.size:=by rw[<-hw1];simp
 obtain⟨p1,hp1⟩:∃p1,w.heap.size=p1:=⟨_,rfl⟩
 rw[hp1] at hB1
 have hfo:=jFormed_any m.filt w1 f0 f1 f2 f3 f4 f5 f6 (FInP.fin (B:=w1.heap.size) (fun k hk=>hk) (hX.below hb1).filt)
 have rF:w1.rangeAt p1 10 [f0,f1,f2,f3,f4,f5,f6]:=hB1.part 10 _ fun j u hu=>by
  rw[<-hcs]
  match j,hu with
  | 0,hu=>exact hu
  | 1,hu=>exact hu
  | 2,hu=>exact hu
  | 3,hu=>exact hu
  | 4,hu=>exact hu
  | 5,hu=>exact hu
  | 6,hu=>exact hu
 obtain⟨fo,hfv⟩:∃fo,m.filt.formed=fo:=⟨_,rfl⟩
 rw[hfv] at hfo hW
 have Hfo:=hide hfo
 have HW:=hide hW
 have HB1:=hide hB1
 have Hb1:=hide hb1
 have Hw1:=hide hw1
 have Hp:=hide hp1
 have Hm:=hide hm0
 have HF:=hide rF
 have Hfv:=hide hfv
 have Hs1:=hide hs1
 have Hlen:=hide hlen
 clear hX hB1 hf1 hw1 hb1 hs1 hp1 hfo rF hW hm0 hcs hfv hlen
 cases fo with
 | false=>
  have hno:Hid (¬encV m b):=hide (fun h=>by have:=h.1;rw[Hfv.out] at this;cases this)
  clear HW Hm Hlen
  go_enter Tryz.func11,Tryz.ntmps11
  go_upto_region 1 with fail
  rw[Hw1.out,Hp.out]
  go_wp2_with (first | (go_at_call 21;fail) | (refine wpList_load_mid rfl 39 (.tmp 7) rfl p1 10 rfl [f0,f1,f2,f3,f4,f5,f6] _ HF.out Tryz.underlying39 rfl (by kernel_rfl) ?_))
  refine Hfo.out.mono ?_
  rintro e w2 ⟨rfl,hb2⟩
  have HB2:=hT Hb1 hb2
  clear hb2 Hfo HF HB1
  go_wp2
  go_returns
  exact⟨fun h=>absurd h hno.out,fun _=>rfl,HB2.out⟩
 | true=>
  go_enter Tryz.func11,Tryz.ntmps11
  go_upto_region 1 with fail
  rw[Hw1.out,Hp.out]
  go_wp2_with (first | (go_at_call 21;fail) | (refine wpList_load_mid rfl 39 (.tmp 7) rfl p1 10 rfl [f0,f1,f2,f3,f4,f5,f6] _ HF.out Tryz.underlying39 rfl (by kernel_rfl) ?_))
  refine Hfo.out.mono ?_
  rintro e w2 ⟨rfl,hb2⟩
  have HB2:=hT Hb1 hb2
  have HK2:=hide (HB1.out.fr (Fr.of (X:=fun _=>False) hb2) id)
  clear hb2 Hfo HF HB1 Hb1
  have HWr:=hide (HW.out (by first | rfl | trivial) w2 HB2.out)
  clear HW
  go_wp2_with (first | (go_at_call 22;fail) | (refine loadM rfl (.tmp 1) rfl p1 rfl cs HK2.out hn ?_))
  refine HWr.out.mono ?_
  rintro e w3 hpost
  obtain⟨vb,rfl,hown,hb3⟩:=hpost.out
  have HB3:=hT HB2 hb3
  have HK3:=hide (HK2.out.fr (Fr.of (X:=fun _=>False) hb3) id)
  obtain⟨A,c,rfl,hc1,hcm,hH⟩:=Ber.own_form' hown
  have hde:=decode_any w3 A c b hH hc1 hcm
  have HO3:=hide (zAg hown HB2.out.size)
  have Hde:=hide hde
  clear hpost hown hb3 hde HWr HK2 HB2 hH
  obtain⟨nb,hnb⟩:∃nb,b.length=nb:=⟨_,rfl⟩
  have Hnb:=hide hnb
  rw[hnb] at Hde
  simp only
  rw[hnb]
  clear hnb hc1 hcm
  go_wp2_with (go_at_call 14;fail)
  refine Hde.out.mono ?_
  rintro e w4 hpost
  obtain⟨m2,v2,rfl,hrep,hm2,hb4⟩:=hpost.out
  have hwee:=decodeD_wee b
  rw[<-hm2] at hwee
  obtain⟨g0,g1,g2,g3,g4,g5,g6,ua,ul,uc,ur,uk,rfl,hY⟩:=hrep
  obtain⟨cy,hcy⟩:∃cy,mcells m2 g0 g1 g2 g3 g4 g5 g6 ua ul uc ur uk=cy:=⟨_,rfl⟩
  have hny:cy.length=32:=by rw[<-hcy];rfl
  have hBz:Blk (w4.alloc (.cells #[.int .i64 0,.int .i64 0,.string ⟨#[]⟩,.string ⟨#[]⟩,.int .i64 0,.int .i64 0,.int .i64 0,.int .i64 0,.int .i64 0,.bool false,.int .i64 0,.string ⟨#[]⟩,.string ⟨#[]⟩,.string ⟨#[]⟩,.string ⟨#[]⟩,.slice none 0 0,.slice none 0 0,.slice none 0 0,.slice none 0 0,.slice none 0 0,.string ⟨#[]⟩,.bool false,.bool false,.string ⟨#[]⟩,.string ⟨#[]⟩,.string ⟨#[]⟩,.int .i64 0,.int .i64 0,.string ⟨#[]⟩,.string ⟨#[]⟩,.slice none 0 0,.slice none 0 0] 42)) w4.heap.size zeroCells:=Blk.new w4 zeroCells 42
  have h1y:=MReps.one hY
  rw[hcy] at h1y
  have hB5:Blk (World.setCells (w4.alloc (.cells #[.int .i64 0,.int .i64 0,.string ⟨#[]⟩,.string ⟨#[]⟩,.int .i64 0,.int .i64 0,.int .i64 0,.int .i64 0,.int .i64 0,.bool false,.int .i64 0,.string ⟨#[]⟩,.string ⟨#[]⟩,.string ⟨#[]⟩,.string ⟨#[]⟩,.slice none 0 0,.slice none 0 0,.slice none 0 0,.slice none 0 0,.slice none 0 0,.string ⟨#[]⟩,.bool false,.bool false,.string ⟨#[]⟩,.string ⟨#[]⟩,.string ⟨#[]⟩,.int .i64 0,.int .i64 0,.string ⟨#[]⟩,.string ⟨#[]⟩,.slice none 0 0,.slice none 0 0] 42)) w4.heap.size 0 cy) w4.heap.size cy:=hBz.sets 0 cy (by rw[hny];exact Nat.le_refl _) cy (by rw[List.drop_eq_nil_of_le (by rw[hny];exact Nat.le_refl _)];simp)
  have hf5:Fr (fun _=>False) w4 (World.setCells (w4.alloc (.cells #[.int .i64 0,.int .i64 0,.string ⟨#[]⟩,.string ⟨#[]⟩,.int .i64 0,.int .i64 0,.int .i64 0,.int .i64 0,.int .i64 0,.bool false,.int .i64 0,.string ⟨#[]⟩,.string ⟨#[]⟩,.string ⟨#[]⟩,.string ⟨#[]⟩,.slice none 0 0,.slice none 0 0,.slice none 0 0,.slice none 0 0,.slice none 0 0,.string ⟨#[]⟩,.bool false,.bool false,.string ⟨#[]⟩,.string ⟨#[]⟩,.string ⟨#[]⟩,.int .i64 0,.int .i64 0,.string ⟨#[]⟩,.string ⟨#[]⟩,.slice none 0 0,.slice none 0 0] 42)) w4.heap.size 0 cy):=(Fr.alloc (fun _=>False) w4 _).trans' (Fr.setCells (X:=fun k=>k=w4.heap.size) _ w4.heap.size 0 cy rfl) (fun k hk q=>by omega)
  have HBz:=hide hBz
  have H1y:=hide h1y
  obtain⟨w5,hw5⟩:∃w5,World.setCells (w4.alloc (.cells #[.int .i64 0,.int .i64 0,.string ⟨#[]⟩,.string ⟨#[]⟩,.int .i64 0,.int .i64 0,.int .i64 0,.int .i64 0,.int .i64 0,.bool false,.int .i64 0,.string ⟨#[]⟩,.string ⟨#[]⟩,.string ⟨#[]⟩,.string ⟨#[]⟩,.slice none 0 0,.slice none 0 0,.slice none 0 0,.slice none 0 0,.slice none 0 0,.string ⟨#[]⟩,.bool false,.bool false,.string ⟨#[]⟩,.string ⟨#[]⟩,.string ⟨#[]⟩,.int .i64 0,.int .i64 0,.string ⟨#[]⟩,.string ⟨#[]⟩,.slice none 0 0,.slice none 0 0] 42)) w4.heap.size 0 cy=w5:=⟨_,rfl⟩
  rw[hw5] at hB5 hf5
  have hb5:Below w4.heap.size w4 w5:=hf5.below (Nat.le_refl _) (fun k q=>q.elim)
  clear hBz h1y
  obtain⟨p5,hp5⟩:∃p5,w4.heap.size=p5:=⟨_,rfl⟩
  rw[hp5] at hB5
  have hrY:repM w5 (inB w5) m2 (.agg cy.toArray):=⟨g0,g1,g2,g3,g4,g5,g6,ua,ul,uc,ur,uk,by rw[hcy],hY.move (fun p hp=>hb5.cell (by exact hp.2)) (fun k hk=>Nat.lt_of_lt_of_le hk.2 hb5.size)⟩
  have hb35:Below w3.heap.size w3 w5:=hb4.trans (hb5.mono hb4.size)
  have HB5:=hT HB3 hb35
  have hrX:=repM_below Hm.out HB5.out
  obtain⟨R,hR⟩:=boolOf (m2=m)
  have hsa:=same_any w5 m2 m _ _ hrY hrX hwee R hR
  have HSa:=hide hsa
  have HK5:=hide (HK3.out.fr (Fr.of (X:=fun _=>False) hb35) id)
  have HY5:=hide hB5
  have HO5:=hide (zAo HO3.out (hb35))
  have Hw5:=hide hw5
  have Hp5:=hide hp5
  have Hm2:=hide hm2
  have HR:=hide hR
  rw[hcy]
  clear hpost hY hcy hB5 hf5 hw5 hb5 hp5 hrY hb35 hrX hsa hwee hm2 hR hb4 HB3 HK3 HO3 Hde Hm
  cases hd:Rd.decode b with
  | none=>
   have hno:Hid (¬encV m b):=hide (fun h=>by have:=h.2;rw[hd] at this;cases this)
   obtain⟨E,hE⟩:∃E:Int,(if 16384<b.length then (4:Int) else if (none:Option MT).isSome=true then 0 else 2)=E:=⟨_,rfl⟩
   have hne:E≠0:=by rw[<-hE];split<;>simp
   have hn1:(E==0)=false:=beq_false_of_ne hne
   have hn2:(E !=0)=true:=bne_iff_ne.2 hne
   rw[hE]
   clear hE hd HSa HY5 HO5 Hm2 HR hne HK5
   go_upto_region 5 with (refine storeM (w4.alloc (.cells #[.int .i64 0,.int .i64 0,.string ⟨#[]⟩,.string ⟨#[]⟩,.int .i64 0,.int .i64 0,.int .i64 0,.int .i64 0,.int .i64 0,.bool false,.int .i64 0,.string ⟨#[]⟩,.string ⟨#[]⟩,.string ⟨#[]⟩,.string ⟨#[]⟩,.slice none 0 0,.slice none 0 0,.slice none 0 0,.slice none 0 0,.slice none 0 0,.string ⟨#[]⟩,.bool false,.bool false,.string ⟨#[]⟩,.string ⟨#[]⟩,.string ⟨#[]⟩,.int .i64 0,.int .i64 0,.string ⟨#[]⟩,.string ⟨#[]⟩,.slice none 0 0,.slice none 0 0] 42)) rfl (.tmp 5) (.tmp 16) rfl w4.heap.size zeroCells cy rfl rfl HBz.out rfl hny H1y.out ?_)
   rw[Hw5.out]
   try rw[Hp5.out]
   go_wp2
   go_returns
   exact⟨fun h=>absurd h hno.out,fun _=>rfl,HB5.out⟩
  | some m0=>
   have hlo:=(decode_good hd).2.2
   have hcode:(if 16384<b.length then (4:Int) else if (some m0).isSome=true then 0 else 2)=0:=by rw[if_neg (by omega)];rfl
   have hm20:m2=m0:=by rw[Hm2.out,hd];rfl
   have Hd:=hide hd
   have Hm20:=hide hm20
   rw[hcode]
   clear hcode hlo hd hm20 Hm2
   go_upto_region 5 with (refine storeM (w4.alloc (.cells #[.int .i64 0,.int .i64 0,.string ⟨#[]⟩,.string ⟨#[]⟩,.int .i64 0,.int .i64 0,.int .i64 0,.int .i64 0,.int .i64 0,.bool false,.int .i64 0,.string ⟨#[]⟩,.string ⟨#[]⟩,.string ⟨#[]⟩,.string ⟨#[]⟩,.slice none 0 0,.slice none 0 0,.slice none 0 0,.slice none 0 0,.slice none 0 0,.string ⟨#[]⟩,.bool false,.bool false,.string ⟨#[]⟩,.string ⟨#[]⟩,.string ⟨#[]⟩,.int .i64 0,.int .i64 0,.string ⟨#[]⟩,.string ⟨#[]⟩,.slice none 0 0,.slice none 0 0] 42)) rfl (.tmp 5) (.tmp 16) rfl w4.heap.size zeroCells cy rfl rfl HBz.out rfl hny H1y.out ?_)
   rw[Hw5.out]
   try rw[Hp5.out]
   go_wp2_with (first | (go_at_call 18;fail) | (refine loadG (by rfl) (.tmp 5) rfl p5 rfl cy HY5.out hny ?_) | (refine loadG (by rfl) (.tmp 1) rfl p1 rfl cs HK5.out hn ?_))
   refine HSa.out.mono ?_
   rintro e w6 ⟨rfl,hb6⟩
   have HB6:=hT HB5 hb6
   have HO6:=hide (zAo HO5.out hb6)
   clear hb6 HSa HY5 HK5 HO5 HB5
   cases R with
   | false=>
    have hno:Hid (¬encV m b):=hide (fun h=>by
     have h1:=h.2
     rw[Hd.out] at h1
     have:=HR.out.2 (by rw[Hm20.out];exact Option.some.inj h1)
     cases this)
    go_wp2
    go_returns
    exact⟨fun h=>absurd h hno.out,fun _=>rfl,HB6.out⟩
   | true=>
    have hyes:Hid (encV m b):=hide ⟨Hfv.out,by rw[Hd.out,<-Hm20.out,HR.out.1 rfl]⟩
    rw[Hnb.out] at HO6
    go_wp2
    go_returns
    exact⟨fun _=>⟨_,rfl,by rw[Hnb.out];exact HO6.out⟩,fun h=>absurd hyes.out h,HB6.out⟩
structure CPost (bs:List UInt8) (w:World) (e:Ending) (w':World):Prop where
 out:∃A c,e=.returned (.slice A bs.length c)/\Has w' w'.heap.size 1 A bs.length (bys bs)/\Below w.heap.size w w'
theorem write_of (w:World) (m:MT) (v:Value) (hm:repM w (inB w) m v) (c:List UInt8) (t:UInt8) (hid: -9223372036854775808<=m.id/\m.id<=9223372036854775807) (hctl:m.ctls=[]) (ht:opV m.kind=(t.toNat:Int)) (hlen:c.length<=100000000)
  (hC:∀W,Below w.heap.size w W->Calls Tryz.prog 64 #[v] W (CPost c W)):
  Calls Tryz.prog 22 #[v] w (WPost (Wr.enc [(0x30,Wr.enc [Wr.numF 2 m.id,(t,c)])]) w):=by
 obtain⟨f0,f1,f2,f3,f4,f5,f6,va,vl,vc,vr,vk,rfl,hX⟩:=hm
 obtain⟨Ak,ck,xk,rfl,-,-,-⟩:=hX.ctls
 rw[hctl] at hC ⊢
 obtain⟨cs,hcs⟩:∃cs,mcells m f0 f1 f2 f3 f4 f5 f6 va vl vc vr (.slice Ak 0 ck)=cs:=⟨_,rfl⟩
 have hn:cs.length=32:=by rw[<-hcs];rfl
 simp only[List.length_nil] at hC ⊢
 rw[hcs] at hC ⊢
 have hB1:Blk (w.alloc (.cells cs.toArray 42)) w.heap.size cs:=Blk.new w cs 42
 have hf1:Fr (fun _=>False) w (w.alloc (.cells cs.toArray 42)):=Fr.alloc _ _ _
 obtain⟨w1,hw1⟩:∃w1,w.alloc (.cells cs.toArray 42)=w1:=⟨_,rfl⟩
 rw[hw1] at hB1 hf1
 have hb1:Below w.heap.size w w1:=hf1.below (Nat.le_refl _) (fun k q=>q.elim)
 obtain⟨p1,hp1⟩:∃p1,w.heap.size=p1:=⟨_,rfl⟩
 have hB1:Blk w1 p1 cs:=by rw[<-hp1];exact hB1
 have kX:∀W,Below w1.heap.size w1 W->Blk W p1 cs:=fun W hW=>hB1.fr (Fr.of (X:=fun _=>False) hW) id
 have K0:Hid (∀W,Below w1.heap.size w1 W->W.cell? ⟨p1,0,none⟩=some (.int .i64 m.id)):=hide fun W hW=>(kX W hW).cells 0 _ (by rw[<-hcs];rfl)
 have K1:Hid (∀W,Below w1.heap.size w1 W->W.cell? ⟨p1,1,none⟩=some (.int .i64 m.kind)):=hide fun W hW=>(kX W hW).cells 1 _ (by rw[<-hcs];rfl)
 have K31:Hid (∀W,Below w1.heap.size w1 W->W.cell? ⟨p1,31,none⟩=some (.slice Ak 0 ck)):=hide fun W hW=>(kX W hW).cells 31 _ (by rw[<-hcs];rfl)
 have KM:Hid (∀W,Below w1.heap.size w1 W->(loadVar 42 ⟨p1,0,none⟩).run Tryz.prog W=.ok (.agg cs.toArray) W):=hide fun W hW=>run_loadVar_mid W p1 0 42 cs _ (kX W hW).range Tryz.underlying42 rfl (by rw[hn];kernel_rfl)
 have HN:Hid (∀W,Calls Tryz.prog 61 #[.int .u8 2,.int .i64 m.id] W (WPost (Ber.fieldOf 2 (Ber.intOfs m.id)) W)):=hide fun W=>wnumber_any 2 m.id hid.1 hid.2 W
 have HT:Hid (∀W,Calls Tryz.prog 63 #[.int .i64 m.kind] W fun e w'=>e=.returned (c8 t)/\w'=W):=hide fun W=>by
  have:=opTag_any W m.kind
  rw[ht] at this
  exact this
 have HC:Hid (∀W,Below w1.heap.size w1 W->Calls Tryz.prog 64 #[.agg cs.toArray] W (CPost c W)):=hide fun W hW=>hC W (hb1.trans (hW.mono hb1.size))
 have HBw:=hide hb1
 have Hw:=hide hw1
 have Hp:=hide hp1
 have Hlen:=hide hlen
 have hnl:(Ber.fieldOf 2 (Ber.intOfs m.id)).length<=20:=by rw[Ber.fieldOf_length,Ber.intOfs_length];have:=Ber.lenOf_le ((Ber.intOfs m.id).length:Int);have:=Ber.isize_le m.id;rw[Ber.intOfs_length] at *;omega
 have hcl:(Ber.fieldOf t c).length<=100000010:=by rw[Ber.fieldOf_length];have:=Ber.lenOf_le (c.length:Int);omega
 obtain⟨l1,hl1⟩:∃l1,Ber.fieldOf 2 (Ber.intOfs m.id)=l1:=⟨_,rfl⟩
 obtain⟨l2,hl2⟩:∃l2,Ber.fieldOf t c=l2:=⟨_,rfl⟩
 have hgoal:Wr.enc [(0x30,Wr.enc [Wr.numF 2 m.id,(t,c)])]=Ber.fieldOf 0x30 (l1++l2):=by simp[Wr.enc,Wr.numF,hl1,hl2]
 rw[hgoal]
 rw[hl1] at HN hnl
 rw[hl2] at hcl
 have Hl2:=hide hl2
 have Hln:=hide (And.intro hnl hcl)
 obtain⟨bs,hbs⟩:∃bs,Ber.fieldOf 0x30 (l1++l2)=bs:=⟨_,rfl⟩
 rw[hbs]
 have Hbs:=hide hbs
 clear hX hB1 hf1 hw1 hb1 hp1 kX hC hcs hn hid hctl ht hlen hgoal hl1 hl2 hnl hcl hbs
 obtain⟨mi,hmi⟩:∃mi,m.id=mi:=⟨_,rfl⟩
 obtain⟨mk,hmk⟩:∃mk,m.kind=mk:=⟨_,rfl⟩
 rw[hmi] at K0 HN
 rw[hmk] at K1 HT
 have HB0:Hid (Below w1.heap.size w1 w1.drew):=hide (Below.refl _ _).drew
 go_enter Tryz.func22,Tryz.ntmps22
 go_upto_region 1 with fail
 rw[Hw.out]
 try rw[Hp.out]
 clear Hw hmi hmk
 refine zAs (by kernel_rfl) ?_
 generalize w1.drew=w2 at *
 refine zAa 0 (some 4) rfl rfl (by kernel_rfl) rfl (by rfl) (fun W hW=>by go_simp<;>with_reducible rfl) ?_
 simp only[pU]
 refine zAa 1 (some 5) (v:=?vm1) rfl rfl (by kernel_rfl) rfl (by rfl) (fun W hW=>?ym1) ?_
 case ym1=>
  have kk:=K0.out W (HB0.out.trans (Below.mono hW HB0.out.size))
  go_simp<;>with_reducible rfl
 simp only[pU]
 refine zAa 3 (some 7) rfl rfl (by kernel_rfl) rfl (by rfl) (fun W hW=>by go_simp<;>with_reducible rfl) ?_
 simp only[pU]
 refine zAa 4 (some 8) (v:=?vm4) rfl rfl (by kernel_rfl) rfl (by rfl) (fun W hW=>?ym4) ?_
 case ym4=>
  have kk:=K1.out W (HB0.out.trans (Below.mono hW HB0.out.size))
  go_simp<;>with_reducible rfl
 simp only[pU]
 refine zAa 6 (some 10) (v:=.agg cs.toArray) rfl rfl (by kernel_rfl) rfl (by rfl) (fun W hW=>?ym6) ?_
 case ym6=>
  exact zAd _ _ _ rfl p1 0 rfl _ (KM.out W (HB0.out.trans (Below.mono hW HB0.out.size)))
 simp only[pU]
 refine zAc 2 rfl (by kernel_rfl) (fun K hK=>?_)
 go_simp
 refine (HN.out w2).mono ?_
 rintro e w3 hpost
 obtain⟨v1,rfl,hown,hb⟩:=hpost.out
 obtain⟨A1,c1,rfl,-,-,hA⟩:=Ber.own_form' hown
 have HB1:=hT HB0 hb
 have HA1:=hide hA
 refine hK.out _ _ hb ?_
 clear hK K hb HB0 hpost hown hA
 try simp only[pU]
 refine zAc 5 rfl (by kernel_rfl) (fun K hK=>?_)
 go_simp
 refine (HT.out _).mono ?_
 rintro e w9 ⟨rfl,hw9⟩
 obtain rfl:=hw9
 have hb:=Below.refl w9.heap.size w9
 have HB2:=hT HB1 hb
 have HA2:=hide ((HA1.out.below hb).upto hb.size)
 clear HA1
 refine hK.out _ _ hb ?_
 clear hK K hb HB1
 try simp only[pU]
 refine zAc 7 rfl (by kernel_rfl) (fun K hK=>?_)
 go_simp
 refine (HC.out _ HB2.out).mono ?_
 rintro e w4 hpost
 obtain⟨A2,c2,rfl,hA2,hb⟩:=hpost.out
 have HB3:=hT HB2 hb
 have HA3:=hide ((HA2.out.below hb).upto hb.size)
 clear HA2
 have HC3:=hide hA2
 refine hK.out _ _ hb ?_
 clear hK K hb HB2 hpost hA2
 try simp only[pU]
 refine zAc 8 rfl (by kernel_rfl) (fun K hK=>?_)
 go_simp
 refine (Ber.field_any t _ _ A2 c.length c2 c HC3.out (Nat.le_refl _) (by have:=Hlen.out;omega)).mono ?_
 rintro e w5 ⟨v2,rfl,hown,hb⟩
 rw[Hl2.out] at hown
 obtain⟨A3,c3,rfl,-,-,hA3⟩:=Ber.own_form' hown
 have HB4:=hT HB3 hb
 have HA4:=hide ((HA3.out.below hb).upto hb.size)
 clear HA3
 have HD4:=hide hA3
 refine hK.out _ _ hb ?_
 clear hK K hb HB3 hown hA3 HC3
 try simp only[pU]
 refine zAc 9 rfl (by kernel_rfl) (fun K hK=>?_)
 go_simp
 have hb:Below w5.heap.size w5 (w5.alloc (.cells #[.slice A1 l1.length c1,.slice A3 l2.length c3] 33)):=(Below.refl _ _).alloc (Nat.le_refl _) _
 have hblk:=Blk.new w5 [.slice A1 l1.length c1,.slice A3 l2.length c3] 33
 have hS:SLs (w5.alloc (.cells #[.slice A1 l1.length c1,.slice A3 l2.length c3] 33)) [l1,l2] (some ⟨w5.heap.size,0,none⟩) 2:=SLs.two (by simp) (hblk.cells 0 _ rfl) (hblk.cells 1 _ rfl) ((HA4.out.below hb).upto hb.size) ((HD4.out.below hb).upto hb.size)
 obtain⟨w6,hw6⟩:∃w6,w5.alloc (.cells #[.slice A1 l1.length c1,.slice A3 l2.length c3] 33)=w6:=⟨_,rfl⟩
 rw[hw6] at hb hS ⊢
 clear hblk hw6
 have HB5:=hT HB4 hb
 have HS5:=hide hS
 refine hK.out _ _ hb ?_
 clear hK K hb HB4 hS HA4 HD4
 try simp only[pU]
 refine zAc 10 rfl (by kernel_rfl) (fun K hK=>?_)
 go_simp
 refine (zA9 w6 _ 2 2 _ HS5.out (by omega) (by have:=Hln.out;simp[tot];omega)).mono ?_
 rintro e w7 hpost
 obtain⟨v3,rfl,hown,hb⟩:=hpost.out
 have e3:([l1,l2]:List (List UInt8)).flatten=l1++l2:=by simp
 rw[e3] at hown
 have HB6:=hT HB5 hb
 have HB5x:=HB6.out.size
 have HB5w:=Nat.le_trans HBw.out.size HB5.out.size
 have HO6:=hide (zAg hown HB5w)
 refine hK.out _ _ hb ?_
 clear hK K hb HB5 hpost hown HS5 e3
 try simp only[pU]
 refine zAa 11 (some 3) rfl rfl (by kernel_rfl) rfl (by rfl) (fun W hW=>by go_simp<;>with_reducible rfl) ?_
 simp only[pU]
 refine zAi (by kernel_rfl) ?_ _
 have k31:=K31.out _ HB6.out
 have hb7:=HBw.out.trans (HB6.out.mono HBw.out.size)
 have hf:=zA8 (t:=0x30) (bs:=l1++l2) HO6.out hb7 (by have:=Hln.out;rw[List.length_append];omega)
 rw[Hbs.out] at hf
 have Hf:=hide hf
 clear hb7 hf HO6
 go_wp2_with (go_at_call 62;fail)
 refine Hf.out.mono ?_
 rintro e w8 hpost
 obtain⟨v4,rfl,hown,hb8⟩:=hpost.out
 have HO8:=hide hown
 have HB8:=hide hb8
 clear hpost hown hb8 Hf k31
 go_wp2
 go_ret
 exact⟨⟨_,rfl,HO8.out,HB8.out⟩⟩
end Go.Proofs.YtcpjmgfloimfhaaGreat
