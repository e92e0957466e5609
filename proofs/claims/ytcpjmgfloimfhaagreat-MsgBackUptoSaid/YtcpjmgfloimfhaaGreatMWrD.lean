/- What writes a message's content: the walks. By an AI agent. -/
import Derived.Test.YtcpjmgfloimfhaaGreatMWrF
import Derived.Test.YtcpjmgfloimfhaaGreatM19
set_option linter.unusedSimpArgs false
set_option linter.unusedVariables false
set_option maxRecDepth 100000
set_option maxHeartbeats 32000000
namespace Go.Proofs.YtcpjmgfloimfhaaGreat
open Go.RowKit
theorem wsearch_walk (w:World) (cs:List Value) (hn:cs.length=32) (sn:ByteArray) (hx2:cs[2]?=some (.string sn)) (n5:Int) (hx5:cs[5]?=some (.int .i64 n5)) (n6:Int) (hx6:cs[6]?=some (.int .i64 n6)) (n7:Int) (hx7:cs[7]?=some (.int .i64 n7)) (n8:Int) (hx8:cs[8]?=some (.int .i64 n8)) (b9:Bool) (hx9:cs[9]?=some (.bool b9)) (f0 f1 f2 f3 f4 f5 f6:Value) (hxf:∀(j:Nat) (u:Value),[f0,f1,f2,f3,f4,f5,f6][j]?=some u->cs[10+j]?=some u) (v17:Value) (hx17:cs[17]?=some (v17)) (l1 l2 l3 l4 l5 l6 l7 l8:List UInt8) (hl:tot [l1,l2,l3,l4,l5,l6,l7,l8]<=300000000)
  (K1:Hid (∀W,Below w.heap.size w W->Calls Tryz.prog 101 #[.string sn] W (WPost l1 W)))
  (K2:Hid (∀W,Below w.heap.size w W->Calls Tryz.prog 61 #[.int .u8 10,.int .i64 n5] W (WPost l2 W)))
  (K3:Hid (∀W,Below w.heap.size w W->Calls Tryz.prog 61 #[.int .u8 10,.int .i64 n6] W (WPost l3 W)))
  (K4:Hid (∀W,Below w.heap.size w W->Calls Tryz.prog 61 #[.int .u8 2,.int .i64 n7] W (WPost l4 W)))
  (K5:Hid (∀W,Below w.heap.size w W->Calls Tryz.prog 61 #[.int .u8 2,.int .i64 n8] W (WPost l5 W)))
  (K6:Hid (∀W,Below w.heap.size w W->Calls Tryz.prog 113 #[.bool b9] W (WPost l6 W)))
  (K7:Hid (∀W,Below w.heap.size w W->Calls Tryz.prog 144 #[.agg #[f0,f1,f2,f3,f4,f5,f6]] W (WPost l7 W)))
  (K8:Hid (∀W,Below w.heap.size w W->Calls Tryz.prog 145 #[.int .u8 48,v17,.func (.func 101) #[] #[]] W (WPost l8 W))):
  Calls Tryz.prog 103 #[.agg cs.toArray] w (WPost ([l1,l2,l3,l4,l5,l6,l7,l8]:List (List UInt8)).flatten w):=by
 have HTHS:=hide hl
 obtain⟨bs,hbs⟩:∃bs,([l1,l2,l3,l4,l5,l6,l7,l8]:List (List UInt8)).flatten=bs:=⟨_,rfl⟩
 rw[hbs]
 have HEHS:=hide hbs
 clear hbs hl
 have hb1:Below w.heap.size w (w.alloc (.cells cs.toArray 42)):=(Below.refl _ _).alloc (Nat.le_refl _) _
 have hB1:Blk (w.alloc (.cells cs.toArray 42)) w.heap.size cs:=Blk.new w cs 42
 obtain⟨w1,hw1⟩:∃w1,w.alloc (.cells cs.toArray 42)=w1:=⟨_,rfl⟩
 rw[hw1] at hb1 hB1
 obtain⟨p1,hp1⟩:∃p1,w.heap.size=p1:=⟨_,rfl⟩
 rw[hp1] at hB1
 have KX:Hid (∀W,Below w1.heap.size w1 W->∀(i:Nat) (u:Value),cs[i]?=some u->W.cell? ⟨p1,i,none⟩=some u):=hide fun W hW i u hu=>(hB1.fr (Fr.of (X:=fun _=>False) hW) id).cells i u hu
 have HBl:=hide hB1
 have HBw:=hide hb1
 have Hw:=hide hw1
 have Hp:=hide hp1
 have HB0:Hid (Below w1.heap.size w1 w1.drew):=hide (Below.refl _ _).drew
 clear hb1 hB1 hw1 hp1
 go_enter Tryz.func103,Tryz.ntmps103
 go_upto_region 1 with fail
 rw[Hw.out]
 try rw[Hp.out]
 clear Hw
 have H1c:Hid (∀W,Below w1.heap.size w1 W->Calls Tryz.prog 101 #[.string sn] W (WPost l1 W)):=hide fun W hW=>K1.out W (HBw.out.trans (hW.mono HBw.out.size))
 have H2c:Hid (∀W,Below w1.heap.size w1 W->Calls Tryz.prog 61 #[.int .u8 10,.int .i64 n5] W (WPost l2 W)):=hide fun W hW=>K2.out W (HBw.out.trans (hW.mono HBw.out.size))
 have H3c:Hid (∀W,Below w1.heap.size w1 W->Calls Tryz.prog 61 #[.int .u8 10,.int .i64 n6] W (WPost l3 W)):=hide fun W hW=>K3.out W (HBw.out.trans (hW.mono HBw.out.size))
 have H4c:Hid (∀W,Below w1.heap.size w1 W->Calls Tryz.prog 61 #[.int .u8 2,.int .i64 n7] W (WPost l4 W)):=hide fun W hW=>K4.out W (HBw.out.trans (hW.mono HBw.out.size))
 have H5c:Hid (∀W,Below w1.heap.size w1 W->Calls Tryz.prog 61 #[.int .u8 2,.int .i64 n8] W (WPost l5 W)):=hide fun W hW=>K5.out W (HBw.out.trans (hW.mono HBw.out.size))
 have H6c:Hid (∀W,Below w1.heap.size w1 W->Calls Tryz.prog 113 #[.bool b9] W (WPost l6 W)):=hide fun W hW=>K6.out W (HBw.out.trans (hW.mono HBw.out.size))
 have H7c:Hid (∀W,Below w1.heap.size w1 W->Calls Tryz.prog 144 #[.agg #[f0,f1,f2,f3,f4,f5,f6]] W (WPost l7 W)):=hide fun W hW=>K7.out W (HBw.out.trans (hW.mono HBw.out.size))
 have H8c:Hid (∀W,Below w1.heap.size w1 W->Calls Tryz.prog 145 #[.int .u8 48,v17,.func (.func 101) #[] #[]] W (WPost l8 W)):=hide fun W hW=>K8.out W (HBw.out.trans (hW.mono HBw.out.size))
 clear K1 K2 K3 K4 K5 K6 K7 K8
 go_wp2_with fail
 refine zAs (by kernel_rfl) ?_
 generalize w1.drew=wd at *
 have HBc:=HB0
 refine zAa 0 (some 3) rfl rfl (by kernel_rfl) rfl (by rfl) (fun W hW=>by go_simp<;>with_reducible rfl) ?_
 try simp only[pU]
 refine zAa 1 (some 4) (v:=.string sn) rfl rfl (by kernel_rfl) rfl (by rfl) (fun W hW=>?ya1) ?_
 case ya1=>
  exact zAd _ _ _ rfl p1 2 rfl _ (loadS8 W _ _ (KX.out W (HB0.out.trans (hW.mono HB0.out.size)) 2 _ hx2))
 try simp only[pU]
 refine zAa 3 (some 6) rfl rfl (by kernel_rfl) rfl (by rfl) (fun W hW=>by go_simp<;>with_reducible rfl) ?_
 try simp only[pU]
 refine zAa 4 (some 7) (v:=.int .i64 n5) rfl rfl (by kernel_rfl) rfl (by rfl) (fun W hW=>?ya4) ?_
 case ya4=>
  exact zAd _ _ _ rfl p1 5 rfl _ (loadI8 W _ _ (KX.out W (HB0.out.trans (hW.mono HB0.out.size)) 5 _ hx5))
 try simp only[pU]
 refine zAa 6 (some 9) rfl rfl (by kernel_rfl) rfl (by rfl) (fun W hW=>by go_simp<;>with_reducible rfl) ?_
 try simp only[pU]
 refine zAa 7 (some 10) (v:=.int .i64 n6) rfl rfl (by kernel_rfl) rfl (by rfl) (fun W hW=>?ya7) ?_
 case ya7=>
  exact zAd _ _ _ rfl p1 6 rfl _ (loadI8 W _ _ (KX.out W (HB0.out.trans (hW.mono HB0.out.size)) 6 _ hx6))
 try simp only[pU]
 refine zAa 9 (some 12) rfl rfl (by kernel_rfl) rfl (by rfl) (fun W hW=>by go_simp<;>with_reducible rfl) ?_
 try simp only[pU]
 refine zAa 10 (some 13) (v:=.int .i64 n7) rfl rfl (by kernel_rfl) rfl (by rfl) (fun W hW=>?ya10) ?_
 case ya10=>
  exact zAd _ _ _ rfl p1 7 rfl _ (loadI8 W _ _ (KX.out W (HB0.out.trans (hW.mono HB0.out.size)) 7 _ hx7))
 try simp only[pU]
 refine zAa 12 (some 15) rfl rfl (by kernel_rfl) rfl (by rfl) (fun W hW=>by go_simp<;>with_reducible rfl) ?_
 try simp only[pU]
 refine zAa 13 (some 16) (v:=.int .i64 n8) rfl rfl (by kernel_rfl) rfl (by rfl) (fun W hW=>?ya13) ?_
 case ya13=>
  exact zAd _ _ _ rfl p1 8 rfl _ (loadI8 W _ _ (KX.out W (HB0.out.trans (hW.mono HB0.out.size)) 8 _ hx8))
 try simp only[pU]
 refine zAa 15 (some 18) rfl rfl (by kernel_rfl) rfl (by rfl) (fun W hW=>by go_simp<;>with_reducible rfl) ?_
 try simp only[pU]
 refine zAa 16 (some 19) (v:=.bool b9) rfl rfl (by kernel_rfl) rfl (by rfl) (fun W hW=>?ya16) ?_
 case ya16=>
  exact zAd _ _ _ rfl p1 9 rfl _ (loadB8 W _ _ (KX.out W (HB0.out.trans (hW.mono HB0.out.size)) 9 _ hx9))
 try simp only[pU]
 refine zAa 18 (some 21) rfl rfl (by kernel_rfl) rfl (by rfl) (fun W hW=>by go_simp<;>with_reducible rfl) ?_
 try simp only[pU]
 refine zAa 19 (some 22) (v:=.agg #[f0,f1,f2,f3,f4,f5,f6]) rfl rfl (by kernel_rfl) rfl (by rfl) (fun W hW=>?ya19) ?_
 case ya19=>
  exact zAd _ _ _ rfl p1 10 rfl _ (run_loadVar_mid W p1 10 39 [f0,f1,f2,f3,f4,f5,f6] _ (fun j u hu=>KX.out W (HB0.out.trans (hW.mono HB0.out.size)) _ _ (hxf j u hu)) Tryz.underlying39 rfl (by kernel_rfl))
 try simp only[pU]
 refine zAa 21 (some 24) rfl rfl (by kernel_rfl) rfl (by rfl) (fun W hW=>by go_simp<;>with_reducible rfl) ?_
 try simp only[pU]
 refine zAa 22 (some 25) (v:=v17) rfl rfl (by kernel_rfl) rfl (by rfl) (fun W hW=>?ya22) ?_
 case ya22=>
  exact zAd _ _ _ rfl p1 17 rfl _ (loadT W _ _ (KX.out W (HB0.out.trans (hW.mono HB0.out.size)) 17 _ hx17))
 try simp only[pU]
 refine zAc 2 rfl (by kernel_rfl) (fun K hK=>?_)
 go_simp
 refine (H1c.out _ HBc.out).mono ?_
 rintro e wk1 hpost
 obtain⟨v1,rfl,hown,hb⟩:=hpost.out
 obtain⟨A1,c1,rfl,-,hA⟩:=own_form hown
 have H1:=hide hA
 replace HBc:=hT HBc hb
 refine hK.out _ _ hb ?_
 clear hK K hb hpost hown hA
 try simp only[pU]
 refine zAc 5 rfl (by kernel_rfl) (fun K hK=>?_)
 go_simp
 refine (H2c.out _ HBc.out).mono ?_
 rintro e wk2 hpost
 obtain⟨v2,rfl,hown,hb⟩:=hpost.out
 obtain⟨A2,c2,rfl,-,hA⟩:=own_form hown
 replace H1:=hide ((H1.out.below hb).upto hb.size)
 have H2:=hide hA
 replace HBc:=hT HBc hb
 refine hK.out _ _ hb ?_
 clear hK K hb hpost hown hA
 try simp only[pU]
 refine zAc 8 rfl (by kernel_rfl) (fun K hK=>?_)
 go_simp
 refine (H3c.out _ HBc.out).mono ?_
 rintro e wk3 hpost
 obtain⟨v3,rfl,hown,hb⟩:=hpost.out
 obtain⟨A3,c3,rfl,-,hA⟩:=own_form hown
 replace H1:=hide ((H1.out.below hb).upto hb.size)
 replace H2:=hide ((H2.out.below hb).upto hb.size)
 have H3:=hide hA
 replace HBc:=hT HBc hb
 refine hK.out _ _ hb ?_
 clear hK K hb hpost hown hA
 try simp only[pU]
 refine zAc 11 rfl (by kernel_rfl) (fun K hK=>?_)
 go_simp
 refine (H4c.out _ HBc.out).mono ?_
 rintro e wk4 hpost
 obtain⟨v4,rfl,hown,hb⟩:=hpost.out
 obtain⟨A4,c4,rfl,-,hA⟩:=own_form hown
 replace H1:=hide ((H1.out.below hb).upto hb.size)
 replace H2:=hide ((H2.out.below hb).upto hb.size)
 replace H3:=hide ((H3.out.below hb).upto hb.size)
 have H4:=hide hA
 replace HBc:=hT HBc hb
 refine hK.out _ _ hb ?_
 clear hK K hb hpost hown hA
 try simp only[pU]
 refine zAc 14 rfl (by kernel_rfl) (fun K hK=>?_)
 go_simp
 refine (H5c.out _ HBc.out).mono ?_
 rintro e wk5 hpost
 obtain⟨v5,rfl,hown,hb⟩:=hpost.out
 obtain⟨A5,c5,rfl,-,hA⟩:=own_form hown
 replace H1:=hide ((H1.out.below hb).upto hb.size)
 replace H2:=hide ((H2.out.below hb).upto hb.size)
 replace H3:=hide ((H3.out.below hb).upto hb.size)
 replace H4:=hide ((H4.out.below hb).upto hb.size)
 have H5:=hide hA
 replace HBc:=hT HBc hb
 refine hK.out _ _ hb ?_
 clear hK K hb hpost hown hA
 try simp only[pU]
 refine zAc 17 rfl (by kernel_rfl) (fun K hK=>?_)
 go_simp
 refine (H6c.out _ HBc.out).mono ?_
 rintro e wk6 hpost
 obtain⟨v6,rfl,hown,hb⟩:=hpost.out
 obtain⟨A6,c6,rfl,-,hA⟩:=own_form hown
 replace H1:=hide ((H1.out.below hb).upto hb.size)
 replace H2:=hide ((H2.out.below hb).upto hb.size)
 replace H3:=hide ((H3.out.below hb).upto hb.size)
 replace H4:=hide ((H4.out.below hb).upto hb.size)
 replace H5:=hide ((H5.out.below hb).upto hb.size)
 have H6:=hide hA
 replace HBc:=hT HBc hb
 refine hK.out _ _ hb ?_
 clear hK K hb hpost hown hA
 try simp only[pU]
 refine zAc 20 rfl (by kernel_rfl) (fun K hK=>?_)
 go_simp
 refine (H7c.out _ HBc.out).mono ?_
 rintro e wk7 hpost
 obtain⟨v7,rfl,hown,hb⟩:=hpost.out
 obtain⟨A7,c7,rfl,-,hA⟩:=own_form hown
 replace H1:=hide ((H1.out.below hb).upto hb.size)
 replace H2:=hide ((H2.out.below hb).upto hb.size)
 replace H3:=hide ((H3.out.below hb).upto hb.size)
 replace H4:=hide ((H4.out.below hb).upto hb.size)
 replace H5:=hide ((H5.out.below hb).upto hb.size)
 replace H6:=hide ((H6.out.below hb).upto hb.size)
 have H7:=hide hA
 replace HBc:=hT HBc hb
 refine hK.out _ _ hb ?_
 clear hK K hb hpost hown hA
 try simp only[pU]
 refine zAc 23 rfl (by kernel_rfl) (fun K hK=>?_)
 go_simp
 refine (H8c.out _ HBc.out).mono ?_
 rintro e wk8 hpost
 obtain⟨v8,rfl,hown,hb⟩:=hpost.out
 obtain⟨A8,c8,rfl,-,hA⟩:=own_form hown
 replace H1:=hide ((H1.out.below hb).upto hb.size)
 replace H2:=hide ((H2.out.below hb).upto hb.size)
 replace H3:=hide ((H3.out.below hb).upto hb.size)
 replace H4:=hide ((H4.out.below hb).upto hb.size)
 replace H5:=hide ((H5.out.below hb).upto hb.size)
 replace H6:=hide ((H6.out.below hb).upto hb.size)
 replace H7:=hide ((H7.out.below hb).upto hb.size)
 have H8:=hide hA
 replace HBc:=hT HBc hb
 refine hK.out _ _ hb ?_
 clear hK K hb hpost hown hA
 try simp only[pU]
 refine zAc 24 rfl (by kernel_rfl) (fun K hK=>?_)
 go_simp
 have hb:Below wk8.heap.size wk8 (wk8.alloc (.cells #[.slice A1 l1.length c1,.slice A2 l2.length c2,.slice A3 l3.length c3,.slice A4 l4.length c4,.slice A5 l5.length c5,.slice A6 l6.length c6,.slice A7 l7.length c7,.slice A8 l8.length c8] 33)):=(Below.refl _ _).alloc (Nat.le_refl _) _
 have hblk:=Blk.new wk8 [.slice A1 l1.length c1,.slice A2 l2.length c2,.slice A3 l3.length c3,.slice A4 l4.length c4,.slice A5 l5.length c5,.slice A6 l6.length c6,.slice A7 l7.length c7,.slice A8 l8.length c8] 33
 have hS:SLs (wk8.alloc (.cells #[.slice A1 l1.length c1,.slice A2 l2.length c2,.slice A3 l3.length c3,.slice A4 l4.length c4,.slice A5 l5.length c5,.slice A6 l6.length c6,.slice A7 l7.length c7,.slice A8 l8.length c8] 33)) [l1,l2,l3,l4,l5,l6,l7,l8] (some ⟨wk8.heap.size,0,none⟩) 8:=SLs.blk hblk rfl rfl (fun i l hi=>by
  match i,hi with
  | 0,hi=>cases hi;exact⟨_,_,rfl,(H1.out.below hb).upto hb.size⟩
  | 1,hi=>cases hi;exact⟨_,_,rfl,(H2.out.below hb).upto hb.size⟩
  | 2,hi=>cases hi;exact⟨_,_,rfl,(H3.out.below hb).upto hb.size⟩
  | 3,hi=>cases hi;exact⟨_,_,rfl,(H4.out.below hb).upto hb.size⟩
  | 4,hi=>cases hi;exact⟨_,_,rfl,(H5.out.below hb).upto hb.size⟩
  | 5,hi=>cases hi;exact⟨_,_,rfl,(H6.out.below hb).upto hb.size⟩
  | 6,hi=>cases hi;exact⟨_,_,rfl,(H7.out.below hb).upto hb.size⟩
  | 7,hi=>cases hi;exact⟨_,_,rfl,(H8.out.below hb).upto hb.size⟩)
 obtain⟨wb,hwn⟩:∃wb,wk8.alloc (.cells #[.slice A1 l1.length c1,.slice A2 l2.length c2,.slice A3 l3.length c3,.slice A4 l4.length c4,.slice A5 l5.length c5,.slice A6 l6.length c6,.slice A7 l7.length c7,.slice A8 l8.length c8] 33)=wb:=⟨_,rfl⟩
 rw[hwn] at hb hS ⊢
 clear hblk hwn
 have HS:=hide hS
 replace HBc:=hT HBc hb
 refine hK.out _ _ hb ?_
 clear hK K hb hS H1 H2 H3 H4 H5 H6 H7 H8
 try simp only[pU]
 refine zAc 25 rfl (by kernel_rfl) (fun K hK=>?_)
 go_simp
 have hj:=zA9 wb _ 8 8 _ HS.out (by omega) (by have:=HTHS.out;omega)
 rw[HEHS.out] at hj
 refine hj.mono ?_
 rintro e wkr hpost
 obtain⟨vr,rfl,hown,hb⟩:=hpost.out
 have HOr:=hide (zAg hown HBc.out.size)
 replace HBc:=hT HBc hb
 refine hK.out _ _ hb ?_
 clear hK K hb hpost hown hj HS
 try simp only[pU]
 refine zAa 26 (some 2) rfl rfl (by kernel_rfl) rfl (by rfl) (fun W hW=>by go_simp<;>with_reducible rfl) ?_
 try simp only[pU]
 refine zAi (by kernel_rfl) ?_ _
 go_wp2
 go_ret
 exact⟨⟨_,rfl,zAg HOr.out HBw.out.size,HBw.out.trans (HBc.out.mono HBw.out.size)⟩⟩
theorem wc_search (w:World) (cs:List Value) (hn:cs.length=32) (hx1:cs[1]?=some (.int .i64 3)) (bs:List UInt8) (KC:Hid (∀W,Below w.heap.size w W->Calls Tryz.prog 103 #[.agg cs.toArray] W (WPost bs W))):
  Calls Tryz.prog 64 #[.agg cs.toArray] w (WPost bs w):=by
 have hb1:Below w.heap.size w (w.alloc (.cells cs.toArray 42)):=(Below.refl _ _).alloc (Nat.le_refl _) _
 have hB1:Blk (w.alloc (.cells cs.toArray 42)) w.heap.size cs:=Blk.new w cs 42
 obtain⟨w1,hw1⟩:∃w1,w.alloc (.cells cs.toArray 42)=w1:=⟨_,rfl⟩
 rw[hw1] at hb1 hB1
 obtain⟨p1,hp1⟩:∃p1,w.heap.size=p1:=⟨_,rfl⟩
 rw[hp1] at hB1
 have k1:=hB1.cells 1 _ hx1
 have KX:Hid (∀W,Below w1.heap.size w1 W->∀(i:Nat) (u:Value),cs[i]?=some u->W.cell? ⟨p1,i,none⟩=some u):=hide fun W hW i u hu=>(hB1.fr (Fr.of (X:=fun _=>False) hW) id).cells i u hu
 have HBl:=hide hB1
 have HBw:=hide hb1
 have Hw:=hide hw1
 have Hp:=hide hp1
 have HB0:Hid (Below w1.heap.size w1 w1.drew):=hide (Below.refl _ _).drew
 clear hb1 hB1 hw1 hp1
 go_enter Tryz.func64,Tryz.ntmps64
 go_upto_region 1 with fail
 rw[Hw.out]
 try rw[Hp.out]
 clear Hw
 go_wp2_with (first | (go_at_call 103;fail) | (refine loadM rfl (.tmp 1) rfl p1 rfl cs HBl.out hn ?_))
 refine (KC.out w1 HBw.out).mono ?_
 rintro e w2 hpost
 obtain⟨v,rfl,hown,hb2⟩:=hpost.out
 have HO:=hide hown
 have HBc:=hide hb2
 clear hpost hown hb2 k1 KC
 go_wp2
 go_ret
 exact⟨⟨_,rfl,zAg HO.out HBw.out.size,HBw.out.trans (HBc.out.mono HBw.out.size)⟩⟩
theorem wc_modname (w:World) (cs:List Value) (hn:cs.length=32) (hx1:cs[1]?=some (.int .i64 12)) (bs:List UInt8) (KC:Hid (∀W,Below w.heap.size w W->Calls Tryz.prog 108 #[.agg cs.toArray] W (WPost bs W))):
  Calls Tryz.prog 64 #[.agg cs.toArray] w (WPost bs w):=by
 have hb1:Below w.heap.size w (w.alloc (.cells cs.toArray 42)):=(Below.refl _ _).alloc (Nat.le_refl _) _
 have hB1:Blk (w.alloc (.cells cs.toArray 42)) w.heap.size cs:=Blk.new w cs 42
 obtain⟨w1,hw1⟩:∃w1,w.alloc (.cells cs.toArray 42)=w1:=⟨_,rfl⟩
 rw[hw1] at hb1 hB1
 obtain⟨p1,hp1⟩:∃p1,w.heap.size=p1:=⟨_,rfl⟩
 rw[hp1] at hB1
 have k1:=hB1.cells 1 _ hx1
 have KX:Hid (∀W,Below w1.heap.size w1 W->∀(i:Nat) (u:Value),cs[i]?=some u->W.cell? ⟨p1,i,none⟩=some u):=hide fun W hW i u hu=>(hB1.fr (Fr.of (X:=fun _=>False) hW) id).cells i u hu
 have HBl:=hide hB1
 have HBw:=hide hb1
 have Hw:=hide hw1
 have Hp:=hide hp1
 have HB0:Hid (Below w1.heap.size w1 w1.drew):=hide (Below.refl _ _).drew
 clear hb1 hB1 hw1 hp1
 go_enter Tryz.func64,Tryz.ntmps64
 go_upto_region 1 with fail
 rw[Hw.out]
 try rw[Hp.out]
 clear Hw
 go_wp2_with (first | (go_at_call 108;fail) | (refine loadM rfl (.tmp 1) rfl p1 rfl cs HBl.out hn ?_))
 refine (KC.out w1 HBw.out).mono ?_
 rintro e w2 hpost
 obtain⟨v,rfl,hown,hb2⟩:=hpost.out
 have HO:=hide hown
 have HBc:=hide hb2
 clear hpost hown hb2 k1 KC
 go_wp2
 go_ret
 exact⟨⟨_,rfl,zAg HO.out HBw.out.size,HBw.out.trans (HBc.out.mono HBw.out.size)⟩⟩
theorem wc_result (w:World) (cs:List Value) (hn:cs.length=32) (kd:Int) (hkd:(kd==2)=false/\(kd==0)=false/\(kd==3)=false/\(kd==6)=false/\(kd==8)=false/\(kd==4)=false/\(kd==10)=false/\(kd==12)=false/\(kd==14)=false/\(kd==16)=false/\(kd==19)=false) (hx1:cs[1]?=some (.int .i64 kd)) (bs:List UInt8) (KC:Hid (∀W,Below w.heap.size w W->Calls Tryz.prog 111 #[.agg cs.toArray] W (WPost bs W))):
  Calls Tryz.prog 64 #[.agg cs.toArray] w (WPost bs w):=by
 obtain⟨q2,q0,q3,q6,q8,q4,q10,q12,q14,q16,q19⟩:=hkd
 have hb1:Below w.heap.size w (w.alloc (.cells cs.toArray 42)):=(Below.refl _ _).alloc (Nat.le_refl _) _
 have hB1:Blk (w.alloc (.cells cs.toArray 42)) w.heap.size cs:=Blk.new w cs 42
 obtain⟨w1,hw1⟩:∃w1,w.alloc (.cells cs.toArray 42)=w1:=⟨_,rfl⟩
 rw[hw1] at hb1 hB1
 obtain⟨p1,hp1⟩:∃p1,w.heap.size=p1:=⟨_,rfl⟩
 rw[hp1] at hB1
 have k1:=hB1.cells 1 _ hx1
 have KX:Hid (∀W,Below w1.heap.size w1 W->∀(i:Nat) (u:Value),cs[i]?=some u->W.cell? ⟨p1,i,none⟩=some u):=hide fun W hW i u hu=>(hB1.fr (Fr.of (X:=fun _=>False) hW) id).cells i u hu
 have HBl:=hide hB1
 have HBw:=hide hb1
 have Hw:=hide hw1
 have Hp:=hide hp1
 have HB0:Hid (Below w1.heap.size w1 w1.drew):=hide (Below.refl _ _).drew
 clear hb1 hB1 hw1 hp1
 go_enter Tryz.func64,Tryz.ntmps64
 go_upto_region 1 with fail
 rw[Hw.out]
 try rw[Hp.out]
 clear Hw
 go_wp2_with (first | (go_at_call 111;fail) | (refine loadM rfl (.tmp 1) rfl p1 rfl cs HBl.out hn ?_))
 refine (KC.out w1 HBw.out).mono ?_
 rintro e w2 hpost
 obtain⟨v,rfl,hown,hb2⟩:=hpost.out
 have HO:=hide hown
 have HBc:=hide hb2
 clear hpost hown hb2 k1 KC
 go_wp2
 go_ret
 exact⟨⟨_,rfl,zAg HO.out HBw.out.size,HBw.out.trans (HBc.out.mono HBw.out.size)⟩⟩
theorem wc_abandon (w:World) (cs:List Value) (hn:cs.length=32) (hx1:cs[1]?=some (.int .i64 16)) (n26:Int) (hx26:cs[26]?=some (.int .i64 n26)) (bs:List UInt8) (KC:Hid (∀W,Below w.heap.size w W->Calls Tryz.prog 99 #[.int .i64 n26] W (WPost bs W))):
  Calls Tryz.prog 64 #[.agg cs.toArray] w (WPost bs w):=by
 have hb1:Below w.heap.size w (w.alloc (.cells cs.toArray 42)):=(Below.refl _ _).alloc (Nat.le_refl _) _
 have hB1:Blk (w.alloc (.cells cs.toArray 42)) w.heap.size cs:=Blk.new w cs 42
 obtain⟨w1,hw1⟩:∃w1,w.alloc (.cells cs.toArray 42)=w1:=⟨_,rfl⟩
 rw[hw1] at hb1 hB1
 obtain⟨p1,hp1⟩:∃p1,w.heap.size=p1:=⟨_,rfl⟩
 rw[hp1] at hB1
 have k1:=hB1.cells 1 _ hx1
 have KX:Hid (∀W,Below w1.heap.size w1 W->∀(i:Nat) (u:Value),cs[i]?=some u->W.cell? ⟨p1,i,none⟩=some u):=hide fun W hW i u hu=>(hB1.fr (Fr.of (X:=fun _=>False) hW) id).cells i u hu
 have HBl:=hide hB1
 have HBw:=hide hb1
 have Hw:=hide hw1
 have Hp:=hide hp1
 have HB0:Hid (Below w1.heap.size w1 w1.drew):=hide (Below.refl _ _).drew
 clear hb1 hB1 hw1 hp1
 go_enter Tryz.func64,Tryz.ntmps64
 go_upto_region 1 with fail
 rw[Hw.out]
 try rw[Hp.out]
 clear Hw
 have k26:=KX.out w1 (Below.refl _ _) 26 _ hx26
 go_wp2_with (first | (go_at_call 99;fail))
 refine (KC.out w1 HBw.out).mono ?_
 rintro e w2 hpost
 obtain⟨v,rfl,hown,hb2⟩:=hpost.out
 have HO:=hide hown
 have HBc:=hide hb2
 clear hpost hown hb2 k1 KC k26
 go_wp2
 go_ret
 exact⟨⟨_,rfl,zAg HO.out HBw.out.size,HBw.out.trans (HBc.out.mono HBw.out.size)⟩⟩
theorem wc_refs (w:World) (cs:List Value) (hn:cs.length=32) (hx1:cs[1]?=some (.int .i64 19)) (v30:Value) (hx30:cs[30]?=some (v30)) (bs:List UInt8) (KC:Hid (∀W,Below w.heap.size w W->Calls Tryz.prog 110 #[v30,.func (.func 101) #[] #[]] W (WPost bs W))):
  Calls Tryz.prog 64 #[.agg cs.toArray] w (WPost bs w):=by
 have hb1:Below w.heap.size w (w.alloc (.cells cs.toArray 42)):=(Below.refl _ _).alloc (Nat.le_refl _) _
 have hB1:Blk (w.alloc (.cells cs.toArray 42)) w.heap.size cs:=Blk.new w cs 42
 obtain⟨w1,hw1⟩:∃w1,w.alloc (.cells cs.toArray 42)=w1:=⟨_,rfl⟩
 rw[hw1] at hb1 hB1
 obtain⟨p1,hp1⟩:∃p1,w.heap.size=p1:=⟨_,rfl⟩
 rw[hp1] at hB1
 have k1:=hB1.cells 1 _ hx1
 have KX:Hid (∀W,Below w1.heap.size w1 W->∀(i:Nat) (u:Value),cs[i]?=some u->W.cell? ⟨p1,i,none⟩=some u):=hide fun W hW i u hu=>(hB1.fr (Fr.of (X:=fun _=>False) hW) id).cells i u hu
 have HBl:=hide hB1
 have HBw:=hide hb1
 have Hw:=hide hw1
 have Hp:=hide hp1
 have HB0:Hid (Below w1.heap.size w1 w1.drew):=hide (Below.refl _ _).drew
 clear hb1 hB1 hw1 hp1
 go_enter Tryz.func64,Tryz.ntmps64
 go_upto_region 1 with fail
 rw[Hw.out]
 try rw[Hp.out]
 clear Hw
 have k30:=KX.out w1 (Below.refl _ _) 30 _ hx30
 go_wp2_with (first | (go_at_call 110;fail))
 refine (KC.out w1 HBw.out).mono ?_
 rintro e w2 hpost
 obtain⟨v,rfl,hown,hb2⟩:=hpost.out
 have HO:=hide hown
 have HBc:=hide hb2
 clear hpost hown hb2 k1 KC k30
 go_wp2
 go_ret
 exact⟨⟨_,rfl,zAg HO.out HBw.out.size,HBw.out.trans (HBc.out.mono HBw.out.size)⟩⟩
theorem wmodname_n (w:World) (cs:List Value) (hn:cs.length=32) (sn:ByteArray) (hx2:cs[2]?=some (.string sn)) (sr:ByteArray) (hx20:cs[20]?=some (.string sr)) (bd:Bool) (hx21:cs[21]?=some (.bool bd)) (hx22:cs[22]?=some (.bool false)) (l1 l2 l3:List UInt8) (hl:tot [l1,l2,l3]<=300000000)
  (K1:Hid (∀W,Below w.heap.size w W->Calls Tryz.prog 101 #[.string sn] W (WPost l1 W)))
  (K2:Hid (∀W,Below w.heap.size w W->Calls Tryz.prog 101 #[.string sr] W (WPost l2 W)))
  (K3:Hid (∀W,Below w.heap.size w W->Calls Tryz.prog 113 #[.bool bd] W (WPost l3 W))):
  Calls Tryz.prog 108 #[.agg cs.toArray] w (WPost ([l1,l2,l3]:List (List UInt8)).flatten w):=by
 have HTHS:=hide hl
 obtain⟨bs,hbs⟩:∃bs,([l1,l2,l3]:List (List UInt8)).flatten=bs:=⟨_,rfl⟩
 rw[hbs]
 have HEHS:=hide hbs
 clear hbs hl
 have hb1:Below w.heap.size w (w.alloc (.cells cs.toArray 42)):=(Below.refl _ _).alloc (Nat.le_refl _) _
 have hB1:Blk (w.alloc (.cells cs.toArray 42)) w.heap.size cs:=Blk.new w cs 42
 obtain⟨w1,hw1⟩:∃w1,w.alloc (.cells cs.toArray 42)=w1:=⟨_,rfl⟩
 rw[hw1] at hb1 hB1
 obtain⟨p1,hp1⟩:∃p1,w.heap.size=p1:=⟨_,rfl⟩
 rw[hp1] at hB1
 have KX:Hid (∀W,Below w1.heap.size w1 W->∀(i:Nat) (u:Value),cs[i]?=some u->W.cell? ⟨p1,i,none⟩=some u):=hide fun W hW i u hu=>(hB1.fr (Fr.of (X:=fun _=>False) hW) id).cells i u hu
 have HBl:=hide hB1
 have HBw:=hide hb1
 have Hw:=hide hw1
 have Hp:=hide hp1
 have HB0:Hid (Below w1.heap.size w1 w1.drew):=hide (Below.refl _ _).drew
 clear hb1 hB1 hw1 hp1
 go_enter Tryz.func108,Tryz.ntmps108
 go_upto_region 1 with fail
 rw[Hw.out]
 try rw[Hp.out]
 clear Hw
 have H1c:Hid (∀W,Below w1.heap.size w1 W->Calls Tryz.prog 101 #[.string sn] W (WPost l1 W)):=hide fun W hW=>K1.out W (HBw.out.trans (hW.mono HBw.out.size))
 have H2c:Hid (∀W,Below w1.heap.size w1 W->Calls Tryz.prog 101 #[.string sr] W (WPost l2 W)):=hide fun W hW=>K2.out W (HBw.out.trans (hW.mono HBw.out.size))
 have H3c:Hid (∀W,Below w1.heap.size w1 W->Calls Tryz.prog 113 #[.bool bd] W (WPost l3 W)):=hide fun W hW=>K3.out W (HBw.out.trans (hW.mono HBw.out.size))
 clear K1 K2 K3
 go_wp2_with fail
 refine zAs (by kernel_rfl) ?_
 generalize w1.drew=wd at *
 have HBc:=HB0
 refine zAa 0 (some 4) rfl rfl (by kernel_rfl) rfl (by rfl) (fun W hW=>by go_simp<;>with_reducible rfl) ?_
 try simp only[pU]
 refine zAa 1 (some 5) (v:=.string sn) rfl rfl (by kernel_rfl) rfl (by rfl) (fun W hW=>?ya1) ?_
 case ya1=>
  exact zAd _ _ _ rfl p1 2 rfl _ (loadS8 W _ _ (KX.out W (HB0.out.trans (hW.mono HB0.out.size)) 2 _ hx2))
 try simp only[pU]
 refine zAa 3 (some 7) rfl rfl (by kernel_rfl) rfl (by rfl) (fun W hW=>by go_simp<;>with_reducible rfl) ?_
 try simp only[pU]
 refine zAa 4 (some 8) (v:=.string sr) rfl rfl (by kernel_rfl) rfl (by rfl) (fun W hW=>?ya4) ?_
 case ya4=>
  exact zAd _ _ _ rfl p1 20 rfl _ (loadS8 W _ _ (KX.out W (HB0.out.trans (hW.mono HB0.out.size)) 20 _ hx20))
 try simp only[pU]
 refine zAa 6 (some 10) rfl rfl (by kernel_rfl) rfl (by rfl) (fun W hW=>by go_simp<;>with_reducible rfl) ?_
 try simp only[pU]
 refine zAa 7 (some 11) (v:=.bool bd) rfl rfl (by kernel_rfl) rfl (by rfl) (fun W hW=>?ya7) ?_
 case ya7=>
  exact zAd _ _ _ rfl p1 21 rfl _ (loadB8 W _ _ (KX.out W (HB0.out.trans (hW.mono HB0.out.size)) 21 _ hx21))
 try simp only[pU]
 refine zAc 2 rfl (by kernel_rfl) (fun K hK=>?_)
 go_simp
 refine (H1c.out _ HBc.out).mono ?_
 rintro e wk1 hpost
 obtain⟨v1,rfl,hown,hb⟩:=hpost.out
 obtain⟨A1,c1,rfl,-,hA⟩:=own_form hown
 have H1:=hide hA
 replace HBc:=hT HBc hb
 refine hK.out _ _ hb ?_
 clear hK K hb hpost hown hA
 try simp only[pU]
 refine zAc 5 rfl (by kernel_rfl) (fun K hK=>?_)
 go_simp
 refine (H2c.out _ HBc.out).mono ?_
 rintro e wk2 hpost
 obtain⟨v2,rfl,hown,hb⟩:=hpost.out
 obtain⟨A2,c2,rfl,-,hA⟩:=own_form hown
 replace H1:=hide ((H1.out.below hb).upto hb.size)
 have H2:=hide hA
 replace HBc:=hT HBc hb
 refine hK.out _ _ hb ?_
 clear hK K hb hpost hown hA
 try simp only[pU]
 refine zAc 8 rfl (by kernel_rfl) (fun K hK=>?_)
 go_simp
 refine (H3c.out _ HBc.out).mono ?_
 rintro e wk3 hpost
 obtain⟨v3,rfl,hown,hb⟩:=hpost.out
 obtain⟨A3,c3,rfl,-,hA⟩:=own_form hown
 replace H1:=hide ((H1.out.below hb).upto hb.size)
 replace H2:=hide ((H2.out.below hb).upto hb.size)
 have H3:=hide hA
 replace HBc:=hT HBc hb
 refine hK.out _ _ hb ?_
 clear hK K hb hpost hown hA
 try simp only[pU]
 refine zAc 9 rfl (by kernel_rfl) (fun K hK=>?_)
 go_simp
 have hb:Below wk3.heap.size wk3 (wk3.alloc (.cells #[.slice A1 l1.length c1,.slice A2 l2.length c2,.slice A3 l3.length c3] 33)):=(Below.refl _ _).alloc (Nat.le_refl _) _
 have hblk:=Blk.new wk3 [.slice A1 l1.length c1,.slice A2 l2.length c2,.slice A3 l3.length c3] 33
 have hS:SLs (wk3.alloc (.cells #[.slice A1 l1.length c1,.slice A2 l2.length c2,.slice A3 l3.length c3] 33)) [l1,l2,l3] (some ⟨wk3.heap.size,0,none⟩) 3:=SLs.blk hblk rfl rfl (fun i l hi=>by
  match i,hi with
  | 0,hi=>cases hi;exact⟨_,_,rfl,(H1.out.below hb).upto hb.size⟩
  | 1,hi=>cases hi;exact⟨_,_,rfl,(H2.out.below hb).upto hb.size⟩
  | 2,hi=>cases hi;exact⟨_,_,rfl,(H3.out.below hb).upto hb.size⟩)
 obtain⟨wb,hwn⟩:∃wb,wk3.alloc (.cells #[.slice A1 l1.length c1,.slice A2 l2.length c2,.slice A3 l3.length c3] 33)=wb:=⟨_,rfl⟩
 rw[hwn] at hb hS ⊢
 clear hblk hwn
 have HS:=hide hS
 replace HBc:=hT HBc hb
 refine hK.out _ _ hb ?_
 clear hK K hb hS H1 H2 H3
 try simp only[pU]
 refine zAc 10 rfl (by kernel_rfl) (fun K hK=>?_)
 go_simp
 have hj:=zA9 wb _ 3 3 _ HS.out (by omega) (by have:=HTHS.out;omega)
 rw[HEHS.out] at hj
 refine hj.mono ?_
 rintro e wkr hpost
 obtain⟨vr,rfl,hown,hb⟩:=hpost.out
 have HOr:=hide (zAg hown HBc.out.size)
 replace HBc:=hT HBc hb
 refine hK.out _ _ hb ?_
 clear hK K hb hpost hown hj HS
 try simp only[pU]
 refine zAa 11 (some 3) rfl rfl (by kernel_rfl) rfl (by rfl) (fun W hW=>by go_simp<;>with_reducible rfl) ?_
 try simp only[pU]
 refine zAi (by kernel_rfl) ?_ _
 have kc:=KX.out _ HBc.out 22 _ hx22
 go_wp2
 go_ret
 exact⟨⟨_,rfl,zAg HOr.out HBw.out.size,HBw.out.trans (HBc.out.mono HBw.out.size)⟩⟩
theorem wmodname_y (w:World) (cs:List Value) (hn:cs.length=32) (sn:ByteArray) (hx2:cs[2]?=some (.string sn)) (sr:ByteArray) (hx20:cs[20]?=some (.string sr)) (bd:Bool) (hx21:cs[21]?=some (.bool bd)) (hx22:cs[22]?=some (.bool true)) (ss:ByteArray) (hx23:cs[23]?=some (.string ss)) (le:List UInt8) (hle:le.length<=300000000) (l1 l2 l3:List UInt8) (hl:tot [l1,l2,l3]<=300000000)
  (K1:Hid (∀W,Below w.heap.size w W->Calls Tryz.prog 101 #[.string sn] W (WPost l1 W)))
  (K2:Hid (∀W,Below w.heap.size w W->Calls Tryz.prog 101 #[.string sr] W (WPost l2 W)))
  (K3:Hid (∀W,Below w.heap.size w W->Calls Tryz.prog 113 #[.bool bd] W (WPost l3 W)))
  (KE:Hid (∀W,Below w.heap.size w W->Calls Tryz.prog 102 #[.int .u8 128,.string ss] W (WPost le W))):
  Calls Tryz.prog 108 #[.agg cs.toArray] w (WPost (([l1,l2,l3]:List (List UInt8)).flatten++le) w):=by
 have HTHS:=hide hl
 obtain⟨bs,hbs⟩:∃bs,([l1,l2,l3]:List (List UInt8)).flatten=bs:=⟨_,rfl⟩
 obtain⟨ys,hys⟩:∃ys,bs++le=ys:=⟨_,rfl⟩
 rw[hbs,hys]
 have Hbd:Hid (bs.length+le.length<=100000000000):=hide (by have:=hl;unfold tot at this;rw[hbs] at this;omega)
 have Hyl:Hid (bs.length+le.length=ys.length):=hide (by rw[<-hys,List.length_append])
 have Hys:=hide hys
 clear hys hle
 have HEHS:=hide hbs
 clear hbs hl
 have hb1:Below w.heap.size w (w.alloc (.cells cs.toArray 42)):=(Below.refl _ _).alloc (Nat.le_refl _) _
 have hB1:Blk (w.alloc (.cells cs.toArray 42)) w.heap.size cs:=Blk.new w cs 42
 obtain⟨w1,hw1⟩:∃w1,w.alloc (.cells cs.toArray 42)=w1:=⟨_,rfl⟩
 rw[hw1] at hb1 hB1
 obtain⟨p1,hp1⟩:∃p1,w.heap.size=p1:=⟨_,rfl⟩
 rw[hp1] at hB1
 have KX:Hid (∀W,Below w1.heap.size w1 W->∀(i:Nat) (u:Value),cs[i]?=some u->W.cell? ⟨p1,i,none⟩=some u):=hide fun W hW i u hu=>(hB1.fr (Fr.of (X:=fun _=>False) hW) id).cells i u hu
 have HBl:=hide hB1
 have HBw:=hide hb1
 have Hw:=hide hw1
 have Hp:=hide hp1
 have HB0:Hid (Below w1.heap.size w1 w1.drew):=hide (Below.refl _ _).drew
 clear hb1 hB1 hw1 hp1
 go_enter Tryz.func108,Tryz.ntmps108
 go_upto_region 1 with fail
 rw[Hw.out]
 try rw[Hp.out]
 clear Hw
 have H1c:Hid (∀W,Below w1.heap.size w1 W->Calls Tryz.prog 101 #[.string sn] W (WPost l1 W)):=hide fun W hW=>K1.out W (HBw.out.trans (hW.mono HBw.out.size))
 have H2c:Hid (∀W,Below w1.heap.size w1 W->Calls Tryz.prog 101 #[.string sr] W (WPost l2 W)):=hide fun W hW=>K2.out W (HBw.out.trans (hW.mono HBw.out.size))
 have H3c:Hid (∀W,Below w1.heap.size w1 W->Calls Tryz.prog 113 #[.bool bd] W (WPost l3 W)):=hide fun W hW=>K3.out W (HBw.out.trans (hW.mono HBw.out.size))
 clear K1 K2 K3
 have HEc:Hid (∀W,Below w1.heap.size w1 W->Calls Tryz.prog 102 #[.int .u8 128,.string ss] W (WPost le W)):=hide fun W hW=>KE.out W (HBw.out.trans (hW.mono HBw.out.size))
 clear KE
 go_wp2_with fail
 refine zAs (by kernel_rfl) ?_
 generalize w1.drew=wd at *
 have HBc:=HB0
 refine zAa 0 (some 4) rfl rfl (by kernel_rfl) rfl (by rfl) (fun W hW=>by go_simp<;>with_reducible rfl) ?_
 try simp only[pU]
 refine zAa 1 (some 5) (v:=.string sn) rfl rfl (by kernel_rfl) rfl (by rfl) (fun W hW=>?ya1) ?_
 case ya1=>
  exact zAd _ _ _ rfl p1 2 rfl _ (loadS8 W _ _ (KX.out W (HB0.out.trans (hW.mono HB0.out.size)) 2 _ hx2))
 try simp only[pU]
 refine zAa 3 (some 7) rfl rfl (by kernel_rfl) rfl (by rfl) (fun W hW=>by go_simp<;>with_reducible rfl) ?_
 try simp only[pU]
 refine zAa 4 (some 8) (v:=.string sr) rfl rfl (by kernel_rfl) rfl (by rfl) (fun W hW=>?ya4) ?_
 case ya4=>
  exact zAd _ _ _ rfl p1 20 rfl _ (loadS8 W _ _ (KX.out W (HB0.out.trans (hW.mono HB0.out.size)) 20 _ hx20))
 try simp only[pU]
 refine zAa 6 (some 10) rfl rfl (by kernel_rfl) rfl (by rfl) (fun W hW=>by go_simp<;>with_reducible rfl) ?_
 try simp only[pU]
 refine zAa 7 (some 11) (v:=.bool bd) rfl rfl (by kernel_rfl) rfl (by rfl) (fun W hW=>?ya7) ?_
 case ya7=>
  exact zAd _ _ _ rfl p1 21 rfl _ (loadB8 W _ _ (KX.out W (HB0.out.trans (hW.mono HB0.out.size)) 21 _ hx21))
 try simp only[pU]
 refine zAc 2 rfl (by kernel_rfl) (fun K hK=>?_)
 go_simp
 refine (H1c.out _ HBc.out).mono ?_
 rintro e wk1 hpost
 obtain⟨v1,rfl,hown,hb⟩:=hpost.out
 obtain⟨A1,c1,rfl,-,hA⟩:=own_form hown
 have H1:=hide hA
 replace HBc:=hT HBc hb
 refine hK.out _ _ hb ?_
 clear hK K hb hpost hown hA
 try simp only[pU]
 refine zAc 5 rfl (by kernel_rfl) (fun K hK=>?_)
 go_simp
 refine (H2c.out _ HBc.out).mono ?_
 rintro e wk2 hpost
 obtain⟨v2,rfl,hown,hb⟩:=hpost.out
 obtain⟨A2,c2,rfl,-,hA⟩:=own_form hown
 replace H1:=hide ((H1.out.below hb).upto hb.size)
 have H2:=hide hA
 replace HBc:=hT HBc hb
 refine hK.out _ _ hb ?_
 clear hK K hb hpost hown hA
 try simp only[pU]
 refine zAc 8 rfl (by kernel_rfl) (fun K hK=>?_)
 go_simp
 refine (H3c.out _ HBc.out).mono ?_
 rintro e wk3 hpost
 obtain⟨v3,rfl,hown,hb⟩:=hpost.out
 obtain⟨A3,c3,rfl,-,hA⟩:=own_form hown
 replace H1:=hide ((H1.out.below hb).upto hb.size)
 replace H2:=hide ((H2.out.below hb).upto hb.size)
 have H3:=hide hA
 replace HBc:=hT HBc hb
 refine hK.out _ _ hb ?_
 clear hK K hb hpost hown hA
 try simp only[pU]
 refine zAc 9 rfl (by kernel_rfl) (fun K hK=>?_)
 go_simp
 have hb:Below wk3.heap.size wk3 (wk3.alloc (.cells #[.slice A1 l1.length c1,.slice A2 l2.length c2,.slice A3 l3.length c3] 33)):=(Below.refl _ _).alloc (Nat.le_refl _) _
 have hblk:=Blk.new wk3 [.slice A1 l1.length c1,.slice A2 l2.length c2,.slice A3 l3.length c3] 33
 have hS:SLs (wk3.alloc (.cells #[.slice A1 l1.length c1,.slice A2 l2.length c2,.slice A3 l3.length c3] 33)) [l1,l2,l3] (some ⟨wk3.heap.size,0,none⟩) 3:=SLs.blk hblk rfl rfl (fun i l hi=>by
  match i,hi with
  | 0,hi=>cases hi;exact⟨_,_,rfl,(H1.out.below hb).upto hb.size⟩
  | 1,hi=>cases hi;exact⟨_,_,rfl,(H2.out.below hb).upto hb.size⟩
  | 2,hi=>cases hi;exact⟨_,_,rfl,(H3.out.below hb).upto hb.size⟩)
 obtain⟨wb,hwn⟩:∃wb,wk3.alloc (.cells #[.slice A1 l1.length c1,.slice A2 l2.length c2,.slice A3 l3.length c3] 33)=wb:=⟨_,rfl⟩
 rw[hwn] at hb hS ⊢
 clear hblk hwn
 have HS:=hide hS
 replace HBc:=hT HBc hb
 refine hK.out _ _ hb ?_
 clear hK K hb hS H1 H2 H3
 try simp only[pU]
 refine zAc 10 rfl (by kernel_rfl) (fun K hK=>?_)
 go_simp
 have hj:=zA9 wb _ 3 3 _ HS.out (by omega) (by have:=HTHS.out;omega)
 rw[HEHS.out] at hj
 refine hj.mono ?_
 rintro e wkr hpost
 obtain⟨vr,rfl,hown,hb⟩:=hpost.out
 have HOr:=hide (zAg hown HBc.out.size)
 replace HBc:=hT HBc hb
 refine hK.out _ _ hb ?_
 clear hK K hb hpost hown hj HS
 try simp only[pU]
 refine zAa 11 (some 3) rfl rfl (by kernel_rfl) rfl (by rfl) (fun W hW=>by go_simp<;>with_reducible rfl) ?_
 try simp only[pU]
 refine zAi (by kernel_rfl) ?_ _
 have kc:=KX.out _ HBc.out 22 _ hx22
 have kl:=KX.out _ HBc.out 23 _ hx23
 go_wp2_with (go_at_call 102;fail)
 refine (HEc.out _ HBc.out).mono ?_
 rintro e we hpost
 obtain⟨ve,rfl,hown,hb⟩:=hpost.out
 obtain⟨Ae,ce,rfl,-,hx⟩:=own_form hown
 have ho:=zAo HOr.out hb
 replace HBc:=hT HBc hb
 have hbz:=HBc.out.size
 have hbd:=Hbd.out
 clear hpost hown hb HOr kc kl
 go_wp2_with (at_builtin;go_must (refine app8g _ rfl (.tmp 17) (.tmp 20) rfl w1.heap.size _ _ bs rfl ho _ Ae _ ce le rfl hx ys Hys Hyl (by omega) hbz ?_))
 intro v9 w9 hor hb _
 have HO9:=hide hor
 replace HBc:=hide (HBc.out.trans hb)
 clear ho hx hbz hor hb hbd
 go_wp2
 go_ret
 exact⟨⟨_,rfl,zAg HO9.out HBw.out.size,HBw.out.trans (HBc.out.mono HBw.out.size)⟩⟩
theorem wresult_n (w:World) (cs:List Value) (hn:cs.length=32) (nc:Int) (hx27:cs[27]?=some (.int .i64 nc)) (sm:ByteArray) (hx28:cs[28]?=some (.string sm)) (st:ByteArray) (hx29:cs[29]?=some (.string st)) (A:Option Addr) (c:Nat) (hx30:cs[30]?=some (.slice A 0 c)) (l1 l2 l3:List UInt8) (hl:tot [l1,l2,l3]<=300000000)
  (K1:Hid (∀W,Below w.heap.size w W->Calls Tryz.prog 61 #[.int .u8 10,.int .i64 nc] W (WPost l1 W)))
  (K2:Hid (∀W,Below w.heap.size w W->Calls Tryz.prog 101 #[.string sm] W (WPost l2 W)))
  (K3:Hid (∀W,Below w.heap.size w W->Calls Tryz.prog 101 #[.string st] W (WPost l3 W))):
  Calls Tryz.prog 111 #[.agg cs.toArray] w (WPost ([l1,l2,l3]:List (List UInt8)).flatten w):=by
 have HTHS:=hide hl
 obtain⟨bs,hbs⟩:∃bs,([l1,l2,l3]:List (List UInt8)).flatten=bs:=⟨_,rfl⟩
 rw[hbs]
 have HEHS:=hide hbs
 clear hbs hl
 have hb1:Below w.heap.size w (w.alloc (.cells cs.toArray 42)):=(Below.refl _ _).alloc (Nat.le_refl _) _
 have hB1:Blk (w.alloc (.cells cs.toArray 42)) w.heap.size cs:=Blk.new w cs 42
 obtain⟨w1,hw1⟩:∃w1,w.alloc (.cells cs.toArray 42)=w1:=⟨_,rfl⟩
 rw[hw1] at hb1 hB1
 obtain⟨p1,hp1⟩:∃p1,w.heap.size=p1:=⟨_,rfl⟩
 rw[hp1] at hB1
 have KX:Hid (∀W,Below w1.heap.size w1 W->∀(i:Nat) (u:Value),cs[i]?=some u->W.cell? ⟨p1,i,none⟩=some u):=hide fun W hW i u hu=>(hB1.fr (Fr.of (X:=fun _=>False) hW) id).cells i u hu
 have HBl:=hide hB1
 have HBw:=hide hb1
 have Hw:=hide hw1
 have Hp:=hide hp1
 have HB0:Hid (Below w1.heap.size w1 w1.drew):=hide (Below.refl _ _).drew
 clear hb1 hB1 hw1 hp1
 go_enter Tryz.func111,Tryz.ntmps111
 go_upto_region 1 with fail
 rw[Hw.out]
 try rw[Hp.out]
 clear Hw
 have H1c:Hid (∀W,Below w1.heap.size w1 W->Calls Tryz.prog 61 #[.int .u8 10,.int .i64 nc] W (WPost l1 W)):=hide fun W hW=>K1.out W (HBw.out.trans (hW.mono HBw.out.size))
 have H2c:Hid (∀W,Below w1.heap.size w1 W->Calls Tryz.prog 101 #[.string sm] W (WPost l2 W)):=hide fun W hW=>K2.out W (HBw.out.trans (hW.mono HBw.out.size))
 have H3c:Hid (∀W,Below w1.heap.size w1 W->Calls Tryz.prog 101 #[.string st] W (WPost l3 W)):=hide fun W hW=>K3.out W (HBw.out.trans (hW.mono HBw.out.size))
 clear K1 K2 K3
 go_wp2_with fail
 refine zAs (by kernel_rfl) ?_
 generalize w1.drew=wd at *
 have HBc:=HB0
 refine zAa 0 (some 4) rfl rfl (by kernel_rfl) rfl (by rfl) (fun W hW=>by go_simp<;>with_reducible rfl) ?_
 try simp only[pU]
 refine zAa 1 (some 5) (v:=.int .i64 nc) rfl rfl (by kernel_rfl) rfl (by rfl) (fun W hW=>?ya1) ?_
 case ya1=>
  exact zAd _ _ _ rfl p1 27 rfl _ (loadI8 W _ _ (KX.out W (HB0.out.trans (hW.mono HB0.out.size)) 27 _ hx27))
 try simp only[pU]
 refine zAa 3 (some 7) rfl rfl (by kernel_rfl) rfl (by rfl) (fun W hW=>by go_simp<;>with_reducible rfl) ?_
 try simp only[pU]
 refine zAa 4 (some 8) (v:=.string sm) rfl rfl (by kernel_rfl) rfl (by rfl) (fun W hW=>?ya4) ?_
 case ya4=>
  exact zAd _ _ _ rfl p1 28 rfl _ (loadS8 W _ _ (KX.out W (HB0.out.trans (hW.mono HB0.out.size)) 28 _ hx28))
 try simp only[pU]
 refine zAa 6 (some 10) rfl rfl (by kernel_rfl) rfl (by rfl) (fun W hW=>by go_simp<;>with_reducible rfl) ?_
 try simp only[pU]
 refine zAa 7 (some 11) (v:=.string st) rfl rfl (by kernel_rfl) rfl (by rfl) (fun W hW=>?ya7) ?_
 case ya7=>
  exact zAd _ _ _ rfl p1 29 rfl _ (loadS8 W _ _ (KX.out W (HB0.out.trans (hW.mono HB0.out.size)) 29 _ hx29))
 try simp only[pU]
 refine zAc 2 rfl (by kernel_rfl) (fun K hK=>?_)
 go_simp
 refine (H1c.out _ HBc.out).mono ?_
 rintro e wk1 hpost
 obtain⟨v1,rfl,hown,hb⟩:=hpost.out
 obtain⟨A1,c1,rfl,-,hA⟩:=own_form hown
 have H1:=hide hA
 replace HBc:=hT HBc hb
 refine hK.out _ _ hb ?_
 clear hK K hb hpost hown hA
 try simp only[pU]
 refine zAc 5 rfl (by kernel_rfl) (fun K hK=>?_)
 go_simp
 refine (H2c.out _ HBc.out).mono ?_
 rintro e wk2 hpost
 obtain⟨v2,rfl,hown,hb⟩:=hpost.out
 obtain⟨A2,c2,rfl,-,hA⟩:=own_form hown
 replace H1:=hide ((H1.out.below hb).upto hb.size)
 have H2:=hide hA
 replace HBc:=hT HBc hb
 refine hK.out _ _ hb ?_
 clear hK K hb hpost hown hA
 try simp only[pU]
 refine zAc 8 rfl (by kernel_rfl) (fun K hK=>?_)
 go_simp
 refine (H3c.out _ HBc.out).mono ?_
 rintro e wk3 hpost
 obtain⟨v3,rfl,hown,hb⟩:=hpost.out
 obtain⟨A3,c3,rfl,-,hA⟩:=own_form hown
 replace H1:=hide ((H1.out.below hb).upto hb.size)
 replace H2:=hide ((H2.out.below hb).upto hb.size)
 have H3:=hide hA
 replace HBc:=hT HBc hb
 refine hK.out _ _ hb ?_
 clear hK K hb hpost hown hA
 try simp only[pU]
 refine zAc 9 rfl (by kernel_rfl) (fun K hK=>?_)
 go_simp
 have hb:Below wk3.heap.size wk3 (wk3.alloc (.cells #[.slice A1 l1.length c1,.slice A2 l2.length c2,.slice A3 l3.length c3] 33)):=(Below.refl _ _).alloc (Nat.le_refl _) _
 have hblk:=Blk.new wk3 [.slice A1 l1.length c1,.slice A2 l2.length c2,.slice A3 l3.length c3] 33
 have hS:SLs (wk3.alloc (.cells #[.slice A1 l1.length c1,.slice A2 l2.length c2,.slice A3 l3.length c3] 33)) [l1,l2,l3] (some ⟨wk3.heap.size,0,none⟩) 3:=SLs.blk hblk rfl rfl (fun i l hi=>by
  match i,hi with
  | 0,hi=>cases hi;exact⟨_,_,rfl,(H1.out.below hb).upto hb.size⟩
  | 1,hi=>cases hi;exact⟨_,_,rfl,(H2.out.below hb).upto hb.size⟩
  | 2,hi=>cases hi;exact⟨_,_,rfl,(H3.out.below hb).upto hb.size⟩)
 obtain⟨wb,hwn⟩:∃wb,wk3.alloc (.cells #[.slice A1 l1.length c1,.slice A2 l2.length c2,.slice A3 l3.length c3] 33)=wb:=⟨_,rfl⟩
 rw[hwn] at hb hS ⊢
 clear hblk hwn
 have HS:=hide hS
 replace HBc:=hT HBc hb
 refine hK.out _ _ hb ?_
 clear hK K hb hS H1 H2 H3
 try simp only[pU]
 refine zAc 10 rfl (by kernel_rfl) (fun K hK=>?_)
 go_simp
 have hj:=zA9 wb _ 3 3 _ HS.out (by omega) (by have:=HTHS.out;omega)
 rw[HEHS.out] at hj
 refine hj.mono ?_
 rintro e wkr hpost
 obtain⟨vr,rfl,hown,hb⟩:=hpost.out
 have HOr:=hide (zAg hown HBc.out.size)
 replace HBc:=hT HBc hb
 refine hK.out _ _ hb ?_
 clear hK K hb hpost hown hj HS
 try simp only[pU]
 refine zAa 11 (some 3) rfl rfl (by kernel_rfl) rfl (by rfl) (fun W hW=>by go_simp<;>with_reducible rfl) ?_
 try simp only[pU]
 refine zAi (by kernel_rfl) ?_ _
 have kc:=KX.out _ HBc.out 30 _ hx30
 go_wp2
 go_ret
 exact⟨⟨_,rfl,zAg HOr.out HBw.out.size,HBw.out.trans (HBc.out.mono HBw.out.size)⟩⟩
theorem wresult_y (w:World) (cs:List Value) (hn:cs.length=32) (nc:Int) (hx27:cs[27]?=some (.int .i64 nc)) (sm:ByteArray) (hx28:cs[28]?=some (.string sm)) (st:ByteArray) (hx29:cs[29]?=some (.string st)) (A:Option Addr) (na c:Nat) (hna:0<na) (hnm:(na:Int)<=9223372036854775807) (hx30:cs[30]?=some (.slice A na c)) (le:List UInt8) (hle:le.length<=300000000) (l1 l2 l3:List UInt8) (hl:tot [l1,l2,l3]<=300000000)
  (K1:Hid (∀W,Below w.heap.size w W->Calls Tryz.prog 61 #[.int .u8 10,.int .i64 nc] W (WPost l1 W)))
  (K2:Hid (∀W,Below w.heap.size w W->Calls Tryz.prog 101 #[.string sm] W (WPost l2 W)))
  (K3:Hid (∀W,Below w.heap.size w W->Calls Tryz.prog 101 #[.string st] W (WPost l3 W)))
  (KE:Hid (∀W,Below w.heap.size w W->Calls Tryz.prog 145 #[.int .u8 163,.slice A na c,.func (.func 101) #[] #[]] W (WPost le W))):
  Calls Tryz.prog 111 #[.agg cs.toArray] w (WPost (([l1,l2,l3]:List (List UInt8)).flatten++le) w):=by
 have HTHS:=hide hl
 obtain⟨bs,hbs⟩:∃bs,([l1,l2,l3]:List (List UInt8)).flatten=bs:=⟨_,rfl⟩
 obtain⟨ys,hys⟩:∃ys,bs++le=ys:=⟨_,rfl⟩
 rw[hbs,hys]
 have Hbd:Hid (bs.length+le.length<=100000000000):=hide (by have:=hl;unfold tot at this;rw[hbs] at this;omega)
 have Hyl:Hid (bs.length+le.length=ys.length):=hide (by rw[<-hys,List.length_append])
 have Hys:=hide hys
 clear hys hle
 have HEHS:=hide hbs
 clear hbs hl
 have hb1:Below w.heap.size w (w.alloc (.cells cs.toArray 42)):=(Below.refl _ _).alloc (Nat.le_refl _) _
 have hB1:Blk (w.alloc (.cells cs.toArray 42)) w.heap.size cs:=Blk.new w cs 42
 obtain⟨w1,hw1⟩:∃w1,w.alloc (.cells cs.toArray 42)=w1:=⟨_,rfl⟩
 rw[hw1] at hb1 hB1
 obtain⟨p1,hp1⟩:∃p1,w.heap.size=p1:=⟨_,rfl⟩
 rw[hp1] at hB1
 have KX:Hid (∀W,Below w1.heap.size w1 W->∀(i:Nat) (u:Value),cs[i]?=some u->W.cell? ⟨p1,i,none⟩=some u):=hide fun W hW i u hu=>(hB1.fr (Fr.of (X:=fun _=>False) hW) id).cells i u hu
 have HBl:=hide hB1
 have HBw:=hide hb1
 have Hw:=hide hw1
 have Hp:=hide hp1
 have HB0:Hid (Below w1.heap.size w1 w1.drew):=hide (Below.refl _ _).drew
 clear hb1 hB1 hw1 hp1
 go_enter Tryz.func111,Tryz.ntmps111
 go_upto_region 1 with fail
 rw[Hw.out]
 try rw[Hp.out]
 clear Hw
 have H1c:Hid (∀W,Below w1.heap.size w1 W->Calls Tryz.prog 61 #[.int .u8 10,.int .i64 nc] W (WPost l1 W)):=hide fun W hW=>K1.out W (HBw.out.trans (hW.mono HBw.out.size))
 have H2c:Hid (∀W,Below w1.heap.size w1 W->Calls Tryz.prog 101 #[.string sm] W (WPost l2 W)):=hide fun W hW=>K2.out W (HBw.out.trans (hW.mono HBw.out.size))
 have H3c:Hid (∀W,Below w1.heap.size w1 W->Calls Tryz.prog 101 #[.string st] W (WPost l3 W)):=hide fun W hW=>K3.out W (HBw.out.trans (hW.mono HBw.out.size))
 clear K1 K2 K3
 have HEc:Hid (∀W,Below w1.heap.size w1 W->Calls Tryz.prog 145 #[.int .u8 163,.slice A na c,.func (.func 101) #[] #[]] W (WPost le W)):=hide fun W hW=>KE.out W (HBw.out.trans (hW.mono HBw.out.size))
 clear KE
 go_wp2_with fail
 refine zAs (by kernel_rfl) ?_
 generalize w1.drew=wd at *
 have HBc:=HB0
 refine zAa 0 (some 4) rfl rfl (by kernel_rfl) rfl (by rfl) (fun W hW=>by go_simp<;>with_reducible rfl) ?_
 try simp only[pU]
 refine zAa 1 (some 5) (v:=.int .i64 nc) rfl rfl (by kernel_rfl) rfl (by rfl) (fun W hW=>?ya1) ?_
 case ya1=>
  exact zAd _ _ _ rfl p1 27 rfl _ (loadI8 W _ _ (KX.out W (HB0.out.trans (hW.mono HB0.out.size)) 27 _ hx27))
 try simp only[pU]
 refine zAa 3 (some 7) rfl rfl (by kernel_rfl) rfl (by rfl) (fun W hW=>by go_simp<;>with_reducible rfl) ?_
 try simp only[pU]
 refine zAa 4 (some 8) (v:=.string sm) rfl rfl (by kernel_rfl) rfl (by rfl) (fun W hW=>?ya4) ?_
 case ya4=>
  exact zAd _ _ _ rfl p1 28 rfl _ (loadS8 W _ _ (KX.out W (HB0.out.trans (hW.mono HB0.out.size)) 28 _ hx28))
 try simp only[pU]
 refine zAa 6 (some 10) rfl rfl (by kernel_rfl) rfl (by rfl) (fun W hW=>by go_simp<;>with_reducible rfl) ?_
 try simp only[pU]
 refine zAa 7 (some 11) (v:=.string st) rfl rfl (by kernel_rfl) rfl (by rfl) (fun W hW=>?ya7) ?_
 case ya7=>
  exact zAd _ _ _ rfl p1 29 rfl _ (loadS8 W _ _ (KX.out W (HB0.out.trans (hW.mono HB0.out.size)) 29 _ hx29))
 try simp only[pU]
 refine zAc 2 rfl (by kernel_rfl) (fun K hK=>?_)
 go_simp
 refine (H1c.out _ HBc.out).mono ?_
 rintro e wk1 hpost
 obtain⟨v1,rfl,hown,hb⟩:=hpost.out
 obtain⟨A1,c1,rfl,-,hA⟩:=own_form hown
 have H1:=hide hA
 replace HBc:=hT HBc hb
 refine hK.out _ _ hb ?_
 clear hK K hb hpost hown hA
 try simp only[pU]
 refine zAc 5 rfl (by kernel_rfl) (fun K hK=>?_)
 go_simp
 refine (H2c.out _ HBc.out).mono ?_
 rintro e wk2 hpost
 obtain⟨v2,rfl,hown,hb⟩:=hpost.out
 obtain⟨A2,c2,rfl,-,hA⟩:=own_form hown
 replace H1:=hide ((H1.out.below hb).upto hb.size)
 have H2:=hide hA
 replace HBc:=hT HBc hb
 refine hK.out _ _ hb ?_
 clear hK K hb hpost hown hA
 try simp only[pU]
 refine zAc 8 rfl (by kernel_rfl) (fun K hK=>?_)
 go_simp
 refine (H3c.out _ HBc.out).mono ?_
 rintro e wk3 hpost
 obtain⟨v3,rfl,hown,hb⟩:=hpost.out
 obtain⟨A3,c3,rfl,-,hA⟩:=own_form hown
 replace H1:=hide ((H1.out.below hb).upto hb.size)
 replace H2:=hide ((H2.out.below hb).upto hb.size)
 have H3:=hide hA
 replace HBc:=hT HBc hb
 refine hK.out _ _ hb ?_
 clear hK K hb hpost hown hA
 try simp only[pU]
 refine zAc 9 rfl (by kernel_rfl) (fun K hK=>?_)
 go_simp
 have hb:Below wk3.heap.size wk3 (wk3.alloc (.cells #[.slice A1 l1.length c1,.slice A2 l2.length c2,.slice A3 l3.length c3] 33)):=(Below.refl _ _).alloc (Nat.le_refl _) _
 have hblk:=Blk.new wk3 [.slice A1 l1.length c1,.slice A2 l2.length c2,.slice A3 l3.length c3] 33
 have hS:SLs (wk3.alloc (.cells #[.slice A1 l1.length c1,.slice A2 l2.length c2,.slice A3 l3.length c3] 33)) [l1,l2,l3] (some ⟨wk3.heap.size,0,none⟩) 3:=SLs.blk hblk rfl rfl (fun i l hi=>by
  match i,hi with
  | 0,hi=>cases hi;exact⟨_,_,rfl,(H1.out.below hb).upto hb.size⟩
  | 1,hi=>cases hi;exact⟨_,_,rfl,(H2.out.below hb).upto hb.size⟩
  | 2,hi=>cases hi;exact⟨_,_,rfl,(H3.out.below hb).upto hb.size⟩)
 obtain⟨wb,hwn⟩:∃wb,wk3.alloc (.cells #[.slice A1 l1.length c1,.slice A2 l2.length c2,.slice A3 l3.length c3] 33)=wb:=⟨_,rfl⟩
 rw[hwn] at hb hS ⊢
 clear hblk hwn
 have HS:=hide hS
 replace HBc:=hT HBc hb
 refine hK.out _ _ hb ?_
 clear hK K hb hS H1 H2 H3
 try simp only[pU]
 refine zAc 10 rfl (by kernel_rfl) (fun K hK=>?_)
 go_simp
 have hj:=zA9 wb _ 3 3 _ HS.out (by omega) (by have:=HTHS.out;omega)
 rw[HEHS.out] at hj
 refine hj.mono ?_
 rintro e wkr hpost
 obtain⟨vr,rfl,hown,hb⟩:=hpost.out
 have HOr:=hide (zAg hown HBc.out.size)
 replace HBc:=hT HBc hb
 refine hK.out _ _ hb ?_
 clear hK K hb hpost hown hj HS
 try simp only[pU]
 refine zAa 11 (some 3) rfl rfl (by kernel_rfl) rfl (by rfl) (fun W hW=>by go_simp<;>with_reducible rfl) ?_
 try simp only[pU]
 refine zAi (by kernel_rfl) ?_ _
 have kc:=KX.out _ HBc.out 30 _ hx30
 have hna2:(0:Int)<(na:Int):=by omega
 go_wp2_with (go_at_call 145;fail)
 refine (HEc.out _ HBc.out).mono ?_
 rintro e we hpost
 obtain⟨ve,rfl,hown,hb⟩:=hpost.out
 obtain⟨Ae,ce,rfl,-,hx⟩:=own_form hown
 have ho:=zAo HOr.out hb
 replace HBc:=hT HBc hb
 have hbz:=HBc.out.size
 have hbd:=Hbd.out
 clear hpost hown hb HOr kc
 go_wp2_with (at_builtin;go_must (refine app8g _ rfl (.tmp 19) (.tmp 22) rfl w1.heap.size _ _ bs rfl ho _ Ae _ ce le rfl hx ys Hys Hyl (by omega) hbz ?_))
 intro v9 w9 hor hb _
 have HO9:=hide hor
 replace HBc:=hide (HBc.out.trans hb)
 clear ho hx hbz hor hb hbd
 go_wp2
 go_ret
 exact⟨⟨_,rfl,zAg HO9.out HBw.out.size,HBw.out.trans (HBc.out.mono HBw.out.size)⟩⟩
end Go.Proofs.YtcpjmgfloimfhaaGreat
