/- What writes a message's content: the walks. By an AI agent. -/
import Derived.Test.YtcpjmgfloimfhaaGreatMWrF
import Derived.Test.YtcpjmgfloimfhaaGreatM19
set_option linter.unusedSimpArgs false
set_option linter.unusedVariables false
set_option maxRecDepth 100000
set_option maxHeartbeats 32000000
namespace Go.Proofs.YtcpjmgfloimfhaaGreat
open Go.RowKit
theorem wc_bind (w:World) (cs:List Value) (hn:cs.length=32) (hx1:cs[1]?=some (.int .i64 0)) (n4:Int) (hx4:cs[4]?=some (.int .i64 n4)) (sn:ByteArray) (hx2:cs[2]?=some (.string sn)) (sp:ByteArray) (hx3:cs[3]?=some (.string sp)) (l1 l2 l3:List UInt8) (hl:tot [l1,l2,l3]<=300000000)
  (K1:Hid (∀W,Below w.heap.size w W->Calls Tryz.prog 61 #[.int .u8 2,.int .i64 n4] W (WPost l1 W)))
  (K2:Hid (∀W,Below w.heap.size w W->Calls Tryz.prog 101 #[.string sn] W (WPost l2 W)))
  (K3:Hid (∀W,Below w.heap.size w W->Calls Tryz.prog 102 #[.int .u8 128,.string sp] W (WPost l3 W))):
  Calls Tryz.prog 64 #[.agg cs.toArray] w (WPost ([l1,l2,l3]:List (List UInt8)).flatten w):=by
 have HTHS:=hide hl
 obtain⟨bs,hbs⟩:∃bs,([l1,l2,l3]:List (List UInt8)).flatten=bs:=⟨_,rfl⟩
 rw[hbs]
 have HEHS:=hide hbs
 clear hbs hl
 have hb1:Below w.heap.size w (w.alloc (.cells cs.toArray 42)):=(Below.refl _ _).alloc (Nat.le_refl _) _
 have hB1:Blk (w.alloc (.cells cs.toArray 42)) w.heap.size cs:=Blk.new w cs 42
 obtain⟨w1,hw1⟩:∃w1,w.alloc (.cells cs.toArray 42)=w1:=⟨_,rfl⟩
 rw[hw1] at hb1 hB1
 obtain⟨p1,hp1⟩:∃p1,w.heap.size=p1:=⟨_,rfl⟩
 rw[hp1] at hB1
 have k1:=hB1.cells 1 _ hx1
 have KX:Hid (∀W,Below w1.heap.size w1 W->∀(i:Nat) (u:Value),cs[i]?=some u->W.cell? ⟨p1,i,none⟩=some u):=hide fun W hW i u hu=>(hB1.fr (Fr.of (X:=fun _=>False) hW) id).cells i u hu
 have HBl:=hide hB1
 have HBw:=hide hb1
 have Hw:=hide hw1
 have Hp:=hide hp1
 have HB0:Hid (Below w1.heap.size w1 w1.drew):=hide (Below.refl _ _).drew
 clear hb1 hB1 hw1 hp1
 go_enter Tryz.func64,Tryz.ntmps64
 go_upto_region 1 with fail
 rw[Hw.out]
 try rw[Hp.out]
 clear Hw
 have H1c:Hid (∀W,Below w1.heap.size w1 W->Calls Tryz.prog 61 #[.int .u8 2,.int .i64 n4] W (WPost l1 W)):=hide fun W hW=>K1.out W (HBw.out.trans (hW.mono HBw.out.size))
 have H2c:Hid (∀W,Below w1.heap.size w1 W->Calls Tryz.prog 101 #[.string sn] W (WPost l2 W)):=hide fun W hW=>K2.out W (HBw.out.trans (hW.mono HBw.out.size))
 have H3c:Hid (∀W,Below w1.heap.size w1 W->Calls Tryz.prog 102 #[.int .u8 128,.string sp] W (WPost l3 W)):=hide fun W hW=>K3.out W (HBw.out.trans (hW.mono HBw.out.size))
 clear K1 K2 K3
 go_wp2_with fail
 clear k1
 refine zAs (by kernel_rfl) ?_
 generalize w1.drew=wd at *
 have HBc:=HB0
 refine zAa 0 (some 9) rfl rfl (by kernel_rfl) rfl (by rfl) (fun W hW=>by go_simp<;>with_reducible rfl) ?_
 try simp only[pU]
 refine zAa 1 (some 10) (v:=.int .i64 n4) rfl rfl (by kernel_rfl) rfl (by rfl) (fun W hW=>?ya1) ?_
 case ya1=>
  exact zAd _ _ _ rfl p1 4 rfl _ (loadI8 W _ _ (KX.out W (HB0.out.trans (hW.mono HB0.out.size)) 4 _ hx4))
 try simp only[pU]
 refine zAa 3 (some 12) rfl rfl (by kernel_rfl) rfl (by rfl) (fun W hW=>by go_simp<;>with_reducible rfl) ?_
 try simp only[pU]
 refine zAa 4 (some 13) (v:=.string sn) rfl rfl (by kernel_rfl) rfl (by rfl) (fun W hW=>?ya4) ?_
 case ya4=>
  exact zAd _ _ _ rfl p1 2 rfl _ (loadS8 W _ _ (KX.out W (HB0.out.trans (hW.mono HB0.out.size)) 2 _ hx2))
 try simp only[pU]
 refine zAa 6 (some 15) rfl rfl (by kernel_rfl) rfl (by rfl) (fun W hW=>by go_simp<;>with_reducible rfl) ?_
 try simp only[pU]
 refine zAa 7 (some 16) (v:=.string sp) rfl rfl (by kernel_rfl) rfl (by rfl) (fun W hW=>?ya7) ?_
 case ya7=>
  exact zAd _ _ _ rfl p1 3 rfl _ (loadS8 W _ _ (KX.out W (HB0.out.trans (hW.mono HB0.out.size)) 3 _ hx3))
 try simp only[pU]
 refine zAc 2 rfl (by kernel_rfl) (fun K hK=>?_)
 go_simp
 refine (H1c.out _ HBc.out).mono ?_
 rintro e wk1 hpost
 obtain⟨v1,rfl,hown,hb⟩:=hpost.out
 obtain⟨A1,c1,rfl,-,hA⟩:=own_form hown
 have H1:=hide hA
 replace HBc:=hT HBc hb
 refine hK.out _ _ hb ?_
 clear hK K hb hpost hown hA
 try simp only[pU]
 refine zAc 5 rfl (by kernel_rfl) (fun K hK=>?_)
 go_simp
 refine (H2c.out _ HBc.out).mono ?_
 rintro e wk2 hpost
 obtain⟨v2,rfl,hown,hb⟩:=hpost.out
 obtain⟨A2,c2,rfl,-,hA⟩:=own_form hown
 replace H1:=hide ((H1.out.below hb).upto hb.size)
 have H2:=hide hA
 replace HBc:=hT HBc hb
 refine hK.out _ _ hb ?_
 clear hK K hb hpost hown hA
 try simp only[pU]
 refine zAc 8 rfl (by kernel_rfl) (fun K hK=>?_)
 go_simp
 refine (H3c.out _ HBc.out).mono ?_
 rintro e wk3 hpost
 obtain⟨v3,rfl,hown,hb⟩:=hpost.out
 obtain⟨A3,c3,rfl,-,hA⟩:=own_form hown
 replace H1:=hide ((H1.out.below hb).upto hb.size)
 replace H2:=hide ((H2.out.below hb).upto hb.size)
 have H3:=hide hA
 replace HBc:=hT HBc hb
 refine hK.out _ _ hb ?_
 clear hK K hb hpost hown hA
 try simp only[pU]
 refine zAc 9 rfl (by kernel_rfl) (fun K hK=>?_)
 go_simp
 have hb:Below wk3.heap.size wk3 (wk3.alloc (.cells #[.slice A1 l1.length c1,.slice A2 l2.length c2,.slice A3 l3.length c3] 33)):=(Below.refl _ _).alloc (Nat.le_refl _) _
 have hblk:=Blk.new wk3 [.slice A1 l1.length c1,.slice A2 l2.length c2,.slice A3 l3.length c3] 33
 have hS:SLs (wk3.alloc (.cells #[.slice A1 l1.length c1,.slice A2 l2.length c2,.slice A3 l3.length c3] 33)) [l1,l2,l3] (some ⟨wk3.heap.size,0,none⟩) 3:=SLs.blk hblk rfl rfl (fun i l hi=>by
  match i,hi with
  | 0,hi=>cases hi;exact⟨_,_,rfl,(H1.out.below hb).upto hb.size⟩
  | 1,hi=>cases hi;exact⟨_,_,rfl,(H2.out.below hb).upto hb.size⟩
  | 2,hi=>cases hi;exact⟨_,_,rfl,(H3.out.below hb).upto hb.size⟩)
 obtain⟨wb,hwn⟩:∃wb,wk3.alloc (.cells #[.slice A1 l1.length c1,.slice A2 l2.length c2,.slice A3 l3.length c3] 33)=wb:=⟨_,rfl⟩
 rw[hwn] at hb hS ⊢
 clear hblk hwn
 have HS:=hide hS
 replace HBc:=hT HBc hb
 refine hK.out _ _ hb ?_
 clear hK K hb hS H1 H2 H3
 try simp only[pU]
 refine zAc 10 rfl (by kernel_rfl) (fun K hK=>?_)
 go_simp
 have hj:=zA9 wb _ 3 3 _ HS.out (by omega) (by have:=HTHS.out;omega)
 rw[HEHS.out] at hj
 refine hj.mono ?_
 rintro e wkr hpost
 obtain⟨vr,rfl,hown,hb⟩:=hpost.out
 have HOr:=hide (zAg hown HBc.out.size)
 replace HBc:=hT HBc hb
 refine hK.out _ _ hb ?_
 clear hK K hb hpost hown hj HS
 try simp only[pU]
 refine zAa 11 (some 2) rfl rfl (by kernel_rfl) rfl (by rfl) (fun W hW=>by go_simp<;>with_reducible rfl) ?_
 try simp only[pU]
 refine zAi (by kernel_rfl) ?_ _
 go_wp2
 go_ret
 exact⟨⟨_,rfl,zAg HOr.out HBw.out.size,HBw.out.trans (HBc.out.mono HBw.out.size)⟩⟩
theorem wc_modify (w:World) (cs:List Value) (hn:cs.length=32) (hx1:cs[1]?=some (.int .i64 6)) (sn:ByteArray) (hx2:cs[2]?=some (.string sn)) (v19:Value) (hx19:cs[19]?=some (v19)) (l1 l2:List UInt8) (hl:tot [l1,l2]<=300000000)
  (K1:Hid (∀W,Below w.heap.size w W->Calls Tryz.prog 101 #[.string sn] W (WPost l1 W)))
  (K2:Hid (∀W,Below w.heap.size w W->Calls Tryz.prog 104 #[.int .u8 48,v19,.func (.func 105) #[] #[]] W (WPost l2 W))):
  Calls Tryz.prog 64 #[.agg cs.toArray] w (WPost ([l1,l2]:List (List UInt8)).flatten w):=by
 have HTHS:=hide hl
 obtain⟨bs,hbs⟩:∃bs,([l1,l2]:List (List UInt8)).flatten=bs:=⟨_,rfl⟩
 rw[hbs]
 have HEHS:=hide hbs
 clear hbs hl
 have hb1:Below w.heap.size w (w.alloc (.cells cs.toArray 42)):=(Below.refl _ _).alloc (Nat.le_refl _) _
 have hB1:Blk (w.alloc (.cells cs.toArray 42)) w.heap.size cs:=Blk.new w cs 42
 obtain⟨w1,hw1⟩:∃w1,w.alloc (.cells cs.toArray 42)=w1:=⟨_,rfl⟩
 rw[hw1] at hb1 hB1
 obtain⟨p1,hp1⟩:∃p1,w.heap.size=p1:=⟨_,rfl⟩
 rw[hp1] at hB1
 have k1:=hB1.cells 1 _ hx1
 have KX:Hid (∀W,Below w1.heap.size w1 W->∀(i:Nat) (u:Value),cs[i]?=some u->W.cell? ⟨p1,i,none⟩=some u):=hide fun W hW i u hu=>(hB1.fr (Fr.of (X:=fun _=>False) hW) id).cells i u hu
 have HBl:=hide hB1
 have HBw:=hide hb1
 have Hw:=hide hw1
 have Hp:=hide hp1
 have HB0:Hid (Below w1.heap.size w1 w1.drew):=hide (Below.refl _ _).drew
 clear hb1 hB1 hw1 hp1
 go_enter Tryz.func64,Tryz.ntmps64
 go_upto_region 1 with fail
 rw[Hw.out]
 try rw[Hp.out]
 clear Hw
 have H1c:Hid (∀W,Below w1.heap.size w1 W->Calls Tryz.prog 101 #[.string sn] W (WPost l1 W)):=hide fun W hW=>K1.out W (HBw.out.trans (hW.mono HBw.out.size))
 have H2c:Hid (∀W,Below w1.heap.size w1 W->Calls Tryz.prog 104 #[.int .u8 48,v19,.func (.func 105) #[] #[]] W (WPost l2 W)):=hide fun W hW=>K2.out W (HBw.out.trans (hW.mono HBw.out.size))
 clear K1 K2
 go_wp2_with fail
 clear k1
 refine zAs (by kernel_rfl) ?_
 generalize w1.drew=wd at *
 have HBc:=HB0
 refine zAa 0 (some 26) rfl rfl (by kernel_rfl) rfl (by rfl) (fun W hW=>by go_simp<;>with_reducible rfl) ?_
 try simp only[pU]
 refine zAa 1 (some 27) (v:=.string sn) rfl rfl (by kernel_rfl) rfl (by rfl) (fun W hW=>?ya1) ?_
 case ya1=>
  exact zAd _ _ _ rfl p1 2 rfl _ (loadS8 W _ _ (KX.out W (HB0.out.trans (hW.mono HB0.out.size)) 2 _ hx2))
 try simp only[pU]
 refine zAa 3 (some 29) rfl rfl (by kernel_rfl) rfl (by rfl) (fun W hW=>by go_simp<;>with_reducible rfl) ?_
 try simp only[pU]
 refine zAa 4 (some 30) (v:=v19) rfl rfl (by kernel_rfl) rfl (by rfl) (fun W hW=>?ya4) ?_
 case ya4=>
  exact zAd _ _ _ rfl p1 19 rfl _ (loadH W _ _ (KX.out W (HB0.out.trans (hW.mono HB0.out.size)) 19 _ hx19))
 try simp only[pU]
 refine zAc 2 rfl (by kernel_rfl) (fun K hK=>?_)
 go_simp
 refine (H1c.out _ HBc.out).mono ?_
 rintro e wk1 hpost
 obtain⟨v1,rfl,hown,hb⟩:=hpost.out
 obtain⟨A1,c1,rfl,-,hA⟩:=own_form hown
 have H1:=hide hA
 replace HBc:=hT HBc hb
 refine hK.out _ _ hb ?_
 clear hK K hb hpost hown hA
 try simp only[pU]
 refine zAc 5 rfl (by kernel_rfl) (fun K hK=>?_)
 go_simp
 refine (H2c.out _ HBc.out).mono ?_
 rintro e wk2 hpost
 obtain⟨v2,rfl,hown,hb⟩:=hpost.out
 obtain⟨A2,c2,rfl,-,hA⟩:=own_form hown
 replace H1:=hide ((H1.out.below hb).upto hb.size)
 have H2:=hide hA
 replace HBc:=hT HBc hb
 refine hK.out _ _ hb ?_
 clear hK K hb hpost hown hA
 try simp only[pU]
 refine zAc 6 rfl (by kernel_rfl) (fun K hK=>?_)
 go_simp
 have hb:Below wk2.heap.size wk2 (wk2.alloc (.cells #[.slice A1 l1.length c1,.slice A2 l2.length c2] 33)):=(Below.refl _ _).alloc (Nat.le_refl _) _
 have hblk:=Blk.new wk2 [.slice A1 l1.length c1,.slice A2 l2.length c2] 33
 have hS:SLs (wk2.alloc (.cells #[.slice A1 l1.length c1,.slice A2 l2.length c2] 33)) [l1,l2] (some ⟨wk2.heap.size,0,none⟩) 2:=SLs.blk hblk rfl rfl (fun i l hi=>by
  match i,hi with
  | 0,hi=>cases hi;exact⟨_,_,rfl,(H1.out.below hb).upto hb.size⟩
  | 1,hi=>cases hi;exact⟨_,_,rfl,(H2.out.below hb).upto hb.size⟩)
 obtain⟨wb,hwn⟩:∃wb,wk2.alloc (.cells #[.slice A1 l1.length c1,.slice A2 l2.length c2] 33)=wb:=⟨_,rfl⟩
 rw[hwn] at hb hS ⊢
 clear hblk hwn
 have HS:=hide hS
 replace HBc:=hT HBc hb
 refine hK.out _ _ hb ?_
 clear hK K hb hS H1 H2
 try simp only[pU]
 refine zAc 7 rfl (by kernel_rfl) (fun K hK=>?_)
 go_simp
 have hj:=zA9 wb _ 2 2 _ HS.out (by omega) (by have:=HTHS.out;omega)
 rw[HEHS.out] at hj
 refine hj.mono ?_
 rintro e wkr hpost
 obtain⟨vr,rfl,hown,hb⟩:=hpost.out
 have HOr:=hide (zAg hown HBc.out.size)
 replace HBc:=hT HBc hb
 refine hK.out _ _ hb ?_
 clear hK K hb hpost hown hj HS
 try simp only[pU]
 refine zAa 8 (some 2) rfl rfl (by kernel_rfl) rfl (by rfl) (fun W hW=>by go_simp<;>with_reducible rfl) ?_
 try simp only[pU]
 refine zAi (by kernel_rfl) ?_ _
 go_wp2
 go_ret
 exact⟨⟨_,rfl,zAg HOr.out HBw.out.size,HBw.out.trans (HBc.out.mono HBw.out.size)⟩⟩
theorem wc_add (w:World) (cs:List Value) (hn:cs.length=32) (hx1:cs[1]?=some (.int .i64 8)) (sn:ByteArray) (hx2:cs[2]?=some (.string sn)) (v18:Value) (hx18:cs[18]?=some (v18)) (l1 l2:List UInt8) (hl:tot [l1,l2]<=300000000)
  (K1:Hid (∀W,Below w.heap.size w W->Calls Tryz.prog 101 #[.string sn] W (WPost l1 W)))
  (K2:Hid (∀W,Below w.heap.size w W->Calls Tryz.prog 106 #[.int .u8 48,v18,.func (.func 107) #[] #[]] W (WPost l2 W))):
  Calls Tryz.prog 64 #[.agg cs.toArray] w (WPost ([l1,l2]:List (List UInt8)).flatten w):=by
 have HTHS:=hide hl
 obtain⟨bs,hbs⟩:∃bs,([l1,l2]:List (List UInt8)).flatten=bs:=⟨_,rfl⟩
 rw[hbs]
 have HEHS:=hide hbs
 clear hbs hl
 have hb1:Below w.heap.size w (w.alloc (.cells cs.toArray 42)):=(Below.refl _ _).alloc (Nat.le_refl _) _
 have hB1:Blk (w.alloc (.cells cs.toArray 42)) w.heap.size cs:=Blk.new w cs 42
 obtain⟨w1,hw1⟩:∃w1,w.alloc (.cells cs.toArray 42)=w1:=⟨_,rfl⟩
 rw[hw1] at hb1 hB1
 obtain⟨p1,hp1⟩:∃p1,w.heap.size=p1:=⟨_,rfl⟩
 rw[hp1] at hB1
 have k1:=hB1.cells 1 _ hx1
 have KX:Hid (∀W,Below w1.heap.size w1 W->∀(i:Nat) (u:Value),cs[i]?=some u->W.cell? ⟨p1,i,none⟩=some u):=hide fun W hW i u hu=>(hB1.fr (Fr.of (X:=fun _=>False) hW) id).cells i u hu
 have HBl:=hide hB1
 have HBw:=hide hb1
 have Hw:=hide hw1
 have Hp:=hide hp1
 have HB0:Hid (Below w1.heap.size w1 w1.drew):=hide (Below.refl _ _).drew
 clear hb1 hB1 hw1 hp1
 go_enter Tryz.func64,Tryz.ntmps64
 go_upto_region 1 with fail
 rw[Hw.out]
 try rw[Hp.out]
 clear Hw
 have H1c:Hid (∀W,Below w1.heap.size w1 W->Calls Tryz.prog 101 #[.string sn] W (WPost l1 W)):=hide fun W hW=>K1.out W (HBw.out.trans (hW.mono HBw.out.size))
 have H2c:Hid (∀W,Below w1.heap.size w1 W->Calls Tryz.prog 106 #[.int .u8 48,v18,.func (.func 107) #[] #[]] W (WPost l2 W)):=hide fun W hW=>K2.out W (HBw.out.trans (hW.mono HBw.out.size))
 clear K1 K2
 go_wp2_with fail
 clear k1
 refine zAs (by kernel_rfl) ?_
 generalize w1.drew=wd at *
 have HBc:=HB0
 refine zAa 0 (some 37) rfl rfl (by kernel_rfl) rfl (by rfl) (fun W hW=>by go_simp<;>with_reducible rfl) ?_
 try simp only[pU]
 refine zAa 1 (some 38) (v:=.string sn) rfl rfl (by kernel_rfl) rfl (by rfl) (fun W hW=>?ya1) ?_
 case ya1=>
  exact zAd _ _ _ rfl p1 2 rfl _ (loadS8 W _ _ (KX.out W (HB0.out.trans (hW.mono HB0.out.size)) 2 _ hx2))
 try simp only[pU]
 refine zAa 3 (some 40) rfl rfl (by kernel_rfl) rfl (by rfl) (fun W hW=>by go_simp<;>with_reducible rfl) ?_
 try simp only[pU]
 refine zAa 4 (some 41) (v:=v18) rfl rfl (by kernel_rfl) rfl (by rfl) (fun W hW=>?ya4) ?_
 case ya4=>
  exact zAd _ _ _ rfl p1 18 rfl _ (loadA W _ _ (KX.out W (HB0.out.trans (hW.mono HB0.out.size)) 18 _ hx18))
 try simp only[pU]
 refine zAc 2 rfl (by kernel_rfl) (fun K hK=>?_)
 go_simp
 refine (H1c.out _ HBc.out).mono ?_
 rintro e wk1 hpost
 obtain⟨v1,rfl,hown,hb⟩:=hpost.out
 obtain⟨A1,c1,rfl,-,hA⟩:=own_form hown
 have H1:=hide hA
 replace HBc:=hT HBc hb
 refine hK.out _ _ hb ?_
 clear hK K hb hpost hown hA
 try simp only[pU]
 refine zAc 5 rfl (by kernel_rfl) (fun K hK=>?_)
 go_simp
 refine (H2c.out _ HBc.out).mono ?_
 rintro e wk2 hpost
 obtain⟨v2,rfl,hown,hb⟩:=hpost.out
 obtain⟨A2,c2,rfl,-,hA⟩:=own_form hown
 replace H1:=hide ((H1.out.below hb).upto hb.size)
 have H2:=hide hA
 replace HBc:=hT HBc hb
 refine hK.out _ _ hb ?_
 clear hK K hb hpost hown hA
 try simp only[pU]
 refine zAc 6 rfl (by kernel_rfl) (fun K hK=>?_)
 go_simp
 have hb:Below wk2.heap.size wk2 (wk2.alloc (.cells #[.slice A1 l1.length c1,.slice A2 l2.length c2] 33)):=(Below.refl _ _).alloc (Nat.le_refl _) _
 have hblk:=Blk.new wk2 [.slice A1 l1.length c1,.slice A2 l2.length c2] 33
 have hS:SLs (wk2.alloc (.cells #[.slice A1 l1.length c1,.slice A2 l2.length c2] 33)) [l1,l2] (some ⟨wk2.heap.size,0,none⟩) 2:=SLs.blk hblk rfl rfl (fun i l hi=>by
  match i,hi with
  | 0,hi=>cases hi;exact⟨_,_,rfl,(H1.out.below hb).upto hb.size⟩
  | 1,hi=>cases hi;exact⟨_,_,rfl,(H2.out.below hb).upto hb.size⟩)
 obtain⟨wb,hwn⟩:∃wb,wk2.alloc (.cells #[.slice A1 l1.length c1,.slice A2 l2.length c2] 33)=wb:=⟨_,rfl⟩
 rw[hwn] at hb hS ⊢
 clear hblk hwn
 have HS:=hide hS
 replace HBc:=hT HBc hb
 refine hK.out _ _ hb ?_
 clear hK K hb hS H1 H2
 try simp only[pU]
 refine zAc 7 rfl (by kernel_rfl) (fun K hK=>?_)
 go_simp
 have hj:=zA9 wb _ 2 2 _ HS.out (by omega) (by have:=HTHS.out;omega)
 rw[HEHS.out] at hj
 refine hj.mono ?_
 rintro e wkr hpost
 obtain⟨vr,rfl,hown,hb⟩:=hpost.out
 have HOr:=hide (zAg hown HBc.out.size)
 replace HBc:=hT HBc hb
 refine hK.out _ _ hb ?_
 clear hK K hb hpost hown hj HS
 try simp only[pU]
 refine zAa 8 (some 2) rfl rfl (by kernel_rfl) rfl (by rfl) (fun W hW=>by go_simp<;>with_reducible rfl) ?_
 try simp only[pU]
 refine zAi (by kernel_rfl) ?_ _
 go_wp2
 go_ret
 exact⟨⟨_,rfl,zAg HOr.out HBw.out.size,HBw.out.trans (HBc.out.mono HBw.out.size)⟩⟩
theorem wc_entry (w:World) (cs:List Value) (hn:cs.length=32) (hx1:cs[1]?=some (.int .i64 4)) (sn:ByteArray) (hx2:cs[2]?=some (.string sn)) (v18:Value) (hx18:cs[18]?=some (v18)) (l1 l2:List UInt8) (hl:tot [l1,l2]<=300000000)
  (K1:Hid (∀W,Below w.heap.size w W->Calls Tryz.prog 101 #[.string sn] W (WPost l1 W)))
  (K2:Hid (∀W,Below w.heap.size w W->Calls Tryz.prog 106 #[.int .u8 48,v18,.func (.func 107) #[] #[]] W (WPost l2 W))):
  Calls Tryz.prog 64 #[.agg cs.toArray] w (WPost ([l1,l2]:List (List UInt8)).flatten w):=by
 have HTHS:=hide hl
 obtain⟨bs,hbs⟩:∃bs,([l1,l2]:List (List UInt8)).flatten=bs:=⟨_,rfl⟩
 rw[hbs]
 have HEHS:=hide hbs
 clear hbs hl
 have hb1:Below w.heap.size w (w.alloc (.cells cs.toArray 42)):=(Below.refl _ _).alloc (Nat.le_refl _) _
 have hB1:Blk (w.alloc (.cells cs.toArray 42)) w.heap.size cs:=Blk.new w cs 42
 obtain⟨w1,hw1⟩:∃w1,w.alloc (.cells cs.toArray 42)=w1:=⟨_,rfl⟩
 rw[hw1] at hb1 hB1
 obtain⟨p1,hp1⟩:∃p1,w.heap.size=p1:=⟨_,rfl⟩
 rw[hp1] at hB1
 have k1:=hB1.cells 1 _ hx1
 have KX:Hid (∀W,Below w1.heap.size w1 W->∀(i:Nat) (u:Value),cs[i]?=some u->W.cell? ⟨p1,i,none⟩=some u):=hide fun W hW i u hu=>(hB1.fr (Fr.of (X:=fun _=>False) hW) id).cells i u hu
 have HBl:=hide hB1
 have HBw:=hide hb1
 have Hw:=hide hw1
 have Hp:=hide hp1
 have HB0:Hid (Below w1.heap.size w1 w1.drew):=hide (Below.refl _ _).drew
 clear hb1 hB1 hw1 hp1
 go_enter Tryz.func64,Tryz.ntmps64
 go_upto_region 1 with fail
 rw[Hw.out]
 try rw[Hp.out]
 clear Hw
 have H1c:Hid (∀W,Below w1.heap.size w1 W->Calls Tryz.prog 101 #[.string sn] W (WPost l1 W)):=hide fun W hW=>K1.out W (HBw.out.trans (hW.mono HBw.out.size))
 have H2c:Hid (∀W,Below w1.heap.size w1 W->Calls Tryz.prog 106 #[.int .u8 48,v18,.func (.func 107) #[] #[]] W (WPost l2 W)):=hide fun W hW=>K2.out W (HBw.out.trans (hW.mono HBw.out.size))
 clear K1 K2
 go_wp2_with fail
 clear k1
 refine zAs (by kernel_rfl) ?_
 generalize w1.drew=wd at *
 have HBc:=HB0
 refine zAa 0 (some 37) rfl rfl (by kernel_rfl) rfl (by rfl) (fun W hW=>by go_simp<;>with_reducible rfl) ?_
 try simp only[pU]
 refine zAa 1 (some 38) (v:=.string sn) rfl rfl (by kernel_rfl) rfl (by rfl) (fun W hW=>?ya1) ?_
 case ya1=>
  exact zAd _ _ _ rfl p1 2 rfl _ (loadS8 W _ _ (KX.out W (HB0.out.trans (hW.mono HB0.out.size)) 2 _ hx2))
 try simp only[pU]
 refine zAa 3 (some 40) rfl rfl (by kernel_rfl) rfl (by rfl) (fun W hW=>by go_simp<;>with_reducible rfl) ?_
 try simp only[pU]
 refine zAa 4 (some 41) (v:=v18) rfl rfl (by kernel_rfl) rfl (by rfl) (fun W hW=>?ya4) ?_
 case ya4=>
  exact zAd _ _ _ rfl p1 18 rfl _ (loadA W _ _ (KX.out W (HB0.out.trans (hW.mono HB0.out.size)) 18 _ hx18))
 try simp only[pU]
 refine zAc 2 rfl (by kernel_rfl) (fun K hK=>?_)
 go_simp
 refine (H1c.out _ HBc.out).mono ?_
 rintro e wk1 hpost
 obtain⟨v1,rfl,hown,hb⟩:=hpost.out
 obtain⟨A1,c1,rfl,-,hA⟩:=own_form hown
 have H1:=hide hA
 replace HBc:=hT HBc hb
 refine hK.out _ _ hb ?_
 clear hK K hb hpost hown hA
 try simp only[pU]
 refine zAc 5 rfl (by kernel_rfl) (fun K hK=>?_)
 go_simp
 refine (H2c.out _ HBc.out).mono ?_
 rintro e wk2 hpost
 obtain⟨v2,rfl,hown,hb⟩:=hpost.out
 obtain⟨A2,c2,rfl,-,hA⟩:=own_form hown
 replace H1:=hide ((H1.out.below hb).upto hb.size)
 have H2:=hide hA
 replace HBc:=hT HBc hb
 refine hK.out _ _ hb ?_
 clear hK K hb hpost hown hA
 try simp only[pU]
 refine zAc 6 rfl (by kernel_rfl) (fun K hK=>?_)
 go_simp
 have hb:Below wk2.heap.size wk2 (wk2.alloc (.cells #[.slice A1 l1.length c1,.slice A2 l2.length c2] 33)):=(Below.refl _ _).alloc (Nat.le_refl _) _
 have hblk:=Blk.new wk2 [.slice A1 l1.length c1,.slice A2 l2.length c2] 33
 have hS:SLs (wk2.alloc (.cells #[.slice A1 l1.length c1,.slice A2 l2.length c2] 33)) [l1,l2] (some ⟨wk2.heap.size,0,none⟩) 2:=SLs.blk hblk rfl rfl (fun i l hi=>by
  match i,hi with
  | 0,hi=>cases hi;exact⟨_,_,rfl,(H1.out.below hb).upto hb.size⟩
  | 1,hi=>cases hi;exact⟨_,_,rfl,(H2.out.below hb).upto hb.size⟩)
 obtain⟨wb,hwn⟩:∃wb,wk2.alloc (.cells #[.slice A1 l1.length c1,.slice A2 l2.length c2] 33)=wb:=⟨_,rfl⟩
 rw[hwn] at hb hS ⊢
 clear hblk hwn
 have HS:=hide hS
 replace HBc:=hT HBc hb
 refine hK.out _ _ hb ?_
 clear hK K hb hS H1 H2
 try simp only[pU]
 refine zAc 7 rfl (by kernel_rfl) (fun K hK=>?_)
 go_simp
 have hj:=zA9 wb _ 2 2 _ HS.out (by omega) (by have:=HTHS.out;omega)
 rw[HEHS.out] at hj
 refine hj.mono ?_
 rintro e wkr hpost
 obtain⟨vr,rfl,hown,hb⟩:=hpost.out
 have HOr:=hide (zAg hown HBc.out.size)
 replace HBc:=hT HBc hb
 refine hK.out _ _ hb ?_
 clear hK K hb hpost hown hj HS
 try simp only[pU]
 refine zAa 8 (some 2) rfl rfl (by kernel_rfl) rfl (by rfl) (fun W hW=>by go_simp<;>with_reducible rfl) ?_
 try simp only[pU]
 refine zAi (by kernel_rfl) ?_ _
 go_wp2
 go_ret
 exact⟨⟨_,rfl,zAg HOr.out HBw.out.size,HBw.out.trans (HBc.out.mono HBw.out.size)⟩⟩
theorem wc_compare (w:World) (cs:List Value) (hn:cs.length=32) (hx1:cs[1]?=some (.int .i64 14)) (sn:ByteArray) (hx2:cs[2]?=some (.string sn)) (sa:ByteArray) (hx24:cs[24]?=some (.string sa)) (sv:ByteArray) (hx25:cs[25]?=some (.string sv)) (l1 l2 l3:List UInt8) (hl:l1.length<=3000000/\l2.length<=3000000/\l3.length<=3000000)
  (K1:Hid (∀W,Below w.heap.size w W->Calls Tryz.prog 101 #[.string sn] W (WPost l1 W)))
  (K2:Hid (∀W,Below w.heap.size w W->Calls Tryz.prog 101 #[.string sa] W (WPost l2 W)))
  (K3:Hid (∀W,Below w.heap.size w W->Calls Tryz.prog 101 #[.string sv] W (WPost l3 W))):
  Calls Tryz.prog 64 #[.agg cs.toArray] w (WPost (l1++Ber.fieldOf 48 (l2++l3)) w):=by
 have hf:=Wr.field_len 48 (l2++l3)
 rw[List.length_append] at hf
 have HTHS:Hid (tot [l2,l3]<=300000000):=hide (by simp[tot];omega)
 obtain⟨l4,hl4⟩:∃l4,Ber.fieldOf 48 (l2++l3)=l4:=⟨_,rfl⟩
 rw[hl4] at hf ⊢
 have HEHS:Hid (Ber.fieldOf 48 ([l2,l3]:List (List UInt8)).flatten=l4):=hide (by rw[<-hl4];simp)
 have HTHR:Hid (tot [l1,l4]<=300000000):=hide (by simp[tot];omega)
 obtain⟨bs,hbs⟩:∃bs,l1++l4=bs:=⟨_,rfl⟩
 rw[hbs]
 have HEHR:Hid (([l1,l4]:List (List UInt8)).flatten=bs):=hide (by rw[<-hbs];simp)
 clear hbs hl4 hf hl
 have hb1:Below w.heap.size w (w.alloc (.cells cs.toArray 42)):=(Below.refl _ _).alloc (Nat.le_refl _) _
 have hB1:Blk (w.alloc (.cells cs.toArray 42)) w.heap.size cs:=Blk.new w cs 42
 obtain⟨w1,hw1⟩:∃w1,w.alloc (.cells cs.toArray 42)=w1:=⟨_,rfl⟩
 rw[hw1] at hb1 hB1
 obtain⟨p1,hp1⟩:∃p1,w.heap.size=p1:=⟨_,rfl⟩
 rw[hp1] at hB1
 have k1:=hB1.cells 1 _ hx1
 have KX:Hid (∀W,Below w1.heap.size w1 W->∀(i:Nat) (u:Value),cs[i]?=some u->W.cell? ⟨p1,i,none⟩=some u):=hide fun W hW i u hu=>(hB1.fr (Fr.of (X:=fun _=>False) hW) id).cells i u hu
 have HBl:=hide hB1
 have HBw:=hide hb1
 have Hw:=hide hw1
 have Hp:=hide hp1
 have HB0:Hid (Below w1.heap.size w1 w1.drew):=hide (Below.refl _ _).drew
 clear hb1 hB1 hw1 hp1
 go_enter Tryz.func64,Tryz.ntmps64
 go_upto_region 1 with fail
 rw[Hw.out]
 try rw[Hp.out]
 clear Hw
 have H1c:Hid (∀W,Below w1.heap.size w1 W->Calls Tryz.prog 101 #[.string sn] W (WPost l1 W)):=hide fun W hW=>K1.out W (HBw.out.trans (hW.mono HBw.out.size))
 have H2c:Hid (∀W,Below w1.heap.size w1 W->Calls Tryz.prog 101 #[.string sa] W (WPost l2 W)):=hide fun W hW=>K2.out W (HBw.out.trans (hW.mono HBw.out.size))
 have H3c:Hid (∀W,Below w1.heap.size w1 W->Calls Tryz.prog 101 #[.string sv] W (WPost l3 W)):=hide fun W hW=>K3.out W (HBw.out.trans (hW.mono HBw.out.size))
 clear K1 K2 K3
 go_wp2_with fail
 clear k1
 refine zAs (by kernel_rfl) ?_
 generalize w1.drew=wd at *
 have HBc:=HB0
 refine zAa 0 (some 56) rfl rfl (by kernel_rfl) rfl (by rfl) (fun W hW=>by go_simp<;>with_reducible rfl) ?_
 try simp only[pU]
 refine zAa 1 (some 57) (v:=.string sn) rfl rfl (by kernel_rfl) rfl (by rfl) (fun W hW=>?ya1) ?_
 case ya1=>
  exact zAd _ _ _ rfl p1 2 rfl _ (loadS8 W _ _ (KX.out W (HB0.out.trans (hW.mono HB0.out.size)) 2 _ hx2))
 try simp only[pU]
 refine zAa 3 (some 59) rfl rfl (by kernel_rfl) rfl (by rfl) (fun W hW=>by go_simp<;>with_reducible rfl) ?_
 try simp only[pU]
 refine zAa 4 (some 60) (v:=.string sa) rfl rfl (by kernel_rfl) rfl (by rfl) (fun W hW=>?ya4) ?_
 case ya4=>
  exact zAd _ _ _ rfl p1 24 rfl _ (loadS8 W _ _ (KX.out W (HB0.out.trans (hW.mono HB0.out.size)) 24 _ hx24))
 try simp only[pU]
 refine zAa 6 (some 62) rfl rfl (by kernel_rfl) rfl (by rfl) (fun W hW=>by go_simp<;>with_reducible rfl) ?_
 try simp only[pU]
 refine zAa 7 (some 63) (v:=.string sv) rfl rfl (by kernel_rfl) rfl (by rfl) (fun W hW=>?ya7) ?_
 case ya7=>
  exact zAd _ _ _ rfl p1 25 rfl _ (loadS8 W _ _ (KX.out W (HB0.out.trans (hW.mono HB0.out.size)) 25 _ hx25))
 try simp only[pU]
 refine zAc 2 rfl (by kernel_rfl) (fun K hK=>?_)
 go_simp
 refine (H1c.out _ HBc.out).mono ?_
 rintro e wk1 hpost
 obtain⟨v1,rfl,hown,hb⟩:=hpost.out
 obtain⟨A1,c1,rfl,-,hA⟩:=own_form hown
 have H1:=hide hA
 replace HBc:=hT HBc hb
 refine hK.out _ _ hb ?_
 clear hK K hb hpost hown hA
 try simp only[pU]
 refine zAc 5 rfl (by kernel_rfl) (fun K hK=>?_)
 go_simp
 refine (H2c.out _ HBc.out).mono ?_
 rintro e wk2 hpost
 obtain⟨v2,rfl,hown,hb⟩:=hpost.out
 obtain⟨A2,c2,rfl,-,hA⟩:=own_form hown
 replace H1:=hide ((H1.out.below hb).upto hb.size)
 have H2:=hide hA
 replace HBc:=hT HBc hb
 refine hK.out _ _ hb ?_
 clear hK K hb hpost hown hA
 try simp only[pU]
 refine zAc 8 rfl (by kernel_rfl) (fun K hK=>?_)
 go_simp
 refine (H3c.out _ HBc.out).mono ?_
 rintro e wk3 hpost
 obtain⟨v3,rfl,hown,hb⟩:=hpost.out
 obtain⟨A3,c3,rfl,-,hA⟩:=own_form hown
 replace H1:=hide ((H1.out.below hb).upto hb.size)
 replace H2:=hide ((H2.out.below hb).upto hb.size)
 have H3:=hide hA
 replace HBc:=hT HBc hb
 refine hK.out _ _ hb ?_
 clear hK K hb hpost hown hA
 try simp only[pU]
 refine zAc 9 rfl (by kernel_rfl) (fun K hK=>?_)
 go_simp
 have hb:Below wk3.heap.size wk3 (wk3.alloc (.cells #[.slice A2 l2.length c2,.slice A3 l3.length c3] 33)):=(Below.refl _ _).alloc (Nat.le_refl _) _
 have hblk:=Blk.new wk3 [.slice A2 l2.length c2,.slice A3 l3.length c3] 33
 have hS:SLs (wk3.alloc (.cells #[.slice A2 l2.length c2,.slice A3 l3.length c3] 33)) [l2,l3] (some ⟨wk3.heap.size,0,none⟩) 2:=SLs.blk hblk rfl rfl (fun i l hi=>by
  match i,hi with
  | 0,hi=>cases hi;exact⟨_,_,rfl,(H2.out.below hb).upto hb.size⟩
  | 1,hi=>cases hi;exact⟨_,_,rfl,(H3.out.below hb).upto hb.size⟩)
 obtain⟨wb,hwn⟩:∃wb,wk3.alloc (.cells #[.slice A2 l2.length c2,.slice A3 l3.length c3] 33)=wb:=⟨_,rfl⟩
 rw[hwn] at hb hS ⊢
 clear hblk hwn
 replace H1:=hide ((H1.out.below hb).upto hb.size)
 have HS:=hide hS
 replace HBc:=hT HBc hb
 refine hK.out _ _ hb ?_
 clear hK K hb hS H2 H3
 try simp only[pU]
 refine zAc 10 rfl (by kernel_rfl) (fun K hK=>?_)
 go_simp
 have hj:=zBn 48 wb _ 2 2 _ HS.out (by omega) (by have:=HTHS.out;omega)
 rw[HEHS.out] at hj
 refine hj.mono ?_
 rintro e wk4 hpost
 obtain⟨v4,rfl,hown,hb⟩:=hpost.out
 obtain⟨A4,c4,rfl,-,hA⟩:=own_form hown
 replace H1:=hide ((H1.out.below hb).upto hb.size)
 have H4:=hide hA
 replace HBc:=hT HBc hb
 refine hK.out _ _ hb ?_
 clear hK K hb hpost hown hj hA HS
 try simp only[pU]
 refine zAc 11 rfl (by kernel_rfl) (fun K hK=>?_)
 go_simp
 have hb:Below wk4.heap.size wk4 (wk4.alloc (.cells #[.slice A1 l1.length c1,.slice A4 l4.length c4] 33)):=(Below.refl _ _).alloc (Nat.le_refl _) _
 have hblk:=Blk.new wk4 [.slice A1 l1.length c1,.slice A4 l4.length c4] 33
 have hS:SLs (wk4.alloc (.cells #[.slice A1 l1.length c1,.slice A4 l4.length c4] 33)) [l1,l4] (some ⟨wk4.heap.size,0,none⟩) 2:=SLs.blk hblk rfl rfl (fun i l hi=>by
  match i,hi with
  | 0,hi=>cases hi;exact⟨_,_,rfl,(H1.out.below hb).upto hb.size⟩
  | 1,hi=>cases hi;exact⟨_,_,rfl,(H4.out.below hb).upto hb.size⟩)
 obtain⟨wc,hwn⟩:∃wc,wk4.alloc (.cells #[.slice A1 l1.length c1,.slice A4 l4.length c4] 33)=wc:=⟨_,rfl⟩
 rw[hwn] at hb hS ⊢
 clear hblk hwn
 have HR:=hide hS
 replace HBc:=hT HBc hb
 refine hK.out _ _ hb ?_
 clear hK K hb hS H1 H4
 try simp only[pU]
 refine zAc 12 rfl (by kernel_rfl) (fun K hK=>?_)
 go_simp
 have hj:=zA9 wc _ 2 2 _ HR.out (by omega) (by have:=HTHR.out;omega)
 rw[HEHR.out] at hj
 refine hj.mono ?_
 rintro e wkr hpost
 obtain⟨vr,rfl,hown,hb⟩:=hpost.out
 have HOr:=hide (zAg hown HBc.out.size)
 replace HBc:=hT HBc hb
 refine hK.out _ _ hb ?_
 clear hK K hb hpost hown hj HR
 try simp only[pU]
 refine zAa 13 (some 2) rfl rfl (by kernel_rfl) rfl (by rfl) (fun W hW=>by go_simp<;>with_reducible rfl) ?_
 try simp only[pU]
 refine zAi (by kernel_rfl) ?_ _
 go_wp2
 go_ret
 exact⟨⟨_,rfl,zAg HOr.out HBw.out.size,HBw.out.trans (HBc.out.mono HBw.out.size)⟩⟩
end Go.Proofs.YtcpjmgfloimfhaaGreat
