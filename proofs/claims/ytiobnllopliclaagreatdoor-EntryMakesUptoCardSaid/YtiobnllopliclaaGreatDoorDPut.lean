/- The program's draft: a value is put behind those of its type. By an AI agent. -/
import Derived.Test.YtiobnllopliclaaGreatDoorDY
import Derived.Test.YtiobnllopliclaaGreatDoorGrowB
import Derived.Deep.CutRange
import Derived.Deep.CutBlock
set_option maxRecDepth 100000
set_option maxHeartbeats 32000000
namespace Go.Proofs.YtiobnllopliclaaGreatDoor
open Go.RowKit Go.Maps
set_option linter.unusedVariables false
set_option linter.unusedSimpArgs false
structure BoxF (w:World) (q:Nat) (a b:ByteArray):Prop where
 lt:q<w.heap.size
 c0:w.cell? ⟨q,0,none⟩=some (.string a)
 c1:w.cell? ⟨q,1,none⟩=some (.string b)
theorem BoxF.new (w:World) (a b:ByteArray) (t:TypeId):BoxF (w.alloc (.cells #[.string a,.string b] t)) w.heap.size a b:=by
 refine⟨by simp,?_,?_⟩<;>(rw[World.cell?_alloc_at (hn:=by simp)];rfl)
theorem BoxF.grow {w w':World} {q:Nat} {a b:ByteArray} (h:BoxF w q a b) (hb:Below w.heap.size w w'):BoxF w' q a b:=
 ⟨Nat.lt_of_lt_of_le h.lt hb.size,(hb.cell (p:=⟨q,0,none⟩) h.lt).trans h.c0,(hb.cell (p:=⟨q,1,none⟩) h.lt).trans h.c1⟩
theorem DraftM.seen {w W:World} {B d bt nx b:Nat} {T:List Ty} (h:DraftM w B d bt nx T) (hW:upBut (some b) w W) (hbt:b≠bt) (hbd:b≠d) {u:List UInt8} (hu:u.length≤1000000):
  W.cell? ⟨d,0,none⟩=some (.map (some bt))∧W.cell? ⟨d,1,none⟩=some (.int .i64 (nx:Int))∧(Instr.lookup 85 (.map (some bt)) (.string (txt u)) false).run Tryz.prog W=.ok (mapAt T u) W:=by
 refine⟨(hW.cell (p:=⟨d,0,none⟩) h.ltd (fun e=>hbd (by injection e with e;exact e.symm))).trans h.d0,(hW.cell (p:=⟨d,1,none⟩) h.ltd (fun e=>hbd (by injection e with e;exact e.symm))).trans h.d1,?_⟩
 have:=(h.types.kept hW (fun e=>hbt (by injection e with e;exact e.symm))).look Tryz.underlying9 Tryz.underlying85 (zeroIn W) (long_max hu)
 rw[this,look_tys]
 unfold mapAt
 cases findT T u<;>rfl
theorem eqlMap (b:Nat) (w:World):(binOp .eql 95 (.map (some b)) (.map none)).run Tryz.prog w=.ok (.bool false) w:=by kernel_rfl
theorem eqlNone (w:World):(binOp .eql 95 (.map none) (.map none)).run Tryz.prog w=.ok (.bool true) w:=by kernel_rfl
structure PutOk (w:World) (B d bt nx:Nat) (T:List Ty) (u n v:List UInt8) (w':World):Prop where
 out:∃nb,DraftM w' B d bt (nx+1) (putT T u nb (n,v,nx))∧Below B w w'
structure PutEnd (wd w3:World) (B d bt nx b:Nat) (T:List Ty) (u n v:List UInt8) (Z:World→Prop):Prop where
 run:(Instr.mapUpdate 95 (.map (some b)) (.string (txt n)) (.agg #[.string (txt v),.int .i64 (nx:Int)])).run Tryz.prog wd=.ok () w3
 but:upBut (some b) wd w3
 mem:DraftM w3 B d bt nx (turnT T u fun l=>l++[(n,v,nx)])
 fin:Z (w3.setCell ⟨d,1,none⟩ (.int .i64 ((nx:Int)+1)))
theorem put_end {w wd:World} {B d bt nx:Nat} {T:List Ty} {y:Ty} {u n v:List UInt8} (h:DraftM wd B d bt nx T) (hy:findT T u=some y) (hn:findH y.2.2 n=none) (hl:n.length≤1000000) (hc:y.2.2.length≤1000000000) (hb:Below B w wd) (Z:World→Prop)
  (hZ:∀w',DraftM w' B d bt (nx+1) (turnT T u fun l=>l++[(n,v,nx)])→Below B w w'→Z w'):∃w3,PutEnd wd w3 B d bt nx y.2.1 T u n v Z:=by
 obtain⟨hm,hu⟩:=findT_some hy
 obtain⟨w3,hrun,hL,hturn⟩:=(h.each y hm).store_new Tryz.underlying9 Tryz.underlying95 (long_max hl) (by rw[List.length_map];unfold maxLen;omega) (by rw[look_held,hn];rfl) (.agg #[.string (txt v),.int .i64 (nx:Int)])
 have hmem:DraftM w3 B d bt nx (turnT T u fun l=>l++[(n,v,nx)]):=h.turn hy (by rw[List.map_append];exact hL) hturn
 have hbump:=hmem.bump
 have hcast:((nx+1:Nat):Int)=(nx:Int)+1:=by omega
 rw[hcast] at hbump
 have hb3:=hb.trans (below_turned hturn (h.newe y hm) (h.each y hm).lt)
 exact⟨w3,hrun,hturn.grown,hmem,hZ _ hbump (hb3.setCell (p:=⟨d,1,none⟩) h.newd _)⟩
theorem dput_no {B d bt nx:Nat} {T:List Ty} (w:World) (h:DraftM w B d bt nx T) (u n v:List UInt8) (hu:u.length≤1000000) (hn:n.length≤1000000) (hin:(findH (heldT T u) n).isSome=true):
  Calls Tryz.prog 65 #[.pointer (some ⟨d,0,none⟩),.string (txt u),.agg #[.string (txt v),.string (txt n)]] w fun e w'=>e=.returned (.bool false)∧Below w.heap.size w w':=by
 have hb1:=below1 w (.cells #[.string (txt v),.string (txt n)] 94)
 have hX:=BoxF.new w (txt v) (txt n) 94
 have hH:=fun w h=>dhas_any (B:=B) (d:=d) (bt:=bt) (nx:=nx) (T:=T) w h u n hu hn
 rw[hin] at hH
 have hc:=hH _ (h.grow hb1)
 have x1:=hX.c1
 have HC:=hide hc
 have HB:=hide hb1
 clear hH hc hb1 hX h hin hu hn
 generalize txt u=U at *
 generalize txt n=NN at *
 generalize txt v=V at *
 go_enter Tryz.func65,Tryz.ntmps65
 go_wp2_with (go_at_call 68;fail)
 refine HC.out.mono ?_
 rintro e w2 ⟨rfl,hb2⟩
 have HB2:=hide (HB.out.trans (hb2.mono HB.out.size))
 clear hb2 HB HC x1
 go_wp2
 go_ret
 exact⟨rfl,HB2.out⟩
theorem dput_at {B d bt nx:Nat} {T:List Ty} (w:World) (h:DraftM w B d bt nx T) (u n v:List UInt8) (hu:u.length≤1000000) (hn:n.length≤1000000) (hnx:nx≤1000000000) {y:Ty} (hy:findT T u=some y) (hnn:findH y.2.2 n=none) (hlen:y.2.2.length≤1000000000):
  Calls Tryz.prog 65 #[.pointer (some ⟨d,0,none⟩),.string (txt u),.agg #[.string (txt v),.string (txt n)]] w fun e w'=>e=.returned (.bool true)∧PutOk w B d bt nx T u n v w':=by
 have hBw:B≤w.heap.size:=Nat.le_trans h.newd (Nat.le_of_lt h.ltd)
 have hb1:=below1 w (.cells #[.string (txt v),.string (txt n)] 94)
 have hX:=BoxF.new w (txt v) (txt n) 94
 have hin:(findH (heldT T u) n).isSome=false:=by
  unfold heldT
  rw[hy]
  first | rfl | (simp only;rw[hnn];rfl)
 have hH:=fun w h=>dhas_any (B:=B) (d:=d) (bt:=bt) (nx:=nx) (T:=T) w h u n hu hn
 rw[hin] at hH
 have hc:=hH _ (h.grow hb1)
 have x1:=hX.c1
 have HC:=hide hc
 have HB:=hide hb1
 have HX:=hide hX
 have HM:=hide (h.grow hb1)
 have Hy:=hide hy
 have HBw:=hide hBw
 have Hu:=hide hu
 have Hn:=hide hn
 have hU:Hid (∃U,txt u=U):=hide ⟨_,rfl⟩
 clear hH hc hb1 hX h hin hu hn hy hBw
 have Hnn:=hide hnn
 have Hlen:=hide hlen
 clear hnn hlen
 obtain⟨U,hU⟩:∃U,txt u=U:=⟨_,rfl⟩
 obtain⟨NN,hN⟩:∃NN,txt n=NN:=⟨_,rfl⟩
 obtain⟨V,hV⟩:∃V,txt v=V:=⟨_,rfl⟩
 have HUe:=hide hU
 have HNe:=hide hN
 have HVe:=hide hV
 rw[hN,hV] at x1 HB HX HM
 rw[hU,hN,hV] at HC
 rw[hU,hN,hV]
 clear hU hN hV
 go_enter Tryz.func65,Tryz.ntmps65
 go_wp2_with (go_at_call 68;fail)
 refine HC.out.mono ?_
 rintro e w2 ⟨rfl,hb2⟩
 have HM2:=hide (HM.out.grow hb2)
 have HX2:=hide (HX.out.grow hb2)
 have HB2:=hide (HB.out.trans (hb2.mono HB.out.size))
 clear hb2 HB HC HX HM x1
 have p0:=HM2.out.d0
 have p2:(Instr.lookup 85 (.map (some bt)) (.string U) false).run Tryz.prog w2=.ok (.map (some y.2.1)) w2:=by
  have:=HM2.out.at Hu.out
  rw[HUe.out] at this
  rw[this]
  unfold mapAt
  rw[Hy.out]
  rfl
 obtain⟨b,hb⟩:∃b,y.2.1=b:=⟨_,rfl⟩
 rw[hb] at p2
 have Hb:=hide hb
 clear hb
 have p3:=eqlMap b
 go_upto_region 5 with fail
 clear p0 p2 p3
 refine grow_begin_but (some b) (by kernel_rfl) ?_
 have hdr:Below w2.heap.size w2 w2.drew:=(Below.refl _ _).drew
 have HT:Hid (turnT T u (fun l=>l++[(n,v,nx)])=putT T u 0 (n,v,nx)):=hide (by unfold putT withT;rw[Hy.out])
 have HMd:=hide (HM2.out.grow hdr)
 have HXd:=hide (HX2.out.grow hdr)
 have HBd:=hide ((HB2.out.trans (hdr.mono HB2.out.size)).mono HBw.out)
 have Hyd:=hide Hy.out
 have Hbx:Hid (b≠w.heap.size):=hide fun q=>by
  obtain⟨hm,_⟩:=findT_some Hy.out
  exact map_ne_cell (HM2.out.each y hm) HX2.out.c0 (q.symm.trans Hb.out.symm)
 clear hdr HM2 HX2 HB2 Hy
 generalize w2.drew=wd at *
 obtain⟨w3,HP⟩:∃w3,Hid (PutEnd wd w3 B d bt nx b T u n v fun w'=>PutOk w B d bt nx T u n v w'):=by
  obtain⟨w3,h3⟩:=put_end (v:=v) HMd.out Hyd.out Hnn.out Hn.out Hlen.out HBd.out (fun w'=>PutOk w B d bt nx T u n v w') fun w' h1 h2=>⟨⟨_,by rw[←HT.out];exact h1,h2⟩⟩
  rw[Hb.out] at h3
  exact⟨w3,hide h3⟩
 have X0:Hid (∀W,upBut (some b) wd W→W.cell? ⟨d,0,none⟩=some (.map (some bt))∧W.cell? ⟨d,1,none⟩=some (.int .i64 (nx:Int))∧(Instr.lookup 85 (.map (some bt)) (.string U) false).run Tryz.prog W=.ok (.map (some b)) W∧W.cell? ⟨w.heap.size,0,none⟩=some (.string V)∧W.cell? ⟨w.heap.size,1,none⟩=some (.string NN)):=hide fun W hW=>by
  obtain⟨hm,_⟩:=findT_some Hyd.out
  obtain⟨a1,a2⟩:=List.nodup_cons.1 HMd.out.apart
  have hbt:b≠bt:=fun q=>a1 (by rw[←q,←Hb.out];exact List.mem_map_of_mem (f:=fun t:Ty=>t.2.1) hm)
  have hbd:b≠d:=fun q=>map_ne_cell (HMd.out.each _ hm) HMd.out.d0 (q.symm.trans Hb.out.symm)
  obtain⟨s1,s2,s3⟩:=HMd.out.seen hW hbt hbd Hu.out
  have hma:mapAt T u=.map (some b):=by unfold mapAt;rw[Hyd.out,←Hb.out];rfl
  rw[hma,HUe.out] at s3
  exact⟨s1,s2,s3,(hW.cell (p:=⟨w.heap.size,0,none⟩) HXd.out.lt (fun e=>Hbx.out (by injection e with e;exact e.symm))).trans HXd.out.c0,(hW.cell (p:=⟨w.heap.size,1,none⟩) HXd.out.lt (fun e=>Hbx.out (by injection e with e;exact e.symm))).trans HXd.out.c1⟩
 have Hrun:=HP.out.run
 rw[HNe.out,HVe.out] at Hrun
 have HR:=hide Hrun
 clear Hrun
 refine grow_take 0 (some 25) (v:=?va0) rfl rfl (by kernel_rfl) (by kernel_rfl) (by kernel_rfl) (fun _ _ _ h=>h) (by rfl) (fun W hW=>?ya0) ?_
 case ya0=>
  go_simp<;>with_reducible rfl
 try simp only[Act.put,List.setIfInBounds_toArray,List.set_cons_zero,List.set_cons_succ]
 refine grow_take 1 (some 26) (v:=?va1) rfl rfl (by kernel_rfl) (by kernel_rfl) (by kernel_rfl) (fun _ _ _ h=>h) (by rfl) (fun W hW=>?ya1) ?_
 case ya1=>
  go_simp<;>with_reducible rfl
 try simp only[Act.put,List.setIfInBounds_toArray,List.set_cons_zero,List.set_cons_succ]
 refine grow_take 2 (some 27) (v:=?va2) rfl rfl (by kernel_rfl) (by kernel_rfl) (by kernel_rfl) (fun _ _ _ h=>h) (by rfl) (fun W hW=>?ya2) ?_
 case ya2=>
  go_simp<;>with_reducible rfl
 try simp only[Act.put,List.setIfInBounds_toArray,List.set_cons_zero,List.set_cons_succ]
 refine grow_take 3 (some 28) (v:=?va3) rfl rfl (by kernel_rfl) (by kernel_rfl) (by kernel_rfl) (fun _ _ _ h=>h) (by rfl) (fun W hW=>?ya3) ?_
 case ya3=>
  obtain⟨k0,k1,k2,k3,k4⟩:=X0.out W hW
  go_simp<;>with_reducible rfl
 try simp only[Act.put,List.setIfInBounds_toArray,List.set_cons_zero,List.set_cons_succ]
 refine grow_take 4 (some 29) (v:=?va4) rfl rfl (by kernel_rfl) (by kernel_rfl) (by kernel_rfl) (fun _ _ _ h=>h) (by rfl) (fun W hW=>?ya4) ?_
 case ya4=>
  go_simp<;>with_reducible rfl
 try simp only[Act.put,List.setIfInBounds_toArray,List.set_cons_zero,List.set_cons_succ]
 refine grow_take 5 (some 30) (v:=?va5) rfl rfl (by kernel_rfl) (by kernel_rfl) (by kernel_rfl) (fun _ _ _ h=>h) (by rfl) (fun W hW=>?ya5) ?_
 case ya5=>
  obtain⟨k0,k1,k2,k3,k4⟩:=X0.out W hW
  go_simp<;>with_reducible rfl
 try simp only[Act.put,List.setIfInBounds_toArray,List.set_cons_zero,List.set_cons_succ]
 refine grow_take 6 (some 31) (v:=?va6) rfl rfl (by kernel_rfl) (by kernel_rfl) (by kernel_rfl) (fun _ _ _ h=>h) (by rfl) (fun W hW=>?ya6) ?_
 case ya6=>
  go_simp<;>with_reducible rfl
 try simp only[Act.put,List.setIfInBounds_toArray,List.set_cons_zero,List.set_cons_succ]
 refine grow_take 7 (some 32) (v:=?va7) rfl rfl (by kernel_rfl) (by kernel_rfl) (by kernel_rfl) (fun _ _ _ h=>h) (by rfl) (fun W hW=>?ya7) ?_
 case ya7=>
  obtain⟨k0,k1,k2,k3,k4⟩:=X0.out W hW
  go_simp<;>with_reducible rfl
 try simp only[Act.put,List.setIfInBounds_toArray,List.set_cons_zero,List.set_cons_succ]
 refine grow_take 8 (some 33) (v:=?va8) rfl rfl (by kernel_rfl) (by kernel_rfl) (by kernel_rfl) (fun _ _ _ h=>h) (by rfl) (fun W hW=>?ya8) ?_
 case ya8=>
  go_simp<;>with_reducible rfl
 try simp only[Act.put,List.setIfInBounds_toArray,List.set_cons_zero,List.set_cons_succ]
 refine grow_take 9 (some 34) (v:=?va9) rfl rfl (by kernel_rfl) (by kernel_rfl) (by kernel_rfl) (fun _ _ _ h=>h) (by rfl) (fun W hW=>?ya9) ?_
 case ya9=>
  obtain⟨k0,k1,k2,k3,k4⟩:=X0.out W hW
  go_simp<;>with_reducible rfl
 try simp only[Act.put,List.setIfInBounds_toArray,List.set_cons_zero,List.set_cons_succ]
 refine grow_take 10 (some 35) (v:=?va10) rfl rfl (by kernel_rfl) (by kernel_rfl) (by kernel_rfl) (fun _ _ _ h=>h) (by rfl) (fun W hW=>?ya10) ?_
 case ya10=>
  go_simp<;>with_reducible rfl
 try simp only[Act.put,List.setIfInBounds_toArray,List.set_cons_zero,List.set_cons_succ]
 refine grow_take 11 (some 36) (v:=?va11) rfl rfl (by kernel_rfl) (by kernel_rfl) (by kernel_rfl) (fun _ _ _ h=>h) (by rfl) (fun W hW=>?ya11) ?_
 case ya11=>
  go_simp<;>with_reducible rfl
 try simp only[Act.put,List.setIfInBounds_toArray,List.set_cons_zero,List.set_cons_succ]
 refine grow_take 12 (some 37) (v:=?va12) rfl rfl (by kernel_rfl) (by kernel_rfl) (by kernel_rfl) (fun _ _ _ h=>h) (by rfl) (fun W hW=>?ya12) ?_
 case ya12=>
  go_simp<;>with_reducible rfl
 try simp only[Act.put,List.setIfInBounds_toArray,List.set_cons_zero,List.set_cons_succ]
 refine grow_take 13 (some 38) (v:=?va13) rfl rfl (by kernel_rfl) (by kernel_rfl) (by kernel_rfl) (fun _ _ _ h=>h) (by rfl) (fun W hW=>?ya13) ?_
 case ya13=>
  obtain⟨k0,k1,k2,k3,k4⟩:=X0.out W hW
  go_simp<;>with_reducible rfl
 try simp only[Act.put,List.setIfInBounds_toArray,List.set_cons_zero,List.set_cons_succ]
 refine grow_take 14 (some 39) (v:=?va14) rfl rfl (by kernel_rfl) (by kernel_rfl) (by kernel_rfl) (fun _ _ _ h=>h) (by rfl) (fun W hW=>?ya14) ?_
 case ya14=>
  go_simp<;>with_reducible rfl
 try simp only[Act.put,List.setIfInBounds_toArray,List.set_cons_zero,List.set_cons_succ]
 refine grow_only 15 rfl (by kernel_rfl) (fun K hK=>?_)
 have hrun:=HR.out
 go_simp
 refine hK.out _ _ HP.out.but ?_
 clear hK K hrun X0
 refine grow_done (by kernel_rfl) ?_ _
 have p1:=HP.out.mem.d1
 have pf:=HP.out.mem.frz 1
 go_wp2
 go_ret
 exact⟨rfl,HP.out.fin⟩
theorem dput_new {B d bt nx:Nat} {T:List Ty} (w:World) (h:DraftM w B d bt nx T) (u n v:List UInt8) (hu:u.length≤1000000) (hn:n.length≤1000000) (hnx:nx≤1000000000) (hy:findT T u=none) (hlen:T.length≤1000000000):
  Calls Tryz.prog 65 #[.pointer (some ⟨d,0,none⟩),.string (txt u),.agg #[.string (txt v),.string (txt n)]] w fun e w'=>e=.returned (.bool true)∧PutOk w B d bt nx T u n v w':=by
 have hBw:B≤w.heap.size:=Nat.le_trans h.newd (Nat.le_of_lt h.ltd)
 have hb1:=below1 w (.cells #[.string (txt v),.string (txt n)] 94)
 have hX:=BoxF.new w (txt v) (txt n) 94
 have hin:(findH (heldT T u) n).isSome=false:=by
  unfold heldT
  rw[hy]
  rfl
 have hH:=fun w h=>dhas_any (B:=B) (d:=d) (bt:=bt) (nx:=nx) (T:=T) w h u n hu hn
 rw[hin] at hH
 have hc:=hH _ (h.grow hb1)
 have x1:=hX.c1
 have HC:=hide hc
 have HB:=hide hb1
 have HX:=hide hX
 have HM:=hide (h.grow hb1)
 have Hy:=hide hy
 have HBw:=hide hBw
 have Hu:=hide hu
 have Hn:=hide hn
 have hU:Hid (∃U,txt u=U):=hide ⟨_,rfl⟩
 clear hH hc hb1 hX h hin hu hn hy hBw
 have Hlen:=hide hlen
 clear hlen
 obtain⟨U,hU⟩:∃U,txt u=U:=⟨_,rfl⟩
 obtain⟨NN,hN⟩:∃NN,txt n=NN:=⟨_,rfl⟩
 obtain⟨V,hV⟩:∃V,txt v=V:=⟨_,rfl⟩
 have HUe:=hide hU
 have HNe:=hide hN
 have HVe:=hide hV
 rw[hN,hV] at x1 HB HX HM
 rw[hU,hN,hV] at HC
 rw[hU,hN,hV]
 clear hU hN hV
 go_enter Tryz.func65,Tryz.ntmps65
 go_wp2_with (go_at_call 68;fail)
 refine HC.out.mono ?_
 rintro e w2 ⟨rfl,hb2⟩
 have HM2:=hide (HM.out.grow hb2)
 have HX2:=hide (HX.out.grow hb2)
 have HB2:=hide (HB.out.trans (hb2.mono HB.out.size))
 clear hb2 HB HC HX HM x1
 have p0:=HM2.out.d0
 have p2:(Instr.lookup 85 (.map (some bt)) (.string U) false).run Tryz.prog w2=.ok (.map none) w2:=by
  have:=HM2.out.at Hu.out
  rw[HUe.out] at this
  rw[this]
  unfold mapAt
  rw[Hy.out]
  rfl
 have p3:=eqlNone
 have hmm:=@run_makeMap Tryz.prog
 obtain⟨w4,hrun,hM4,hB4,hG4⟩:=HM2.out.come Tryz.underlying9 Tryz.underlying85 Hy.out (long_max Hu.out) (by have:=Hlen.out;unfold maxLen;omega) (Nat.le_trans HBw.out HB2.out.size)
 rw[HUe.out] at hrun
 have hbt:w.heap.size≠bt:=map_ne_cell HM2.out.types HX2.out.c0
 have HX4:Hid (BoxF w4 w.heap.size V NN):=hide (by
  have hk:=hG4.block w.heap.size HX2.out.lt (fun e=>hbt (by injection e))
  exact⟨Nat.lt_of_lt_of_le HX2.out.lt hG4.size,(World.cell?_of_block (a:=⟨w.heap.size,0,none⟩) hk).trans HX2.out.c0,(World.cell?_of_block (a:=⟨w.heap.size,1,none⟩) hk).trans HX2.out.c1⟩)
 clear hbt hG4
 have HM4:=hide hM4
 have HB4:=hide ((HB2.out.mono HBw.out).trans hB4)
 clear hM4 hB4
 obtain⟨b,hb⟩:∃b,w2.heap.size=b:=⟨_,rfl⟩
 have Hbw:=hide hb
 rw[hb] at HM4
 clear hb
 go_upto_region 5 with fail
 clear p0 p2 p3 hmm hrun HM2 HX2 HB2
 refine grow_begin_but (some b) (by kernel_rfl) ?_
 have hdr:Below w4.heap.size w4 w4.drew:=(Below.refl _ _).drew
 obtain⟨T1,hT1⟩:∃T1,T++[(u,b,[])]=T1:=⟨_,rfl⟩
 have hwT:withT T u b=T1:=by unfold withT;rw[Hy.out];exact hT1
 rw[hT1] at HM4
 have HT:Hid (turnT T1 u (fun l=>l++[(n,v,nx)])=putT T u b (n,v,nx)):=hide (by unfold putT;rw[hwT])
 have Hyd:Hid (findT T1 u=some (u,b,[])):=hide (by rw[←hwT,find_with];exact if_pos ⟨rfl,Hy.out⟩)
 have Hb:Hid (((u,b,[]):Ty).2.1=b):=hide rfl
 have Hnn:Hid (findH ((u,b,[]):Ty).2.2 n=none):=hide rfl
 have Hlen:Hid (((u,b,[]):Ty).2.2.length≤1000000000):=hide (by simp)
 have HMd:=hide (HM4.out.grow hdr)
 have HXd:=hide (HX4.out.grow hdr)
 have HBd:=hide (HB4.out.trans (hdr.mono (Nat.le_trans HBw.out HB4.out.size)))
 have Hbx:Hid (b≠w.heap.size):=hide fun q=>by
  obtain⟨hm,_⟩:=findT_some Hyd.out
  exact map_ne_cell (HM4.out.each _ hm) HX4.out.c0 q.symm
 clear hdr HM4 HX4 HB4 Hy hT1 hwT Hbw
 generalize w4.drew=wd at *
 obtain⟨w3,HP⟩:∃w3,Hid (PutEnd wd w3 B d bt nx b T1 u n v fun w'=>PutOk w B d bt nx T u n v w'):=by
  obtain⟨w3,h3⟩:=put_end (v:=v) HMd.out Hyd.out Hnn.out Hn.out Hlen.out HBd.out (fun w'=>PutOk w B d bt nx T u n v w') fun w' h1 h2=>⟨⟨_,by rw[←HT.out];exact h1,h2⟩⟩
  rw[Hb.out] at h3
  exact⟨w3,hide h3⟩
 have X0:Hid (∀W,upBut (some b) wd W→W.cell? ⟨d,0,none⟩=some (.map (some bt))∧W.cell? ⟨d,1,none⟩=some (.int .i64 (nx:Int))∧(Instr.lookup 85 (.map (some bt)) (.string U) false).run Tryz.prog W=.ok (.map (some b)) W∧W.cell? ⟨w.heap.size,0,none⟩=some (.string V)∧W.cell? ⟨w.heap.size,1,none⟩=some (.string NN)):=hide fun W hW=>by
  obtain⟨hm,_⟩:=findT_some Hyd.out
  obtain⟨a1,a2⟩:=List.nodup_cons.1 HMd.out.apart
  have hbt:b≠bt:=fun q=>a1 (by rw[←q,←Hb.out];exact List.mem_map_of_mem (f:=fun t:Ty=>t.2.1) hm)
  have hbd:b≠d:=fun q=>map_ne_cell (HMd.out.each _ hm) HMd.out.d0 (q.symm.trans Hb.out.symm)
  obtain⟨s1,s2,s3⟩:=HMd.out.seen hW hbt hbd Hu.out
  have hma:mapAt T1 u=.map (some b):=by unfold mapAt;rw[Hyd.out,←Hb.out];rfl
  rw[hma,HUe.out] at s3
  exact⟨s1,s2,s3,(hW.cell (p:=⟨w.heap.size,0,none⟩) HXd.out.lt (fun e=>Hbx.out (by injection e with e;exact e.symm))).trans HXd.out.c0,(hW.cell (p:=⟨w.heap.size,1,none⟩) HXd.out.lt (fun e=>Hbx.out (by injection e with e;exact e.symm))).trans HXd.out.c1⟩
 have Hrun:=HP.out.run
 rw[HNe.out,HVe.out] at Hrun
 have HR:=hide Hrun
 clear Hrun
 refine grow_take 0 (some 25) (v:=?va0) rfl rfl (by kernel_rfl) (by kernel_rfl) (by kernel_rfl) (fun _ _ _ h=>h) (by rfl) (fun W hW=>?ya0) ?_
 case ya0=>
  go_simp<;>with_reducible rfl
 try simp only[Act.put,List.setIfInBounds_toArray,List.set_cons_zero,List.set_cons_succ]
 refine grow_take 1 (some 26) (v:=?va1) rfl rfl (by kernel_rfl) (by kernel_rfl) (by kernel_rfl) (fun _ _ _ h=>h) (by rfl) (fun W hW=>?ya1) ?_
 case ya1=>
  go_simp<;>with_reducible rfl
 try simp only[Act.put,List.setIfInBounds_toArray,List.set_cons_zero,List.set_cons_succ]
 refine grow_take 2 (some 27) (v:=?va2) rfl rfl (by kernel_rfl) (by kernel_rfl) (by kernel_rfl) (fun _ _ _ h=>h) (by rfl) (fun W hW=>?ya2) ?_
 case ya2=>
  go_simp<;>with_reducible rfl
 try simp only[Act.put,List.setIfInBounds_toArray,List.set_cons_zero,List.set_cons_succ]
 refine grow_take 3 (some 28) (v:=?va3) rfl rfl (by kernel_rfl) (by kernel_rfl) (by kernel_rfl) (fun _ _ _ h=>h) (by rfl) (fun W hW=>?ya3) ?_
 case ya3=>
  obtain⟨k0,k1,k2,k3,k4⟩:=X0.out W hW
  go_simp<;>with_reducible rfl
 try simp only[Act.put,List.setIfInBounds_toArray,List.set_cons_zero,List.set_cons_succ]
 refine grow_take 4 (some 29) (v:=?va4) rfl rfl (by kernel_rfl) (by kernel_rfl) (by kernel_rfl) (fun _ _ _ h=>h) (by rfl) (fun W hW=>?ya4) ?_
 case ya4=>
  go_simp<;>with_reducible rfl
 try simp only[Act.put,List.setIfInBounds_toArray,List.set_cons_zero,List.set_cons_succ]
 refine grow_take 5 (some 30) (v:=?va5) rfl rfl (by kernel_rfl) (by kernel_rfl) (by kernel_rfl) (fun _ _ _ h=>h) (by rfl) (fun W hW=>?ya5) ?_
 case ya5=>
  obtain⟨k0,k1,k2,k3,k4⟩:=X0.out W hW
  go_simp<;>with_reducible rfl
 try simp only[Act.put,List.setIfInBounds_toArray,List.set_cons_zero,List.set_cons_succ]
 refine grow_take 6 (some 31) (v:=?va6) rfl rfl (by kernel_rfl) (by kernel_rfl) (by kernel_rfl) (fun _ _ _ h=>h) (by rfl) (fun W hW=>?ya6) ?_
 case ya6=>
  go_simp<;>with_reducible rfl
 try simp only[Act.put,List.setIfInBounds_toArray,List.set_cons_zero,List.set_cons_succ]
 refine grow_take 7 (some 32) (v:=?va7) rfl rfl (by kernel_rfl) (by kernel_rfl) (by kernel_rfl) (fun _ _ _ h=>h) (by rfl) (fun W hW=>?ya7) ?_
 case ya7=>
  obtain⟨k0,k1,k2,k3,k4⟩:=X0.out W hW
  go_simp<;>with_reducible rfl
 try simp only[Act.put,List.setIfInBounds_toArray,List.set_cons_zero,List.set_cons_succ]
 refine grow_take 8 (some 33) (v:=?va8) rfl rfl (by kernel_rfl) (by kernel_rfl) (by kernel_rfl) (fun _ _ _ h=>h) (by rfl) (fun W hW=>?ya8) ?_
 case ya8=>
  go_simp<;>with_reducible rfl
 try simp only[Act.put,List.setIfInBounds_toArray,List.set_cons_zero,List.set_cons_succ]
 refine grow_take 9 (some 34) (v:=?va9) rfl rfl (by kernel_rfl) (by kernel_rfl) (by kernel_rfl) (fun _ _ _ h=>h) (by rfl) (fun W hW=>?ya9) ?_
 case ya9=>
  obtain⟨k0,k1,k2,k3,k4⟩:=X0.out W hW
  go_simp<;>with_reducible rfl
 try simp only[Act.put,List.setIfInBounds_toArray,List.set_cons_zero,List.set_cons_succ]
 refine grow_take 10 (some 35) (v:=?va10) rfl rfl (by kernel_rfl) (by kernel_rfl) (by kernel_rfl) (fun _ _ _ h=>h) (by rfl) (fun W hW=>?ya10) ?_
 case ya10=>
  go_simp<;>with_reducible rfl
 try simp only[Act.put,List.setIfInBounds_toArray,List.set_cons_zero,List.set_cons_succ]
 refine grow_take 11 (some 36) (v:=?va11) rfl rfl (by kernel_rfl) (by kernel_rfl) (by kernel_rfl) (fun _ _ _ h=>h) (by rfl) (fun W hW=>?ya11) ?_
 case ya11=>
  go_simp<;>with_reducible rfl
 try simp only[Act.put,List.setIfInBounds_toArray,List.set_cons_zero,List.set_cons_succ]
 refine grow_take 12 (some 37) (v:=?va12) rfl rfl (by kernel_rfl) (by kernel_rfl) (by kernel_rfl) (fun _ _ _ h=>h) (by rfl) (fun W hW=>?ya12) ?_
 case ya12=>
  go_simp<;>with_reducible rfl
 try simp only[Act.put,List.setIfInBounds_toArray,List.set_cons_zero,List.set_cons_succ]
 refine grow_take 13 (some 38) (v:=?va13) rfl rfl (by kernel_rfl) (by kernel_rfl) (by kernel_rfl) (fun _ _ _ h=>h) (by rfl) (fun W hW=>?ya13) ?_
 case ya13=>
  obtain⟨k0,k1,k2,k3,k4⟩:=X0.out W hW
  go_simp<;>with_reducible rfl
 try simp only[Act.put,List.setIfInBounds_toArray,List.set_cons_zero,List.set_cons_succ]
 refine grow_take 14 (some 39) (v:=?va14) rfl rfl (by kernel_rfl) (by kernel_rfl) (by kernel_rfl) (fun _ _ _ h=>h) (by rfl) (fun W hW=>?ya14) ?_
 case ya14=>
  go_simp<;>with_reducible rfl
 try simp only[Act.put,List.setIfInBounds_toArray,List.set_cons_zero,List.set_cons_succ]
 refine grow_only 15 rfl (by kernel_rfl) (fun K hK=>?_)
 have hrun:=HR.out
 go_simp
 refine hK.out _ _ HP.out.but ?_
 clear hK K hrun X0
 refine grow_done (by kernel_rfl) ?_ _
 have p1:=HP.out.mem.d1
 have pf:=HP.out.mem.frz 1
 go_wp2
 go_ret
 exact⟨rfl,HP.out.fin⟩
end Go.Proofs.YtiobnllopliclaaGreatDoor
