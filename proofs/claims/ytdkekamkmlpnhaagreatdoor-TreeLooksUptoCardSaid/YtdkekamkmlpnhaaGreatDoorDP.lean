/- Several texts in one: DPut, DPutL, DEnd. By an AI agent. -/
import Derived.Deep.CutRange
import Derived.Deep.CutBlock
import Derived.Test.YtdkekamkmlpnhaaGreatDoorDY
import Derived.Test.YtdkekamkmlpnhaaGreatDoorGrow
set_option linter.unusedSimpArgs false
set_option linter.unusedVariables false
set_option maxRecDepth 100000
set_option maxHeartbeats 32000000
namespace Go.Proofs.YtdkekamkmlpnhaaGreatDoor
open Go.RowKit Go.Maps
structure BoxF (w:World) (q:Nat) (a b:ByteArray):Prop where
 lt:q<w.heap.size
 c0:w.cell? ⟨q,0,none⟩=some (.string a)
 c1:w.cell? ⟨q,1,none⟩=some (.string b)
theorem BoxF.new (w:World) (a b:ByteArray) (t:TypeId):BoxF (w.alloc (.cells #[.string a,.string b] t)) w.heap.size a b:=by
 refine⟨by simp,?_,?_⟩<;>(rw[World.cell?_alloc_at (hn:=by simp)];rfl)
theorem BoxF.grow {w w':World} {q:Nat} {a b:ByteArray} (h:BoxF w q a b) (hb:Below w.heap.size w w'):BoxF w' q a b:=
 ⟨Nat.lt_of_lt_of_le h.lt hb.size,(hb.cell (p:=⟨q,0,none⟩) h.lt).trans h.c0,(hb.cell (p:=⟨q,1,none⟩) h.lt).trans h.c1⟩
theorem DraftM.seen {w W:World} {B d bt nx b:Nat} {T:List Ty} (h:DraftM w B d bt nx T) (hW:upBut (some b) w W) (hbt:b≠bt) (hbd:b≠d) {u:List UInt8} (hu:u.length<=1000000):
  W.cell? ⟨d,0,none⟩=some (.map (some bt))/\W.cell? ⟨d,1,none⟩=some (.int .i64 (nx:Int))/\(Instr.lookup 178 (.map (some bt)) (.string (txt u)) false).run Tryz.prog W=.ok (mapAt T u) W:=by
 refine⟨(hW.cell (p:=⟨d,0,none⟩) h.ltd (fun e=>hbd (by injection e with e;exact e.symm))).trans h.d0,(hW.cell (p:=⟨d,1,none⟩) h.ltd (fun e=>hbd (by injection e with e;exact e.symm))).trans h.d1,?_⟩;have:=(h.types.kept hW (fun e=>hbt (by injection e with e;exact e.symm))).look Tryz.underlying9 Tryz.underlying178 (zeroIn W) (zC4 hu);rw[this,zH3];unfold mapAt;cases findT T u<;>rfl
theorem eqlMap (b:Nat) (w:World):(binOp .eql 188 (.map (some b)) (.map none)).run Tryz.prog w=.ok (.bool false) w:=by kernel_rfl
theorem eqlNone (w:World):(binOp .eql 188 (.map none) (.map none)).run Tryz.prog w=.ok (.bool true) w:=by kernel_rfl
structure KeptC (d:Nat) (w w':World):Prop where
 size:w.heap.size<=w'.heap.size
 blk:∀(b i:Nat) (v:Value),b≠d->w.cell? ⟨b,i,none⟩=some v->w'.heap[b]?=w.heap[b]?
theorem KeptC.cell {d b i:Nat} {v:Value} {w w':World} (h:KeptC d w w') (hb:b≠d) (hc:w.cell? ⟨b,i,none⟩=some v):w'.cell? ⟨b,i,none⟩=some v:=
 (World.cell?_of_block (a:=⟨b,i,none⟩) (h.blk b i v hb hc)).trans hc
theorem KeptC.trans {d:Nat} {w w' w'':World} (h:KeptC d w w') (h':KeptC d w' w''):KeptC d w w'':=
 ⟨Nat.le_trans h.size h'.size,fun b i v hb hc=>(h'.blk b i v hb (h.cell hb hc)).trans (h.blk b i v hb hc)⟩
theorem KeptC.below {d:Nat} {w w':World} (h:Below w.heap.size w w'):KeptC d w w':=⟨h.size,fun b i v _ hc=>h.block b (zDb hc)⟩
theorem KeptC.grown {d b:Nat} {P:Program} {k:TypeId} {L:Prs} {w w':World} (h:w.grownBy w' (some b)) (hm:MapL w P k b L):KeptC d w w':=
 ⟨h.size,fun q i v _ hc=>h.block q (zDb hc) (fun e=>zAt hm hc (by injection e))⟩
theorem KeptC.set (d i:Nat) (v:Value) (w:World):KeptC d w (w.setCell ⟨d,i,none⟩ v):=
 ⟨by simp[World.setCell],fun b j u hb _=>Below.heap_setCell w ⟨d,i,none⟩ v b hb⟩
structure PutOk (w:World) (B d bt nx:Nat) (T:List Ty) (u n v:List UInt8) (w':World):Prop where
 out:∃nb,DraftM w' B d bt (nx+1) (putT T u nb (n,v,nx))/\Below B w w'/\KeptC d w w'
structure PutEnd (wd w3:World) (B d bt nx b:Nat) (T:List Ty) (u n v:List UInt8) (Z:World->Prop):Prop where
 run:(Instr.mapUpdate 188 (.map (some b)) (.string (txt n)) (.agg #[.string (txt v),.int .i64 (nx:Int)])).run Tryz.prog wd=.ok () w3
 but:upBut (some b) wd w3
 mem:DraftM w3 B d bt nx (turnT T u fun l=>l++[(n,v,nx)])
 fin:Z (w3.setCell ⟨d,1,none⟩ (.int .i64 ((nx:Int)+1)))
theorem zQt {w wd:World} {B d bt nx:Nat} {T:List Ty} {y:Ty} {u n v:List UInt8} (h:DraftM wd B d bt nx T) (hy:findT T u=some y) (hn:findH y.2.2 n=none) (hl:n.length<=1000000) (hc:y.2.2.length<=1000000000) (hb:Below B w wd) (hk:KeptC d w wd) (Z:World->Prop)
  (hZ:∀w',DraftM w' B d bt (nx+1) (turnT T u fun l=>l++[(n,v,nx)])->Below B w w'->KeptC d w w'->Z w'):∃w3,PutEnd wd w3 B d bt nx y.2.1 T u n v Z:=by
 obtain⟨hm,hu⟩:=zAr hy;obtain⟨w3,hrun,hL,hturn⟩:=(h.each y hm).store_new Tryz.underlying9 Tryz.underlying188 (zC4 hl) (by rw[List.length_map];unfold maxLen;omega) (by rw[zGc,hn];rfl) (.agg #[.string (txt v),.int .i64 (nx:Int)]);have hmem:DraftM w3 B d bt nx (turnT T u fun l=>l++[(n,v,nx)]):=h.turn hy (by rw[List.map_append];exact hL) hturn;have hbump:=hmem.bump;have hcast:((nx+1:Nat):Int)=(nx:Int)+1:=by omega
 rw[hcast] at hbump;have hb3:=hb.trans (zEy hturn (h.newe y hm) (h.each y hm).lt);exact⟨w3,hrun,hturn.grown,hmem,hZ _ hbump (hb3.setCell (p:=⟨d,1,none⟩) h.newd _) ((hk.trans (KeptC.grown hturn.grown (h.each y hm))).trans (KeptC.set d 1 _ w3))⟩
theorem dput_no {B d bt nx:Nat} {T:List Ty} (w:World) (h:DraftM w B d bt nx T) (u n v:List UInt8) (hu:u.length<=1000000) (hn:n.length<=1000000) (hin:(findH (heldT T u) n).isSome=true):
  Calls Tryz.prog 149 #[.pointer (some ⟨d,0,none⟩),.string (txt u),.agg #[.string (txt v),.string (txt n)]] w fun e w'=>e=.returned (.bool false)/\Below w.heap.size w w':=by
 have hb1:=below1 w (.cells #[.string (txt v),.string (txt n)] 187);have hX:=BoxF.new w (txt v) (txt n) 187;have hH:=fun w h=>zFo (B:=B) (d:=d) (bt:=bt) (nx:=nx) (T:=T) w h u n hu hn
 rw[hin] at hH;have hc:=hH _ (h.grow hb1);have x1:=hX.c1;have HC:=hide hc;have HB:=hide hb1;clear hH hc hb1 hX h hin hu hn;generalize txt u=U at *;generalize txt n=NN at *;generalize txt v=V at *;go_enter Tryz.func149,Tryz.ntmps149;go_wp2_with (go_at_call 151;fail);refine HC.out.mono ?_;rintro e w2 ⟨rfl,hb2⟩;have HB2:=hTz HB hb2;clear hb2 HB HC x1;go_wp2;go_ret;exact⟨rfl,HB2.out⟩
theorem dput_at {B d bt nx:Nat} {T:List Ty} (w:World) (h:DraftM w B d bt nx T) (u n v:List UInt8) (hu:u.length<=1000000) (hn:n.length<=1000000) (hnx:nx<=1000000000) {y:Ty} (hy:findT T u=some y) (hnn:findH y.2.2 n=none) (hlen:y.2.2.length<=1000000000):
  Calls Tryz.prog 149 #[.pointer (some ⟨d,0,none⟩),.string (txt u),.agg #[.string (txt v),.string (txt n)]] w fun e w'=>e=.returned (.bool true)/\PutOk w B d bt nx T u n v w':=by
 have hBw:B<=w.heap.size:=Nat.le_trans h.newd (Nat.le_of_lt h.ltd);have hb1:=below1 w (.cells #[.string (txt v),.string (txt n)] 187);have hX:=BoxF.new w (txt v) (txt n) 187;have hin:(findH (heldT T u) n).isSome=false:=by
  unfold heldT;rw[hy]
  first | rfl | (simp only;rw[hnn];rfl)
 have hH:=fun w h=>zFo (B:=B) (d:=d) (bt:=bt) (nx:=nx) (T:=T) w h u n hu hn
 rw[hin] at hH;have hc:=hH _ (h.grow hb1);have x1:=hX.c1;have HC:=hide hc;have HB:=hide hb1;have HX:=hide hX;have HM:=hide (h.grow hb1);have Hy:=hide hy;have HBw:=hide hBw;have Hu:=hide hu;have Hn:=hide hn;have hU:Hid (∃U,txt u=U):=hide ⟨_,rfl⟩;clear hH hc hb1 hX h hin hu hn hy hBw;have Hnn:=hide hnn;have Hlen:=hide hlen;clear hnn hlen;obtain⟨U,hU⟩:∃U,txt u=U:=⟨_,rfl⟩;obtain⟨NN,hN⟩:∃NN,txt n=NN:=⟨_,rfl⟩;obtain⟨V,hV⟩:∃V,txt v=V:=⟨_,rfl⟩;have HUe:=hide hU;have HNe:=hide hN;have HVe:=hide hV;rw[hN,hV] at x1 HB HX HM;rw[hU,hN,hV] at HC;rw[hU,hN,hV];clear hU hN hV;go_enter Tryz.func149,Tryz.ntmps149;go_wp2_with (go_at_call 151;fail);refine HC.out.mono ?_;rintro e w2 ⟨rfl,hb2⟩;have HM2:=hide (HM.out.grow hb2);have HX2:=hide (HX.out.grow hb2);have HB2:=hTz HB hb2;clear hb2 HB HC HX HM x1;have p0:=HM2.out.d0;have p2:(Instr.lookup 178 (.map (some bt)) (.string U) false).run Tryz.prog w2=.ok (.map (some y.2.1)) w2:=by
  have:=HM2.out.at Hu.out;rw[HUe.out] at this;rw[this];unfold mapAt;rw[Hy.out];rfl
 obtain⟨b,hb⟩:∃b,y.2.1=b:=⟨_,rfl⟩;rw[hb] at p2;have Hb:=hide hb;clear hb;have p3:=eqlMap b;go_upto_region 5 with fail;clear p0 p2 p3;refine zB2 (some b) (by kernel_rfl) ?_;have hdr:Below w2.heap.size w2 w2.drew:=(Below.refl _ _).drew;have HT:Hid (turnT T u (fun l=>l++[(n,v,nx)])=putT T u 0 (n,v,nx)):=hide (by unfold putT withT;rw[Hy.out]);have HMd:=hide (HM2.out.grow hdr);have HXd:=hide (HX2.out.grow hdr);have HBd:=hide ((HB2.out.trans (hdr.mono HB2.out.size)).mono HBw.out);have HKd:Hid (KeptC d w w2.drew):=hide (.below (HB2.out.trans (hdr.mono HB2.out.size)));have Hyd:=hide Hy.out;have Hbx:Hid (b≠w.heap.size):=hide fun q=>by
  obtain⟨hm,_⟩:=zAr Hy.out;exact zAt (HM2.out.each y hm) HX2.out.c0 (q.symm.trans Hb.out.symm)
 clear hdr HM2 HX2 HB2 Hy;generalize w2.drew=wd at *;obtain⟨w3,HP⟩:∃w3,Hid (PutEnd wd w3 B d bt nx b T u n v fun w'=>PutOk w B d bt nx T u n v w'):=by
  obtain⟨w3,h3⟩:=zQt (v:=v) HMd.out Hyd.out Hnn.out Hn.out Hlen.out HBd.out HKd.out (fun w'=>PutOk w B d bt nx T u n v w') fun w' h1 h2 h3=>⟨⟨_,by rw[<-HT.out];exact h1,h2,h3⟩⟩
  rw[Hb.out] at h3;exact⟨w3,hide h3⟩
 have X0:Hid (∀W,upBut (some b) wd W->W.cell? ⟨d,0,none⟩=some (.map (some bt))/\W.cell? ⟨d,1,none⟩=some (.int .i64 (nx:Int))/\(Instr.lookup 178 (.map (some bt)) (.string U) false).run Tryz.prog W=.ok (.map (some b)) W/\W.cell? ⟨w.heap.size,0,none⟩=some (.string V)/\W.cell? ⟨w.heap.size,1,none⟩=some (.string NN)):=hide fun W hW=>by
  obtain⟨hm,_⟩:=zAr Hyd.out;obtain⟨a1,a2⟩:=List.nodup_cons.1 HMd.out.apart;have hbt:b≠bt:=fun q=>a1 (by rw[<-q,<-Hb.out];exact List.mem_map_of_mem (f:=fun t:Ty=>t.2.1) hm)
  have hbd:b≠d:=fun q=>zAt (HMd.out.each _ hm) HMd.out.d0 (q.symm.trans Hb.out.symm)
  obtain⟨s1,s2,s3⟩:=HMd.out.seen hW hbt hbd Hu.out;have hma:mapAt T u=.map (some b):=by unfold mapAt;rw[Hyd.out,<-Hb.out];rfl
  rw[hma,HUe.out] at s3;exact⟨s1,s2,s3,(hW.cell (p:=⟨w.heap.size,0,none⟩) HXd.out.lt (fun e=>Hbx.out (by injection e with e;exact e.symm))).trans HXd.out.c0,(hW.cell (p:=⟨w.heap.size,1,none⟩) HXd.out.lt (fun e=>Hbx.out (by injection e with e;exact e.symm))).trans HXd.out.c1⟩
 have Hrun:=HP.out.run;rw[HNe.out,HVe.out] at Hrun;have HR:=hide Hrun;clear Hrun;refine yTk 0 (some 25) ?_;(try simp only[pUz]);refine yTk 1 (some 26) ?_;(try simp only[pUz]);refine yTk 2 (some 27) ?_;(try simp only[pUz]);refine zAa 3 (some 28) (v:=?va3) rfl rfl (by kernel_rfl) rfl (by rfl) (fun W hW=>?ya3) ?_
 case ya3=>obtain⟨k0,k1,k2,k3,k4⟩:=X0.out W hW;go_simp<;>with_reducible rfl
 (try simp only[pUz]);refine yTk 4 (some 29) ?_;(try simp only[pUz]);refine zAa 5 (some 30) (v:=?va5) rfl rfl (by kernel_rfl) rfl (by rfl) (fun W hW=>?ya5) ?_
 case ya5=>obtain⟨k0,k1,k2,k3,k4⟩:=X0.out W hW;go_simp<;>with_reducible rfl
 (try simp only[pUz]);refine yTk 6 (some 31) ?_;(try simp only[pUz]);refine zAa 7 (some 32) (v:=?va7) rfl rfl (by kernel_rfl) rfl (by rfl) (fun W hW=>?ya7) ?_
 case ya7=>obtain⟨k0,k1,k2,k3,k4⟩:=X0.out W hW;go_simp<;>with_reducible rfl
 (try simp only[pUz]);refine yTk 8 (some 33) ?_;(try simp only[pUz]);refine zAa 9 (some 34) (v:=?va9) rfl rfl (by kernel_rfl) rfl (by rfl) (fun W hW=>?ya9) ?_
 case ya9=>obtain⟨k0,k1,k2,k3,k4⟩:=X0.out W hW;go_simp<;>with_reducible rfl
 (try simp only[pUz]);refine yTk 10 (some 35) ?_;(try simp only[pUz]);refine yTk 11 (some 36) ?_;(try simp only[pUz]);refine yTk 12 (some 37) ?_;(try simp only[pUz]);refine zAa 13 (some 38) (v:=?va13) rfl rfl (by kernel_rfl) rfl (by rfl) (fun W hW=>?ya13) ?_
 case ya13=>obtain⟨k0,k1,k2,k3,k4⟩:=X0.out W hW;go_simp<;>with_reducible rfl
 (try simp only[pUz]);refine yTk 14 (some 39) ?_;(try simp only[pUz]);refine zAe 15 rfl (by kernel_rfl) (fun K hK=>?_);have hrun:=HR.out;go_simp;refine hK.out _ _ HP.out.but ?_;clear hK K hrun X0;refine zAi (by kernel_rfl) ?_ _;have p1:=HP.out.mem.d1;have pf:=HP.out.mem.frz 1;go_wp2;go_ret;exact⟨rfl,HP.out.fin⟩
theorem dput_new {B d bt nx:Nat} {T:List Ty} (w:World) (h:DraftM w B d bt nx T) (u n v:List UInt8) (hu:u.length<=1000000) (hn:n.length<=1000000) (hnx:nx<=1000000000) (hy:findT T u=none) (hlen:T.length<=1000000000):
  Calls Tryz.prog 149 #[.pointer (some ⟨d,0,none⟩),.string (txt u),.agg #[.string (txt v),.string (txt n)]] w fun e w'=>e=.returned (.bool true)/\PutOk w B d bt nx T u n v w':=by
 have hBw:B<=w.heap.size:=Nat.le_trans h.newd (Nat.le_of_lt h.ltd);have hb1:=below1 w (.cells #[.string (txt v),.string (txt n)] 187);have hX:=BoxF.new w (txt v) (txt n) 187;have hin:(findH (heldT T u) n).isSome=false:=by unfold heldT;rw[hy];rfl
 have hH:=fun w h=>zFo (B:=B) (d:=d) (bt:=bt) (nx:=nx) (T:=T) w h u n hu hn
 rw[hin] at hH;have hc:=hH _ (h.grow hb1);have x1:=hX.c1;have HC:=hide hc;have HB:=hide hb1;have HX:=hide hX;have HM:=hide (h.grow hb1);have Hy:=hide hy;have HBw:=hide hBw;have Hu:=hide hu;have Hn:=hide hn;have hU:Hid (∃U,txt u=U):=hide ⟨_,rfl⟩;clear hH hc hb1 hX h hin hu hn hy hBw;have Hlen:=hide hlen;clear hlen;obtain⟨U,hU⟩:∃U,txt u=U:=⟨_,rfl⟩;obtain⟨NN,hN⟩:∃NN,txt n=NN:=⟨_,rfl⟩;obtain⟨V,hV⟩:∃V,txt v=V:=⟨_,rfl⟩;have HUe:=hide hU;have HNe:=hide hN;have HVe:=hide hV;rw[hN,hV] at x1 HB HX HM;rw[hU,hN,hV] at HC;rw[hU,hN,hV];clear hU hN hV;go_enter Tryz.func149,Tryz.ntmps149;go_wp2_with (go_at_call 151;fail);refine HC.out.mono ?_;rintro e w2 ⟨rfl,hb2⟩;have HM2:=hide (HM.out.grow hb2);have HX2:=hide (HX.out.grow hb2);have HB2:=hTz HB hb2;clear hb2 HB HC HX HM x1;have p0:=HM2.out.d0;have p2:(Instr.lookup 178 (.map (some bt)) (.string U) false).run Tryz.prog w2=.ok (.map none) w2:=by
  have:=HM2.out.at Hu.out;rw[HUe.out] at this;rw[this];unfold mapAt;rw[Hy.out];rfl
 have p3:=eqlNone;have hmm:=@run_makeMap Tryz.prog;obtain⟨w4,hrun,hM4,hB4,hG4⟩:=HM2.out.come Tryz.underlying9 Tryz.underlying178 Hy.out (zC4 Hu.out) (by have:=Hlen.out;unfold maxLen;omega) (Nat.le_trans HBw.out HB2.out.size);rw[HUe.out] at hrun;have hbt:w.heap.size≠bt:=zAt HM2.out.types HX2.out.c0;have HX4:Hid (BoxF w4 w.heap.size V NN):=hide (by
  have hk:=hG4.block w.heap.size HX2.out.lt (fun e=>hbt (by injection e))
  exact⟨Nat.lt_of_lt_of_le HX2.out.lt hG4.size,(World.cell?_of_block (a:=⟨w.heap.size,0,none⟩) hk).trans HX2.out.c0,(World.cell?_of_block (a:=⟨w.heap.size,1,none⟩) hk).trans HX2.out.c1⟩)
 have HK4:Hid (KeptC d w w4):=hide ((KeptC.below HB2.out).trans (KeptC.grown hG4 HM2.out.types));clear hbt hG4;have HM4:=hide hM4;have HB4:=hide ((HB2.out.mono HBw.out).trans hB4);clear hM4 hB4;obtain⟨b,hb⟩:∃b,w2.heap.size=b:=⟨_,rfl⟩;have Hbw:=hide hb;rw[hb] at HM4;clear hb;go_upto_region 5 with fail;clear p0 p2 p3 hmm hrun HM2 HX2 HB2;refine zB2 (some b) (by kernel_rfl) ?_;have hdr:Below w4.heap.size w4 w4.drew:=(Below.refl _ _).drew;obtain⟨T1,hT1⟩:∃T1,T++[(u,b,[])]=T1:=⟨_,rfl⟩;have hwT:withT T u b=T1:=by unfold withT;rw[Hy.out];exact hT1
 rw[hT1] at HM4;have HT:Hid (turnT T1 u (fun l=>l++[(n,v,nx)])=putT T u b (n,v,nx)):=hide (by unfold putT;rw[hwT]);have Hyd:Hid (findT T1 u=some (u,b,[])):=hide (by rw[<-hwT,zFw];exact if_pos ⟨rfl,Hy.out⟩);have Hb:Hid (((u,b,[]):Ty).2.1=b):=hide rfl;have Hnn:Hid (findH ((u,b,[]):Ty).2.2 n=none):=hide rfl;have Hlen:Hid (((u,b,[]):Ty).2.2.length<=1000000000):=hide (by simp);have HMd:=hide (HM4.out.grow hdr);have HXd:=hide (HX4.out.grow hdr);have HBd:=hide (HB4.out.trans (hdr.mono (Nat.le_trans HBw.out HB4.out.size)));have HKd:Hid (KeptC d w w4.drew):=hide (HK4.out.trans (KeptC.below hdr));have Hbx:Hid (b≠w.heap.size):=hide fun q=>by
  obtain⟨hm,_⟩:=zAr Hyd.out;exact zAt (HM4.out.each _ hm) HX4.out.c0 q.symm
 clear hdr HM4 HX4 HB4 HK4 Hy hT1 hwT Hbw;generalize w4.drew=wd at *;obtain⟨w3,HP⟩:∃w3,Hid (PutEnd wd w3 B d bt nx b T1 u n v fun w'=>PutOk w B d bt nx T u n v w'):=by
  obtain⟨w3,h3⟩:=zQt (v:=v) HMd.out Hyd.out Hnn.out Hn.out Hlen.out HBd.out HKd.out (fun w'=>PutOk w B d bt nx T u n v w') fun w' h1 h2 h3=>⟨⟨_,by rw[<-HT.out];exact h1,h2,h3⟩⟩
  rw[Hb.out] at h3;exact⟨w3,hide h3⟩
 have X0:Hid (∀W,upBut (some b) wd W->W.cell? ⟨d,0,none⟩=some (.map (some bt))/\W.cell? ⟨d,1,none⟩=some (.int .i64 (nx:Int))/\(Instr.lookup 178 (.map (some bt)) (.string U) false).run Tryz.prog W=.ok (.map (some b)) W/\W.cell? ⟨w.heap.size,0,none⟩=some (.string V)/\W.cell? ⟨w.heap.size,1,none⟩=some (.string NN)):=hide fun W hW=>by
  obtain⟨hm,_⟩:=zAr Hyd.out;obtain⟨a1,a2⟩:=List.nodup_cons.1 HMd.out.apart;have hbt:b≠bt:=fun q=>a1 (by rw[<-q,<-Hb.out];exact List.mem_map_of_mem (f:=fun t:Ty=>t.2.1) hm)
  have hbd:b≠d:=fun q=>zAt (HMd.out.each _ hm) HMd.out.d0 (q.symm.trans Hb.out.symm)
  obtain⟨s1,s2,s3⟩:=HMd.out.seen hW hbt hbd Hu.out;have hma:mapAt T1 u=.map (some b):=by unfold mapAt;rw[Hyd.out,<-Hb.out];rfl
  rw[hma,HUe.out] at s3;exact⟨s1,s2,s3,(hW.cell (p:=⟨w.heap.size,0,none⟩) HXd.out.lt (fun e=>Hbx.out (by injection e with e;exact e.symm))).trans HXd.out.c0,(hW.cell (p:=⟨w.heap.size,1,none⟩) HXd.out.lt (fun e=>Hbx.out (by injection e with e;exact e.symm))).trans HXd.out.c1⟩
 have Hrun:=HP.out.run;rw[HNe.out,HVe.out] at Hrun;have HR:=hide Hrun;clear Hrun;refine yTk 0 (some 25) ?_;(try simp only[pUz]);refine yTk 1 (some 26) ?_;(try simp only[pUz]);refine yTk 2 (some 27) ?_;(try simp only[pUz]);refine zAa 3 (some 28) (v:=?va3) rfl rfl (by kernel_rfl) rfl (by rfl) (fun W hW=>?ya3) ?_
 case ya3=>obtain⟨k0,k1,k2,k3,k4⟩:=X0.out W hW;go_simp<;>with_reducible rfl
 (try simp only[pUz]);refine yTk 4 (some 29) ?_;(try simp only[pUz]);refine zAa 5 (some 30) (v:=?va5) rfl rfl (by kernel_rfl) rfl (by rfl) (fun W hW=>?ya5) ?_
 case ya5=>obtain⟨k0,k1,k2,k3,k4⟩:=X0.out W hW;go_simp<;>with_reducible rfl
 (try simp only[pUz]);refine yTk 6 (some 31) ?_;(try simp only[pUz]);refine zAa 7 (some 32) (v:=?va7) rfl rfl (by kernel_rfl) rfl (by rfl) (fun W hW=>?ya7) ?_
 case ya7=>obtain⟨k0,k1,k2,k3,k4⟩:=X0.out W hW;go_simp<;>with_reducible rfl
 (try simp only[pUz]);refine yTk 8 (some 33) ?_;(try simp only[pUz]);refine zAa 9 (some 34) (v:=?va9) rfl rfl (by kernel_rfl) rfl (by rfl) (fun W hW=>?ya9) ?_
 case ya9=>obtain⟨k0,k1,k2,k3,k4⟩:=X0.out W hW;go_simp<;>with_reducible rfl
 (try simp only[pUz]);refine yTk 10 (some 35) ?_;(try simp only[pUz]);refine yTk 11 (some 36) ?_;(try simp only[pUz]);refine yTk 12 (some 37) ?_;(try simp only[pUz]);refine zAa 13 (some 38) (v:=?va13) rfl rfl (by kernel_rfl) rfl (by rfl) (fun W hW=>?ya13) ?_
 case ya13=>obtain⟨k0,k1,k2,k3,k4⟩:=X0.out W hW;go_simp<;>with_reducible rfl
 (try simp only[pUz]);refine yTk 14 (some 39) ?_;(try simp only[pUz]);refine zAe 15 rfl (by kernel_rfl) (fun K hK=>?_);have hrun:=HR.out;go_simp;refine hK.out _ _ HP.out.but ?_;clear hK K hrun X0;refine zAi (by kernel_rfl) ?_ _;have p1:=HP.out.mem.d1;have pf:=HP.out.mem.frz 1;go_wp2;go_ret;exact⟨rfl,HP.out.fin⟩
theorem zR3 {T:List Ty} {u:List UInt8} {y:Ty} (h:findT T u=some y):heldT T u=y.2.2:=by unfold heldT;rw[h]
theorem with_len (T:List Ty) (u:List UInt8) (nb:Nat):(withT T u nb).length<=T.length+1:=by
 unfold withT;cases findT T u<;>simp
theorem put_len (T:List Ty) (u:List UInt8) (nb:Nat) (h:Hd):(putT T u nb h).length<=T.length+1:=by
 unfold putT turnT;rw[List.length_map];exact with_len T u nb
theorem put_each {T:List Ty} {u:List UInt8} {nb k:Nat} {h:Hd} (hu:u.length<=1000000) (hT:∀t∈T,t.2.2.length<=k/\t.1.length<=1000000):∀t∈putT T u nb h,t.2.2.length<=k+1/\t.1.length<=1000000:=by
 intro t ht;unfold putT turnT at ht;obtain⟨x,hx,rfl⟩:=List.mem_map.1 ht;have hx2:x.2.2.length<=k/\x.1.length<=1000000:=by
  unfold withT at hx;cases hf:findT T u with
  | some y=>rw[hf] at hx;exact hT x hx
  | none=>
   rw[hf] at hx;rcases List.mem_append.1 hx with hx | hx
   ·exact hT x hx
   ·simp only[List.mem_singleton] at hx;subst hx;exact⟨by simp,hu⟩
 split
 ·simp only[List.length_append,List.length_cons,List.length_nil];omega
 ·omega
structure PutPost (w:World) (B d nx:Nat) (L:List EA) (u v:List UInt8) (e:Ending) (w':World):Prop where
 no:WithinV u (pickE L u) v->e=.returned (.bool false)/\Draft w' B d nx L
 yes:¬WithinV u (pickE L u) v->e=.returned (.bool true)/\Draft w' B d (nx+1) (setE L u (pickE L u++[v]))
 below:Below B w w'
 kept:KeptC d w w'
theorem dput_any {B d nx:Nat} {L:List EA} (w:World) (h:Draft w B d nx L) (u n v:List UInt8) (hv:valV u v=(n,0)) (hu:u.length<=1000000) (hn:n.length<=1000000) (hnx:nx<=1000000000):
  Calls Tryz.prog 149 #[.pointer (some ⟨d,0,none⟩),.string (txt u),.agg #[.string (txt v),.string (txt n)]] w (PutPost w B d nx L u v):=by
 obtain⟨bt,T,hM,hP,hl,he⟩:=h.out;have hB:B<=w.heap.size:=Nat.le_trans hM.newd (Nat.le_of_lt hM.ltd);by_cases hin:WithinV u (pickE L u) v
 ·refine (dput_no w hM u n v hu hn ((hP.has hv).2 hin)).mono ?_;rintro e w' ⟨rfl,hb⟩;exact⟨fun _=>⟨rfl,h.grow hb⟩,fun q=>absurd hin q,hb.mono hB,.below hb⟩
 ·have hnone:findH (heldT T u) n=none:=by
   cases hf:findH (heldT T u) n with
   | none=>rfl
   | some x=>exact absurd ((hP.has hv).1 (by rw[hf];rfl)) hin
  have fin:∀e w',(e=.returned (.bool true)/\PutOk w B d bt nx T u n v w')->PutPost w B d nx L u v e w':=by rintro e w' ⟨rfl,⟨nb,h1,h2,h3⟩⟩;refine⟨fun q=>absurd q hin,fun _=>⟨rfl,⟨bt,_,h1,hP.put nb hv,?_,put_each hu he⟩⟩,h2,h3⟩;have:=put_len T u nb (n,v,nx);omega
  cases hf:findT T u with
  | none=>exact (dput_new w hM u n v hu hn hnx hf (by omega)).mono fin
  | some y=>
   rw[zR3 hf] at hnone;have:=he y (zAr hf).1;exact (dput_at w hM u n v hu hn hnx hf hnone (by omega)).mono fin
theorem zMg {t v n:List UInt8} (h:valV t v=(n,0)):v.length<=200:=by
 by_cases q:v.length<=200
 ·exact q
 ·exfalso;have hv:200<v.length:=by omega
  unfold valV at h;by_cases h5:(typ t).2≠5
  ·rw [if_pos h5] at h;unfold norm at h;by_cases h0:(typ t).2=0
   ·rw [if_pos h0] at h;simp at h
   ·rw [if_neg h0,if_neg h5,if_pos (.inr (.inl hv))] at h;simp at h
  ·rw [if_neg h5,if_pos (.inr hv)] at h;simp at h
theorem zNs {L:List EA} (h:Rise L):∀a∈L,pickE L a.1=a.2:=by
 induction L with
 | nil=>intro a ha;simp at ha
 | cons b K ih=>
  obtain⟨h1,h2⟩:=List.pairwise_cons.1 h;intro a ha;rcases List.mem_cons.1 ha with rfl | ha
  ·simp [pickE]
  ·simp only[pickE];rw[if_neg fun q=>by have:=h1 a ha;rw[q] at this;exact List.lt_irrefl _ this];exact ih h2 a ha
theorem zSa {K:List EA} {u:List UInt8} (hu:pickE K u≠[]):(u,pickE K u)∈K:=by
 induction K with
 | nil=>simp[pickE] at hu
 | cons b K ih=>
  simp only[pickE] at hu ⊢;split
  ·rename_i q;subst q;simp
  ·rename_i q;rw[if_neg q] at hu;exact List.mem_cons_of_mem _ (ih hu)
theorem DraftP.attrs {T:List Ty} {nx:Nat} {L:List EA} (h:DraftP T nx L) {ks:List (List UInt8)} (hk:KeysOk T ks):attrsOf T ks=L:=by
 have hmem:∀a∈attrsOf T ks,a.1∈ks/\heldT T a.1≠[]/\a.2=(heldT T a.1).map fun h:Hd=>h.2.1:=by intro a ha;unfold attrsOf at ha;obtain⟨k,hk1,rfl⟩:=List.mem_map.1 ha;obtain⟨k1,k2⟩:=List.mem_filter.1 hk1;exact⟨k1,by simpa using k2,rfl⟩
 have hrise:Rise (attrsOf T ks):=by unfold Rise attrsOf;rw[List.pairwise_map];exact (hk.rise.filter _).imp fun {a b} q=>q
 have hfull:∀a∈attrsOf T ks,a.2≠[]:=fun a ha=>by
  obtain⟨_,h2,h3⟩:=hmem a ha;rw[h3];simpa using h2
 refine zIs hrise h.rise hfull h.full fun u=>?_
 rw[h.pick];by_cases hu:heldT T u=[]
 ·rw [hu];by_cases hp:pickE (attrsOf T ks) u=[]
  ·rw [hp];rfl
  ·exact absurd hu (hmem _ (zSa hp)).2.1
 ·have huk:u∈ks:=by
   rw[hk.mem];unfold heldT at hu;cases hf:findT T u with
   | none=>rw[hf] at hu;exact absurd rfl hu
   | some t=>rfl
  have hin:(u,(heldT T u).map fun h:Hd=>h.2.1)∈attrsOf T ks:=by unfold attrsOf;exact List.mem_map.2 ⟨u,List.mem_filter.2 ⟨huk,by simpa using hu⟩,rfl⟩
  exact zNs hrise _ hin
theorem DraftP.many {T:List Ty} {nx:Nat} {L:List EA} (h:DraftP T nx L) (hnd:T.Pairwise fun a b=>a.1≠b.1):(∃a∈L,20<a.2.length)↔∃t∈T,20<t.2.2.length:=by
 constructor
 ·rintro ⟨a,ha,h20⟩;have e:=zNs h.rise a ha;rw[h.pick] at e;rw[<-e,List.length_map] at h20;unfold heldT at h20;cases hf:findT T a.1 with
  | none=>rw[hf] at h20;simp at h20
  | some t=>rw[hf] at h20;exact⟨t,(zAr hf).1,h20⟩
 ·rintro ⟨t,ht,h20⟩;have hf:=zCi hnd ht;have e:pickE L t.1=t.2.2.map fun h:Hd=>h.2.1:=by rw[h.pick];unfold heldT;rw[hf]
  have hne:pickE L t.1≠[]:=by rw[e];intro q;rw[List.map_eq_nil_iff] at q;rw[q] at h20;simp at h20
  exact⟨_,zSa hne,by simp only;rw[e,List.length_map];exact h20⟩
theorem DraftP.named {T:List Ty} {nx:Nat} {L:List EA} (h:DraftP T nx L) {nm:List UInt8} (hn:normT nm=(nm,0)) (hne:nm≠[]):AllIn T (pairsE nm)↔NamedR nm L:=by
 rw[zCd hn hne];have key:∀p∈pairsE nm,(findH (heldT T p.1) p.2).isSome=true↔HasE L p.1 p.2:=by
  intro p hp;obtain⟨h1,h2⟩:=zE6 hn p hp;rw[h.has h1];unfold HasE valuesE;have h0:(typ p.1).2≠0:=by
   intro q;unfold valV at h1;rw[if_pos (by omega)] at h1;unfold Go.Proofs.YtdkekamkmlpnhaaGreatDoor.norm at h1;rw[if_pos q] at h1;simp at h1
  rw[if_neg h0,h2]
 exact⟨fun q p hp=>(key p hp).1 (q p hp),fun q p hp=>(key p hp).2 (q p hp)⟩
structure DoneE (nm:List UInt8) (L:List EA) (mis:Int) (w:World) (e:Ending) (w':World):Prop where
 ok:endE nm L mis=0->MadePost nm L 0 w e w'
 bad:endE nm L mis≠0->MadePost [] [] (endE nm L mis) w e w'
theorem end_any {B d nx:Nat} {L:List EA} (w:World) (h:Draft w B d nx L) (nm:List UInt8) (hn:normT nm=(nm,0)) (hne:nm≠[]) (mis:Int) (hmis:mis≠0) (hT:TM w) (hnx:nx<=1000000):
  Calls Tryz.prog 99 #[.pointer (some ⟨d,0,none⟩),.string (txt nm),.int .i64 mis] w (DoneE nm L mis w):=by
 obtain⟨bt,T,hM,hP,hl,he⟩:=h.out;have hfew:T.length<=1000000/\∀t∈T,t.2.2.length<=1000000:=⟨by omega,fun t ht=>by have:=(he t ht).1;omega⟩;have hnml:nm.length<=1000000:=by have:=(zBt (l:=nm) (by rw[hn])).2;rw[hn] at this;simp only at this;omega
 by_cases hmany:∃t∈T,20<t.2.2.length
 ·have hc:endE nm L mis=19:=by unfold endE;rw[if_pos ((hP.many hM.nd).2 hmany)]
  refine (zOu w hM (txt nm) mis hmany hfew).mono ?_;rintro e w' ⟨h1,h2⟩;exact⟨fun q=>by rw[hc] at q;exact absurd q (by decide),fun _=>by rw[hc];exact zCu h1 h2⟩
 ·have hmost:∀t∈T,¬20<t.2.2.length:=fun t ht q=>hmany ⟨t,ht,q⟩
  have hm2:¬∃a∈L,20<a.2.length:=fun q=>hmany ((hP.many hM.nd).1 q)
  have hcls:heldT T clsT=[]↔pickE L clsT=[]:=by rw[hP.pick,List.map_eq_nil_iff]
  by_cases hc0:heldT T clsT=[]
  ·have hc:endE nm L mis=65:=by unfold endE;rw[if_neg hm2,if_pos (hcls.1 hc0)]
   refine (zL3 w hM (txt nm) mis hmost hfew hc0).mono ?_;rintro e w' ⟨h1,h2⟩;exact⟨fun q=>by rw[hc] at q;exact absurd q (by decide),fun _=>by rw[hc];exact zCu h1 h2⟩
  ·have hTys:TysOk T:=⟨by omega,fun t ht=>(he t ht).2,fun t ht=>by have:=(he t ht).1;omega,fun t ht x hx=>by
    have hf:=zCi hM.nd ht
    have hin:x∈heldT T t.1:=(by unfold heldT;rw[hf];exact hx);have:=zMg (hP.norm t.1 x hin)
    omega,fun t ht=>by
    have hf:=zCi hM.nd ht
    have:=hP.place t.1
    unfold heldT at this
    rw[hf] at this
    exact this⟩
   have hpl:∀p∈pairsE nm,p.1.length<=1000000/\p.2.length<=1000000:=fun p hp=>by
    obtain⟨h1,h2⟩:=zE6 hn p hp;have:=zMg h1;have h3:=zDy h2;exact⟨h3,by omega⟩
   refine (zKx w hM nm mis hmost hfew hc0 hTys hT hnml hpl).mono ?_;intro e w' hE;have hcode:endE nm L mis=@ite _ (NamedR nm L) (Classical.propDecidable _) 0 mis:=by unfold endE;rw[if_neg hm2,if_neg (fun q=>hc0 (hcls.2 q))]
   by_cases hnamed:NamedR nm L
   ·rw [if_pos hnamed] at hcode;obtain⟨ks,hk,hmp⟩:=hE.yes ((hP.named hn hne).2 hnamed);rw[hP.attrs hk] at hmp;exact⟨fun _=>hmp,fun q=>absurd hcode q⟩
   ·rw [if_neg hnamed] at hcode;have hmp:=hE.no fun q=>hnamed ((hP.named hn hne).1 q)
    exact⟨fun q=>by rw[hcode] at q;exact absurd q hmis,fun _=>by rw[hcode];exact hmp⟩
end Go.Proofs.YtdkekamkmlpnhaaGreatDoor
