/- Rows of contexts and of servers that are built. By an AI agent. -/
import Derived.Test.YtlfglibcggphjaaGreatDoorKFHeld
import Derived.Test.YtlfglibcggphjaaGreatDoorEY
import Derived.Test.YtlfglibcggphjaaGreatDoorGrow
import Derived.Test.YtlfglibcggphjaaGreatDoorEN
set_option linter.unusedSimpArgs false
set_option linter.unusedVariables false
set_option maxRecDepth 100000
set_option maxHeartbeats 32000000
namespace Go.Proofs.YtlfglibcggphjaaGreatDoor
open Go Go.RowKit
theorem infoCT:(Tryz.prog.info? 47).map (fun i=>(i.zero,i.size,i.bytes))=some (some (.agg #[.string .empty,.int .i64 0]),2,24):=by kernel_rfl
theorem infoCX:(Tryz.prog.info? 45).map (fun i=>(i.zero,i.size,i.bytes))=some (some (.agg #[.string .empty,.slice none 0 0,.slice none 0 0]),3,64):=by kernel_rfl
theorem infoSV:(Tryz.prog.info? 42).map (fun i=>(i.zero,i.size,i.bytes))=some (some (.agg #[.slice none 0 0]),1,24):=by kernel_rfl
theorem litCT (w:World) (x:ByteArray) (y:Int) (e:TypeId):(w.alloc (.cells #[.string x,.int .i64 y] e)).ownsRow w.heap.size e 2 (.slice (some ⟨w.heap.size,0,none⟩) 1 1) 1 [.string x,.int .i64 y]:=
 World.ownsRow_lit w #[.string x,.int .i64 y] 1 (Nat.le_refl _) (by unfold maxLen;omega) rfl
theorem litCX (w:World) (u0 u1 u2:Value) (e:TypeId):(w.alloc (.cells #[u0,u1,u2] e)).ownsRow w.heap.size e 3 (.slice (some ⟨w.heap.size,0,none⟩) 1 1) 1 [u0,u1,u2]:=
 World.ownsRow_lit w #[u0,u1,u2] 1 (Nat.le_refl _) (by unfold maxLen;omega) rfl
theorem litSV (w:World) (u0:Value) (e:TypeId):(w.alloc (.cells #[u0] e)).ownsRow w.heap.size e 1 (.slice (some ⟨w.heap.size,0,none⟩) 1 1) 1 [u0]:=
 World.ownsRow_lit w #[u0] 1 (Nat.le_refl _) (by unfold maxLen;omega) rfl
structure RowXs (w:World) (base:Nat) (v:Value) (xs:List Value) (L:List CX):Prop where
 own:w.ownsRow base 45 3 v L.length xs
 cxs:CXsP w (fun b=>base<=b/\b<w.heap.size/\some b≠v.ownBlock) xs L
structure RowSs (w:World) (base:Nat) (v:Value) (xs:List Value) (L:List (List CX)):Prop where
 own:w.ownsRow base 42 1 v L.length xs
 svs:SVsP w (fun b=>base<=b/\b<w.heap.size/\some b≠v.ownBlock) xs L
section
variable {w w':World} {base:Nat} {v v':Value} {xs:List Value}
theorem RowXs.below {L:List CX} (h:RowXs w base v xs L) (hb:Below w.heap.size w w'):RowXs w' base v xs L:=
 ⟨zAc h.own hb,h.cxs.move (fun p hp=>hb.cell hp.2.1) fun b hb2=>⟨hb2.1,Nat.lt_of_lt_of_le hb2.2.1 hb.size,hb2.2.2⟩⟩
theorem RowSs.below {L:List (List CX)} (h:RowSs w base v xs L) (hb:Below w.heap.size w w'):RowSs w' base v xs L:=
 ⟨zAc h.own hb,h.svs.move (fun p hp=>hb.cell hp.2.1) fun b hb2=>⟨hb2.1,Nat.lt_of_lt_of_le hb2.2.1 hb.size,hb2.2.2⟩⟩
theorem RowXs.set {L:List CX} (h:RowXs w base v xs L) {h0:Nat} (hB:h0<base) (i:Nat) (u:Value):RowXs (w.setCell ⟨h0,i,none⟩ u) base v xs L:=by
 have hg:=zAo w h0 i u;refine⟨h.own.kept hg (.inr fun e=>by have:=(h.own.lt _ e).1;omega),h.cxs.move (fun p hp=>World.cell?_of_block (hg.block _ hp.2.1 (fun e=>by have:=Option.some.inj e;have:=hp.1;omega))) fun b hb=>⟨hb.1,Nat.lt_of_lt_of_le hb.2.1 hg.size,hb.2.2⟩⟩
theorem RowSs.set {L:List (List CX)} (h:RowSs w base v xs L) {h0:Nat} (hB:h0<base) (i:Nat) (u:Value):RowSs (w.setCell ⟨h0,i,none⟩ u) base v xs L:=by
 have hg:=zAo w h0 i u;refine⟨h.own.kept hg (.inr fun e=>by have:=(h.own.lt _ e).1;omega),h.svs.move (fun p hp=>World.cell?_of_block (hg.block _ hp.2.1 (fun e=>by have:=Option.some.inj e;have:=hp.1;omega))) fun b hb=>⟨hb.1,Nat.lt_of_lt_of_le hb.2.1 hg.size,hb.2.2⟩⟩
theorem RowXs.more {w4 w5 w6 w7:World} {L:List CX} (hR:RowXs w4 base v xs L) (hbase:base<=w4.heap.size) (hb5:Below w4.heap.size w4 w5) (h6:Below w5.heap.size w5 w6) {x:CX} {A:Option Addr} {c:Nat} {ys:List Value} {S:Option Addr} {d:Nat}
  (hH:HasP w5 (NewB w4.heap.size w5.heap.size) 2 A x.2.1.length ys) (hE:ENsP w5 (NewB w4.heap.size w5.heap.size) ys x.2.1) (hS:HasP w5 (NewB w4.heap.size w5.heap.size) 2 S x.2.2.length (cutsV x.2.2))
  (hown:w7.ownsRow base 45 3 v' (L.length+1) (xs++[.string (txt x.1),.slice A x.2.1.length c,.slice S x.2.2.length d])) (hg:w6.grownBy w7 v.ownBlock) (ht:v'.ownBlock=v.ownBlock\/v'.ownBlock=some w6.heap.size):
  RowXs w7 base v' (xs++[.string (txt x.1),.slice A x.2.1.length c,.slice S x.2.2.length d]) (L++[x]):=by
 have hoff:∀b,NewB w4.heap.size w5.heap.size b->base<=b/\b<w6.heap.size/\some b≠v.ownBlock:=fun b hb=>by
  obtain⟨h1,h2,h3⟩:=zEf hR.own hbase b hb;exact⟨h1,Nat.lt_of_lt_of_le h2 h6.size,h3⟩
 have h:=((hR.below hb5).below h6);refine⟨by rw[List.length_append];exact hown,?_⟩;refine (h.cxs.move (zAe hg) (zAi hg ht)).snoc (ys:=ys) ?_ ?_ ?_
 ·exact (hH.move (P':=fun b=>base<=b/\b<w6.heap.size/\some b≠v.ownBlock) (fun p hp=>h6.cell hp.2) hoff).move (zAe hg) (zAi hg ht)
 ·exact (hE.move (P':=fun b=>base<=b/\b<w6.heap.size/\some b≠v.ownBlock) (fun p hp=>h6.cell hp.2) hoff).move (zAe hg) (zAi hg ht)
 ·exact (hS.move (P':=fun b=>base<=b/\b<w6.heap.size/\some b≠v.ownBlock) (fun p hp=>h6.cell hp.2) hoff).move (zAe hg) (zAi hg ht)
theorem RowSs.more {w4 w5 w6 w7:World} {L:List (List CX)} (hR:RowSs w4 base v xs L) (hbase:base<=w4.heap.size) (hb5:Below w4.heap.size w4 w5) (h6:Below w5.heap.size w5 w6) {x:List CX} {C:Option Addr} {c:Nat} {ys:List Value}
  (hH:HasP w5 (NewB w4.heap.size w5.heap.size) 3 C x.length ys) (hE:CXsP w5 (NewB w4.heap.size w5.heap.size) ys x)
  (hown:w7.ownsRow base 42 1 v' (L.length+1) (xs++[.slice C x.length c])) (hg:w6.grownBy w7 v.ownBlock) (ht:v'.ownBlock=v.ownBlock\/v'.ownBlock=some w6.heap.size):
  RowSs w7 base v' (xs++[.slice C x.length c]) (L++[x]):=by
 have hoff:∀b,NewB w4.heap.size w5.heap.size b->base<=b/\b<w6.heap.size/\some b≠v.ownBlock:=fun b hb=>by
  obtain⟨h1,h2,h3⟩:=zEf hR.own hbase b hb;exact⟨h1,Nat.lt_of_lt_of_le h2 h6.size,h3⟩
 have h:=((hR.below hb5).below h6);refine⟨by rw[List.length_append];exact hown,?_⟩;refine (h.svs.move (zAe hg) (zAi hg ht)).snoc (ys:=ys) ?_ ?_
 ·exact (hH.move (P':=fun b=>base<=b/\b<w6.heap.size/\some b≠v.ownBlock) (fun p hp=>h6.cell hp.2) hoff).move (zAe hg) (zAi hg ht)
 ·exact (hE.move (P':=fun b=>base<=b/\b<w6.heap.size/\some b≠v.ownBlock) (fun p hp=>h6.cell hp.2) hoff).move (zAe hg) (zAi hg ht)
end
structure CutsPost (L:List CT) (w:World) (e:Ending) (w':World):Prop where
 out:∃A c,e=.returned (.slice A L.length c)/\HasP w' (NewB w.heap.size w'.heap.size) 2 A L.length (cutsV L)/\Below w.heap.size w w'
theorem zE8 (L:List CT) (w:World) (A:Option Addr) (n c:Nat) (hA:HasP w (fun b=>b<w.heap.size) 2 A n (cutsV L)) (hn:n<=2000000):
  Calls Tryz.prog 14 #[.slice A n c] w (CutsPost L w):=by
 suffices H:Calls Tryz.prog 14 #[.slice A n c] w fun e w'=>Hid (CutsPost L w e w') from H.mono fun e w' h=>h.out
 have hnl:=hA.cuts_n;have HA:=hide hA;have Hn:=hide hnl;clear hA hnl;go_enter Tryz.func14,Tryz.ntmps14;go_wp2
 go_loopg [3,7] n (fun r s3 s7 wx=>∃i:Nat,i+r=n/\s7=.int .i64 (i:Int)/\Hid (wx.ownsRow w.heap.size 47 2 s3 i (cutsV (L.take i)))/\Hid (Below w.heap.size w wx))
 case atStart=>exact⟨0,by omega,rfl,hide (World.ownsRow_nil _ _ _ _),hide (Below.refl _ _)⟩
 case round=>
  obtain⟨i,hig,rfl,hor,hbr⟩:=hrel;cases gk with
  | zero=>
   obtain rfl:i=n:=by omega
   have hiz:¬((i:Int)<(i:Int)):=by omega
   have ho:=hor.out;rw[List.take_of_length_le (by rw[<-Hn.out];exact Nat.le_refl _)] at ho;obtain⟨A3,c3,rfl,hc3,hP3⟩:=zA0 ho;have HE:Hid (CutsPost L w (.returned (.slice A3 i c3)) wr):=hide (by
    obtain rfl:=Hn.out
    exact⟨⟨A3,c3,rfl,hP3.move (fun p _=>rfl) (fun b hb=>hb),hbr.out⟩⟩)
   clear ho hc3 hP3 hor hbr HA Hn;go_wp2;go_ret;exact HE
  | succ r=>
   obtain⟨wo,rfl⟩:∃wo,wo=wr:=⟨_,rfl⟩;have hi:i<n:=by omega
   have hiz:(i:Int)<(n:Int):=by omega
   obtain⟨x,hx⟩:∃x,L[i]?=some x:=⟨_,List.getElem?_eq_getElem (by rw[<-Hn.out];exact hi)⟩;obtain⟨g,o,hAe,hg,hat⟩:=HA.out.cuts (fun h=>by rw[h] at hx;simp at hx);subst hAe;have c0:=(hbr.out.cell (p:=⟨g,o+i*2,none⟩) hg).trans (hat i x hx).1;have c1:=(hbr.out.cell (p:=⟨g,o+i*2+1,none⟩) hg).trans (hat i x hx).2;have Htk:Hid (cutsV (L.take (i+1))=cutsV (L.take i)++[.string (txt x.1),.int .i64 x.2]):=hide (by
    rw[List.take_add_one,hx]
    exact zDl _ _)
   obtain⟨XS,hXS⟩:∃S,txt x.1=S:=⟨_,rfl⟩;obtain⟨sv,hsv⟩:∃S,x.2=S:=⟨_,rfl⟩;rw[hXS] at c0 Htk;rw[hsv] at c1 Htk;have hlit:=litCT wo XS sv 47;have hH:=Has.own hlit;have hor7:=hor.out.alloc (.cells #[.string XS,.int .i64 sv] 47);have hB7:=hide (hbr.out.trans ((below1 wo (.cells #[.string XS,.int .i64 sv] 47)).mono hbr.out.size));have hs7:=hB7.out.size;have h1c:∀u∈[Value.string XS,Value.int .i64 sv],u.oneCell'=true:=by simp[Value.oneCell']
   clear hat hg hx hXS hsv hlit hor hbr;go_wp2_with (at_builtin;go_must (refine appE _ 32 47 _ 2 24 Tryz.underlying32 infoCT rfl (by omega) (by omega) rfl (.tmp 10) (.tmp 15) rfl w.heap.size _ i (cutsV (L.take i)) rfl hor7 _ _ 1 1 [.string XS,.int .i64 sv] rfl hH h1c (by omega) hs7 ?_));intro v8 w8 hor8 hb8 _;have HB8:=hide (hB7.out.trans hb8);rw[<-Htk.out] at hor8;have HO8:=hide hor8;clear hor8 hb8 hor7 hH h1c hs7 hB7 Htk c0 c1;go_wp2
   go_roundg r
   case measure=>omega
   case rel=>exact⟨i+1,by omega,by go_num,HO8,HB8⟩
end Go.Proofs.YtlfglibcggphjaaGreatDoor
