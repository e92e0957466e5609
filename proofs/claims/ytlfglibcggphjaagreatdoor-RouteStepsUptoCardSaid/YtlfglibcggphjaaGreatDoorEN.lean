/- Several texts in one: YCopyE. By an AI agent. -/
import Derived.Test.YtlfglibcggphjaaGreatDoorEY
import Derived.Test.YtlfglibcggphjaaGreatDoorEX
import Derived.Test.YtlfglibcggphjaaGreatDoorGrow
set_option linter.unusedSimpArgs false
set_option linter.unusedVariables false
set_option maxRecDepth 100000
set_option maxHeartbeats 64000000
namespace Go.Proofs.YtlfglibcggphjaaGreatDoor
open Go Go.RowKit
structure EntPost (r:EN) (w:World) (e:Ending) (w':World):Prop where
 out:∃A c ys,e=.returned (.agg #[.string (txt r.1),.slice A r.2.length c])/\r.2.length<=c/\c<=maxLen/\HasP w' (NewB w.heap.size w'.heap.size) 2 A r.2.length ys/\EAsP w' (NewB w.heap.size w'.heap.size) ys r.2/\Below w.heap.size w w'
theorem nilY (w:World):(w.alloc (.cells #[] 9)).ownsRow w.heap.size 9 1 (.slice (some ⟨w.heap.size,0,none⟩) 0 0) 0 []:=
 zBo w #[] 9 0 (by unfold maxLen;omega) rfl
theorem zKc (L:List (List UInt8)):∀u∈strs L,u.oneCell'=true:=by
 intro u hu;obtain⟨x,_,rfl⟩:=List.mem_map.1 hu;rfl
structure CopyL (w w2 wx:World) (SN:ByteArray) (A:Option Addr) (n c:Nat) (Av:Option Addr) (i cv:Nat) (zs:List Value) (M:List EA):Prop where
 box:Blk wx w.heap.size [.string SN,.slice A n c]
 res:Blk wx (w.heap.size+1) [.string ⟨#[]⟩,.slice none 0 0]
 out:Blk wx (w.heap.size+2) [.string SN,.slice Av i cv]
 row:RowA wx w2.heap.size 76 (.slice Av i cv) zs M
 grown:w2.grownBy wx (some (w.heap.size+2))
theorem CopyL.grow {w w2 wx w':World} {SN:ByteArray} {A:Option Addr} {n c:Nat} {Av:Option Addr} {i cv:Nat} {zs:List Value} {M:List EA} (h:CopyL w w2 wx SN A n c Av i cv zs M) (hb:Below wx.heap.size wx w'):CopyL w w2 w' SN A n c Av i cv zs M:=
 ⟨h.box.grow hb,h.res.grow hb,h.out.grow hb,h.row.below hb,⟨hb.os.trans h.grown.os,hb.tape.trans h.grown.tape,hb.output.trans h.grown.output,Nat.le_trans h.grown.size hb.size,fun k hk hne=>(hb.block k (Nat.lt_of_lt_of_le hk h.grown.size)).trans (h.grown.block k hk hne)⟩⟩
theorem RowA.set {w:World} {base:Nat} {E:TypeId} {v:Value} {zs:List Value} {M:List EA} (h:RowA w base E v zs M) {h0:Nat} (hB:h0<base) (i:Nat) (u:Value):RowA (w.setCell ⟨h0,i,none⟩ u) base E v zs M:=by
 have hg:=zAo w h0 i u;refine⟨h.own.kept hg (.inr fun e=>by have:=(h.own.lt _ e).1;omega),h.attrs.move (fun p hp=>World.cell?_of_block (hg.block _ hp.2.1 (fun e=>by have:=Option.some.inj e;have:=hp.1;omega))) fun b hb=>⟨hb.1,Nat.lt_of_lt_of_le hb.2.1 hg.size,hb.2.2⟩⟩
theorem CopyL.next {w w2 wd w7:World} {SN:ByteArray} {A:Option Addr} {n c:Nat} {Av A7:Option Addr} {i cv c7 j:Nat} {zs ys:List Value} {M M':List EA} (h:CopyL w w2 wd SN A n c Av i cv zs M) (hs:w2.heap.size=w.heap.size+3) (hb:Below w2.heap.size wd w7) (hR:RowA w7 w2.heap.size 76 (.slice A7 j c7) ys M'):
  CopyL w w2 (w7.setCell ⟨w.heap.size+2,1,none⟩ (.slice A7 j c7)) SN A n c A7 j c7 ys M':=by
 have hg:=zAo w7 (w.heap.size+2) 1 (.slice A7 j c7);have ho:=(h.out.below (by omega) hb).set 1 (.slice A7 j c7) (by simp);refine⟨(h.box.below (by omega) hb).grown hg (fun e=>by have:=Option.some.inj e;omega),(h.res.below (by omega) hb).grown hg (fun e=>by have:=Option.some.inj e;omega),ho,hR.set (by omega) _ _,?_⟩;exact⟨hg.os.trans (hb.os.trans h.grown.os),hg.tape.trans (hb.tape.trans h.grown.tape),hg.output.trans (hb.output.trans h.grown.output),Nat.le_trans h.grown.size (Nat.le_trans hb.size hg.size),fun k hk hne=>(hg.block k (Nat.lt_of_lt_of_le hk (Nat.le_trans h.grown.size hb.size)) hne).trans ((hb.block k hk).trans (h.grown.block k hk hne))⟩
theorem CopyL.keep {w w2 wx w':World} {SN:ByteArray} {A:Option Addr} {n c:Nat} {Av:Option Addr} {i cv:Nat} {zs:List Value} {M:List EA} (h:CopyL w w2 wx SN A n c Av i cv zs M) (hb0:Below w.heap.size w w2) (hs:w2.heap.size=w.heap.size+3) (hb:Below wx.heap.size wx w')
  {g o:Nat} {a:EA} {U:Option Addr} {cu:Nat} (ha:EaAt w w.heap.size g o a U cu) (hg:g<w.heap.size):EaAt w' w.heap.size g o a U cu:=by
 have hB:Below w.heap.size w w':=by refine hb0.trans ⟨hb.os.trans h.grown.os,hb.tape.trans h.grown.tape,hb.output.trans h.grown.output,Nat.le_trans h.grown.size hb.size,fun k hk=>?_⟩;exact (hb.block k (by have:=h.grown.size;omega)).trans (h.grown.block k (by omega) (fun e=>by have:=Option.some.inj e;omega))
 exact ha.below hg hB
theorem Hs2w {w w1 w2:World} {o:Obj} (hb:Below w.heap.size w w2) (hw:w1.alloc o=w2) (hs:w1.heap.size=w.heap.size+2):w2.heap.size=w.heap.size+3:=by rw[<-hw];simp[hs]
theorem CopyL.told {w w1 w2 wx w':World} {SN:ByteArray} {A:Option Addr} {n c:Nat} {Av:Option Addr} {i cv:Nat} {zs:List Value} {L:List EA} {o:Obj} (h:CopyL w w2 wx SN A n c Av i cv zs L) (hn:i=L.length) (hb:Below w.heap.size w w2) (hs1:w1.heap.size=w.heap.size+2) (hw:w1.alloc o=w2)
  (hg:wx.grownBy w' (some (w.heap.size+1))):∃A' c' ys,Ending.returned (.agg #[.string SN,.slice Av i cv])=.returned (.agg #[.string SN,.slice A' L.length c'])/\L.length<=c'/\c'<=maxLen/\HasP w' (NewB w.heap.size w'.heap.size) 2 A' L.length ys/\EAsP w' (NewB w.heap.size w'.heap.size) ys L/\Below w.heap.size w w':=by
 have hs:=Hs2w hb hw hs1;subst hn;obtain⟨A',c',e,hc,hH⟩:=zA0 h.row.own;cases e;have hm:=zCl h.row.own;have hgs:=h.grown.size;have hq:∀p:Addr,(w2.heap.size<=p.block/\p.block<wx.heap.size)->w'.cell? p=wx.cell? p:=fun p hp=>World.cell?_of_block (hg.block _ hp.2 (fun e=>by have:=Option.some.inj e;have:=hp.1;omega))
 refine⟨Av,cv,zs,rfl,hc,hm,hH.move hq fun b hb2=>⟨by omega,Nat.lt_of_lt_of_le hb2.2 hg.size⟩,h.row.attrs.move (fun p hp=>hq p ⟨hp.1,hp.2.1⟩) fun b hb2=>⟨by omega,Nat.lt_of_lt_of_le hb2.2.1 hg.size⟩,?_⟩;refine hb.trans ⟨hg.os.trans h.grown.os,hg.tape.trans h.grown.tape,hg.output.trans h.grown.output,Nat.le_trans hgs hg.size,fun k hk=>?_⟩;exact (hg.block k (by omega) (fun e=>by have:=Option.some.inj e;omega)).trans (h.grown.block k (by omega) (fun e=>by have:=Option.some.inj e;omega))
theorem zH4 (nm:List UInt8) (L:List EA) (w:World) (A:Option Addr) (n c:Nat) (xs:List Value) (hA:Has w w.heap.size 2 A n xs) (hL:EAs w w.heap.size xs L) (hn:n<=1000000) (hvs:∀a∈L,a.2.length<=1000000):
  Calls Tryz.prog 22 #[.agg #[.string (txt nm),.slice A n c]] w (EntPost (nm,L) w):=by
 have hnl:=hA.eas_n hL;have hb1:=below1 w (.cells #[.string (txt nm),.slice A n c] 71);have hX:Blk (w.alloc (.cells #[.string (txt nm),.slice A n c] 71)) w.heap.size [.string (txt nm),.slice A n c]:=Blk.new w [.string (txt nm),.slice A n c] 71;obtain⟨w0,hw0⟩:∃w0,w.alloc (.cells #[.string (txt nm),.slice A n c] 71)=w0:=⟨_,rfl⟩;have hs0:w0.heap.size=w.heap.size+1:=by rw[<-hw0];simp
 rw[hw0] at hb1 hX;have hb2:=below1 w0 (.cells #[.string ⟨#[]⟩,.slice none 0 0] 71);have hY:Blk (w0.alloc (.cells #[.string ⟨#[]⟩,.slice none 0 0] 71)) w0.heap.size [.string ⟨#[]⟩,.slice none 0 0]:=Blk.new w0 [.string ⟨#[]⟩,.slice none 0 0] 71;obtain⟨w1,hw1⟩:∃w1,w0.alloc (.cells #[.string ⟨#[]⟩,.slice none 0 0] 71)=w1:=⟨_,rfl⟩;have hs1:w1.heap.size=w.heap.size+2:=by rw[<-hw1];simp[hs0]
 rw[hw1] at hb2 hY;rw[hs0] at hY;have hb3:=below1 w1 (.cells #[.string (txt nm),.slice none 0 0] 71);have hO:Blk (w1.alloc (.cells #[.string (txt nm),.slice none 0 0] 71)) w1.heap.size [.string (txt nm),.slice none 0 0]:=Blk.new w1 [.string (txt nm),.slice none 0 0] 71;obtain⟨w2,hw2⟩:∃w2,w1.alloc (.cells #[.string (txt nm),.slice none 0 0] 71)=w2:=⟨_,rfl⟩;have hs2:w2.heap.size=w.heap.size+3:=by rw[<-hw2];simp[hs1]
 rw[hw2] at hb3 hO;rw[hs1] at hO;have hbb:Below w.heap.size w w2:=(hb1.trans (hb2.mono (by omega))).trans (hb3.mono (by omega));have hC:CopyL w w2 w2 (txt nm) A n c none 0 0 [] []:=⟨(hX.grow hb2).grow hb3,hY.grow hb3,hO,RowA.start (World.ownsRow_nil _ _ _ _),World.grownBy.refl _ _⟩;have HC:=hide hC;have HB:=hide hbb;have HA:=hide hA;have HL:=hide hL;have HN:=hide hnl;have HV:=hide hvs;have Hw0:=hide hw0;have Hw1:=hide hw1;have Hw2:=hide hw2;have Hs0:=hide hs0;have Hs1:=hide hs1;have y0:=hX.cells 0 _ rfl;have Hsn:Hid (∃SN,txt nm=SN):=hide ⟨_,rfl⟩;clear hb1 hX hw0 hs0 hb2 hY hw1 hs1 hb3 hO hw2 hbb hC hA hL hnl hvs
 suffices H:Calls Tryz.prog 22 #[.agg #[.string (txt nm),.slice A n c]] w fun e w'=>Hid (EntPost (nm,L) w e w') from H.mono fun e w' h=>h.out
 obtain⟨SN,hSN⟩:=Hsn.out;rw[hSN] at HC Hw0 Hw2 y0 ⊢;have HSN:=hide hSN;clear hSN Hsn;go_enter Tryz.func22,Tryz.ntmps22;go_wp2_with fail;go_upto_region 1 with fail;rw[Hw0.out,Hw1.out];(try rw[Hs0.out]);go_upto_region 2 with fail;rw[Hw2.out];(try rw[Hs1.out]);have p1:=HC.out.box.cells 1 _ rfl;go_wp2
 go_loopg [11] n (fun q s11 wx=>∃(i:Nat) (Av:Option Addr) (cv:Nat) (zs:List Value),i+q=n/\s11=.int .i64 (i:Int)/\Hid (CopyL w w2 wx SN A n c Av i cv zs (L.take i)))
 case atStart=>exact⟨0,none,0,[],by omega,rfl,HC⟩
 case round=>
  obtain⟨i,Av,cv,zs,hig,rfl,HCl⟩:=hrel;clear p1;cases gk with
  | zero=>
   obtain rfl:i=n:=by omega
   have hiz:¬((i:Int)<(i:Int)):=by omega
   have h9:=HCl.out;rw[List.take_of_length_le (by rw[<-HN.out];exact Nat.le_refl _)] at h9;have x0:=h9.out.cells 0 _ rfl;have x1:=h9.out.cells 1 _ rfl;have H9:=hide h9;clear h9 HCl HC;go_wp2_with (refine storeB wr rfl 71 (.tmp 2) (.tmp 35) rfl (w.heap.size+1) 0 _ [.string SN,.slice Av i cv] rfl rfl H9.out.res (by simp) (by kernel_rfl) (by simp[Value.oneCell']) ?_);have hgs:=zBj (w.heap.size+1) [.string SN,.slice Av i cv] 0 wr;have hBz:=H9.out.res.sets 0 [.string SN,.slice Av i cv] (by simp) [.string SN,.slice Av i cv] (by simp);have hPost0:=H9.out.told HN.out HB.out Hs1.out Hw2.out hgs;have hPost:Hid (EntPost (nm,L) w (.returned (.agg #[.string SN,.slice Av i cv])) (wr.setCells (w.heap.size+1) 0 [.string SN,.slice Av i cv])):=hide ⟨by
    show ∃A c ys,_=Ending.returned (.agg #[.string (txt nm),.slice A L.length c])/\_
    rw[HSN.out]
    exact hPost0⟩
   clear hPost0;have HBz:=hide hBz;clear hgs hBz x0 x1 H9;generalize wr.setCells (w.heap.size+1) 0 [.string SN,.slice Av i cv]=wz at *;refine bodyPost_ret (v:=.agg #[.string SN,.slice Av i cv]) ?_ rfl ?_
   ·exact zBz rfl _ wz (w.heap.size+1) [.string SN,.slice Av i cv] _ rfl HBz.out.range Tryz.underlying71 rfl (by kernel_rfl)
   ·exact hPost
  | succ r=>
   have hi:i<n:=by omega
   have hiz:(i:Int)<(n:Int):=by omega
   obtain⟨a,ha⟩:∃a,L[i]?=some a:=⟨_,List.getElem?_eq_getElem (by rw[<-HN.out];exact hi)⟩;obtain⟨g,o,hAe,hg,hat⟩:=HA.out.ea HL.out (fun h=>by rw[h] at ha;simp at ha);subst hAe;obtain⟨U,cu,hat⟩:=hat i a ha;have hk6:=HV.out a (List.mem_of_getElem? ha);have hs2:=Hs2w HB.out Hw2.out Hs1.out;have hlt:i<L.length:=by rw[<-HN.out];exact hi
   have Htk:Hid (L.take (i+1)=L.take i++[a]):=hide (by rw[List.take_add_one,ha];rfl);have htl:(L.take i).length=i:=by rw[List.length_take];omega
   have hcl:=HCl.out;have hatr:EaAt wr.drew w.heap.size g (o+i*2) a U cu:=hcl.keep HB.out hs2 (Below.refl _ _).drew hat hg;obtain⟨TA,hTA⟩:∃TA,txt a.1=TA:=⟨_,rfl⟩;obtain⟨k,hk⟩:∃k,a.2.length=k:=⟨_,rfl⟩;have Hk:=hide (And.intro hTA hk);rw[hk] at hk6;have Hd:Hid (wr.drew.cell? ⟨g,o+i*2,none⟩=some (.string TA)/\wr.drew.cell? ⟨g,o+i*2+1,none⟩=some (.slice U k cu)):=hide ⟨by rw[<-hTA];exact hatr.e0,by rw[<-hk];exact hatr.e1⟩;have hwr:w.heap.size<=wr.drew.heap.size:=Nat.le_trans HB.out.size hcl.grown.size;have HVa0:Hid (Has wr.drew wr.drew.heap.size 1 U k (strs a.2)):=hide (by rw[<-hk];exact hatr.has.upto hwr);clear hat hatr hcl ha hTA hk HC;go_wp2_with fail;refine zBl wr.drew.heap.size (Value.slice Av i cv).ownBlock 20 (by kernel_rfl) ?_;have hdr:Below wr.heap.size wr wr.drew:=(Below.refl _ _).drew;have HCd:=hide (HCl.out.grow hdr);have HRd:=hide (HCl.out.row.below hdr);have HOd:=hide (HCd.out.out);have hsz:w2.heap.size<=wr.drew.heap.size:=HCl.out.grown.size;have hno:∀b,b<w2.heap.size->some b≠(Value.slice Av i cv).ownBlock:=fun b hb e=>by
    have:=(HCl.out.row.own.lt b e.symm).1;omega
   have X0:Hid (∀W,upBB wr.drew.heap.size (Value.slice Av i cv).ownBlock wr.drew W->W.cell? ⟨w.heap.size+2,1,none⟩=some (.slice Av i cv)/\W.cell? ⟨w.heap.size,1,none⟩=some (.slice (some ⟨g,o,none⟩) n c)/\W.cell? ⟨g,o+i*2,none⟩=some (.string TA)/\W.cell? ⟨g,o+i*2+1,none⟩=some (.slice U k cu)):=hide fun W hW=>by
    have hg9:g<w.heap.size:=hg;have hcd:=HCd.out;refine⟨(hW.cell (p:=⟨w.heap.size+2,1,none⟩) (show w.heap.size+2<_ by omega) (hno (w.heap.size+2) (by omega))).trans (hcd.out.cells 1 _ rfl),(hW.cell (p:=⟨w.heap.size,1,none⟩) (show w.heap.size<_ by omega) (hno w.heap.size (by omega))).trans (hcd.box.cells 1 _ rfl),?_,?_⟩
    ·exact (hW.cell (p:=⟨g,o+i*2,none⟩) (show g<_ by omega) (hno g (by omega))).trans Hd.out.1
    ·exact (hW.cell (p:=⟨g,o+i*2+1,none⟩) (show g<_ by omega) (hno g (by omega))).trans Hd.out.2
   have HVal:=hide (HVa0.out);clear hdr hno HCl Hd HVa0;generalize wr.drew=wd at *;refine zAb 0 (some 14) rfl rfl (by kernel_rfl) rfl (by kernel_rfl) (by rfl) (fun W hW=>by go_simp<;>with_reducible rfl) ?_;(try simp only[pUz]);refine zAb 1 (some 15) (v:=?va1) rfl rfl (by kernel_rfl) rfl (by kernel_rfl) (by rfl) (fun W hW=>?ya1) ?_
   case ya1=>have k0:=(X0.out W hW).1;go_simp<;>with_reducible rfl
   (try simp only[pUz]);refine zAb 2 (some 16) rfl rfl (by kernel_rfl) rfl (by kernel_rfl) (by rfl) (fun W hW=>by go_simp<;>with_reducible rfl) ?_;(try simp only[pUz]);refine zAb 3 (some 17) (v:=?va3) rfl rfl (by kernel_rfl) rfl (by kernel_rfl) (by rfl) (fun W hW=>?ya3) ?_
   case ya3=>have k0:=(X0.out W hW).2.1;go_simp<;>with_reducible rfl
   (try simp only[pUz]);refine zAb 4 (some 18) rfl rfl (by kernel_rfl) rfl (by kernel_rfl) (by rfl) (fun W hW=>by go_simp<;>with_reducible rfl) ?_;(try simp only[pUz]);refine zAb 5 (some 19) rfl rfl (by kernel_rfl) rfl (by kernel_rfl) (by rfl) (fun W hW=>by go_simp<;>with_reducible rfl) ?_;(try simp only[pUz]);refine zAb 6 (some 20) rfl rfl (by kernel_rfl) rfl (by kernel_rfl) (by rfl) (fun W hW=>by go_simp<;>with_reducible rfl) ?_;(try simp only[pUz]);refine zAb 7 (some 21) (v:=?va7) rfl rfl (by kernel_rfl) rfl (by kernel_rfl) (by rfl) (fun W hW=>?ya7) ?_
   case ya7=>have k0:=(X0.out W hW).2.2.1;go_simp<;>with_reducible rfl
   (try simp only[pUz]);refine zAb 9 (some 23) rfl rfl (by kernel_rfl) rfl (by kernel_rfl) (by rfl) (fun W hW=>by go_simp<;>with_reducible rfl) ?_;(try simp only[pUz]);refine zAb 10 (some 24) (v:=?va10) rfl rfl (by kernel_rfl) rfl (by kernel_rfl) (by rfl) (fun W hW=>?ya10) ?_
   case ya10=>have k0:=(X0.out W hW).2.1;go_simp<;>with_reducible rfl
   (try simp only[pUz]);refine zAb 11 (some 25) rfl rfl (by kernel_rfl) rfl (by kernel_rfl) (by rfl) (fun W hW=>by go_simp<;>with_reducible rfl) ?_;(try simp only[pUz]);refine zAb 12 (some 26) rfl rfl (by kernel_rfl) rfl (by kernel_rfl) (by rfl) (fun W hW=>by go_simp<;>with_reducible rfl) ?_;(try simp only[pUz]);refine zAb 13 (some 27) rfl rfl (by kernel_rfl) rfl (by kernel_rfl) (by rfl) (fun W hW=>by go_simp<;>with_reducible rfl) ?_;(try simp only[pUz]);refine zAb 14 (some 28) (v:=?va14) rfl rfl (by kernel_rfl) rfl (by kernel_rfl) (by rfl) (fun W hW=>?ya14) ?_
   case ya14=>have k0:=(X0.out W hW).2.2.2;go_simp<;>with_reducible rfl
   (try simp only[pUz]);refine zAk 8 rfl (by kernel_rfl) (fun K hK=>?_);go_simp;have hba:=below1 wd (.cells #[] 9);refine hK.out _ _ (fun _=>zA1 _ (Nat.le_refl _) hba) ?_;have hnil:=nilY wd;have hs1:=hba.size;clear hK K;(try simp only[pUz]);refine zAk 15 rfl (by kernel_rfl) (fun K hK=>?_);refine stepE _ 64 9 _ 1 16 Tryz.underlying64 infoS rfl (by omega) (by omega) (some 29) rfl rfl (.tmp 22) (.tmp 28) rfl wd.heap.size _ 0 [] rfl hnil wd.heap.size U k _ (strs a.2) rfl ((HVal.out).below hba) (zKc a.2) (by omega) hs1 ?_;intro v5 w5 hown5 hb5 hg5 ht5;refine hK.out _ _ (fun _=>zF2 _ hb5) ?_;obtain⟨A5,c5,rfl,hc5,hP5⟩:=zA0 hown5;have hm5:=zCl hown5;have H5:=hide (And.intro hc5 (And.intro hm5 (And.intro hP5 (hba.trans hb5))));simp only[Nat.zero_add,List.nil_append] at H5 ⊢;clear hK K hown5 hb5 hg5 ht5 hc5 hP5 hm5 hnil hs1 hba;(try simp only[pUz]);refine zAb 16 (some 30) rfl rfl (by kernel_rfl) rfl (by kernel_rfl) (by rfl) (fun W hW=>by go_simp<;>with_reducible rfl) ?_;(try simp only[pUz]);refine zAk 17 rfl (by kernel_rfl) (fun K hK=>?_);go_simp;have hbc:=below1 w5 (.cells #[.string TA,.slice A5 k c5] 76);refine hK.out _ _ (fun _=>zA1 _ H5.out.2.2.2.size hbc) ?_;have hlit:=litY w5 (.string TA) (.slice A5 k c5) 76 rfl rfl;have hown6:=zAc (zAc HRd.out.own H5.out.2.2.2) hbc;have hs6:w2.heap.size<=(w5.alloc (.cells #[.string TA,.slice A5 k c5] 76)).heap.size:=Nat.le_trans hsz (Nat.le_trans H5.out.2.2.2.size hbc.size);have h1c:∀u∈([.string TA,.slice A5 k c5]:List Value),u.oneCell'=true:=by simp[Value.oneCell']
   clear hK K;(try simp only[pUz]);refine zAk 18 rfl (by kernel_rfl) (fun K hK=>?_);refine stepE _ 69 76 _ 2 40 Tryz.underlying69 infoEA rfl (by omega) (by omega) (some 32) rfl rfl (.tmp 15) (.tmp 31) rfl w2.heap.size _ _ zs rfl hown6 _ _ 1 1 [.string TA,.slice A5 k c5] rfl (Has.own hlit) h1c (by rw[htl];omega) hs6 ?_;intro v7 w7 hown7 hb7 hg7 ht7;refine hK.out _ _ (fun _=>zCx (Nat.le_trans H5.out.2.2.2.size hbc.size) hg7) ?_;have HR7:Hid (RowA w7 w2.heap.size 76 v7 (zs++[.string TA,.slice A5 k c5]) (L.take (i+1))):=hide (by
    rw[Htk.out]
    obtain⟨hta,hkk⟩:=Hk.out
    subst hta hkk
    have hR:=HRd.out.more (a:=a) hsz H5.out.2.2.2 H5.out.1 H5.out.2.1 H5.out.2.2.1 _ hown7 hg7 ht7
    exact hR)
   have HB7:=hide ((H5.out.2.2.2.mono hsz).trans ((hbc.mono (Nat.le_trans hsz H5.out.2.2.2.size)).trans hb7));rw[htl] at hown7;obtain⟨A7,c7,rfl,_,_⟩:=zAg hown7;clear hK K hown7 hb7 hg7 ht7 hown6 hs6 h1c hlit hbc H5;(try simp only[pUz]);have HO7:=hide (HOd.out.below (by omega) HB7.out);refine zAb 19 (some 33) rfl rfl (by kernel_rfl) rfl (by kernel_rfl) (by rfl) (fun W hW=>by go_simp<;>with_reducible rfl) ?_;(try simp only[pUz]);refine zAk 20 rfl (by kernel_rfl) (fun K hK=>?_);have cm:=(HO7.out).cells 1 _ rfl;have fm:=(HO7.out).fz 1;go_simp;refine hK.out _ _ (fun h=>absurd rfl h) ?_;clear hK K cm fm;(try simp only[pUz]);refine zDg (by kernel_rfl) ?_ _;have HC9:=hide (HCd.out.next hs2 HB7.out HR7.out);clear HO7 HB7 HR7 HCd HRd HOd HVal hsz;go_wp2
   go_roundg r
   case measure=>omega
   case rel=>exact⟨i+1,_,_,_,by omega,by go_num,HC9⟩
end Go.Proofs.YtlfglibcggphjaaGreatDoor
