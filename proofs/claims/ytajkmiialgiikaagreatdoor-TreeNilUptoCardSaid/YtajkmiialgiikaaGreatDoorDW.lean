/- Several texts in one: DSet, DSetM, DSetW, RMakM. By an AI agent. -/
import Derived.Test.YtajkmiialgiikaaGreatDoorDX
import Derived.Test.YtajkmiialgiikaaGreatDoorEX
import Derived.Test.YtajkmiialgiikaaGreatDoorGrow
import Derived.Test.YtajkmiialgiikaaGreatDoorEY
import Derived.Test.YtajkmiialgiikaaGreatDoorEN
import Derived.Test.YtajkmiialgiikaaGreatDoorDM
set_option linter.unusedSimpArgs false
set_option linter.unusedVariables false
set_option maxRecDepth 100000
set_option maxHeartbeats 64000000
namespace Go.Proofs.YtajkmiialgiikaaGreatDoor
open Go.RowKit
def stepS (t:List UInt8) (vs:List (List UInt8)) (st:Bool × List EA) (a:EA):Bool × List EA:=
 let s1:Bool × List EA:=if st.1=false/\¬a.1<t then (true,st.2++[(t,vs)]) else st
 if a.1=t then s1 else (s1.1,s1.2++[a])
def endS (t:List UInt8) (vs:List (List UInt8)) (st:Bool × List EA):List EA:=if st.1=true then st.2 else st.2++[(t,vs)]
theorem zCg (t:List UInt8) (vs:List (List UInt8)):∀(L acc:List EA),L.foldl (stepS t vs) (true,acc)=(true,acc++L.filter fun b=>decide (b.1≠t))
 | [],acc=>by simp
 | a::L,acc=>by
  rw[List.foldl_cons];by_cases h:a.1=t
  ·have:stepS t vs (true,acc) a=(true,acc):=by unfold stepS;simp[h]
   rw[this,zCg t vs L acc,List.filter_cons_of_neg (by simpa using h)]
  ·have:stepS t vs (true,acc) a=(true,acc++[a]):=by unfold stepS;simp[h]
   rw[this,zCg t vs L (acc++[a]),List.filter_cons_of_pos (by simpa using h),List.append_assoc];rfl
theorem zLg (t:List UInt8) (vs:List (List UInt8)):∀(L acc:List EA),endS t vs (L.foldl (stepS t vs) (false,acc))=acc++insE L t vs
 | [],acc=>by simp[endS,insE]
 | a::L,acc=>by
  rw[List.foldl_cons];by_cases hl:a.1<t
  ·have hne:a.1≠t:=fun q=>by rw[q] at hl;exact List.lt_irrefl t hl
   have:stepS t vs (false,acc) a=(false,acc++[a]):=by unfold stepS;simp[hl,hne]
   rw[this,zLg t vs L (acc++[a])];simp[insE,hl]
  ·by_cases h:a.1=t
   ·have:stepS t vs (false,acc) a=(true,acc++[(t,vs)]):=by unfold stepS;simp[h,List.lt_irrefl]
    rw[this,zCg];unfold endS insE;rw[if_pos rfl,if_neg hl,List.filter_cons_of_neg (by simpa using h)];simp
   ·have:stepS t vs (false,acc) a=(true,acc++[(t,vs)]++[a]):=by unfold stepS;simp[h,hl]
    rw[this,zCg];unfold endS insE;rw[if_pos rfl,if_neg hl,List.filter_cons_of_pos (by simpa using h)];simp
theorem fold_set (L:List EA) (t:List UInt8) (vs:List (List UInt8)):endS t vs (L.foldl (stepS t vs) (decide (vs=[]),[]))=setE L t vs:=by
 unfold setE;by_cases h:vs=[]
 ·rw [if_pos h,show decide (vs=[])=true by simp[h],zCg];unfold endS;simp
 ·rw [if_neg h,show decide (vs=[])=false by simp[h],zLg];simp
def setAt (L:List EA) (t:List UInt8) (vs:List (List UInt8)) (i:Nat):Bool × List EA:=(L.take i).foldl (stepS t vs) (decide (vs=[]),[])
theorem zGg {L:List EA} {i:Nat} {a:EA} (h:L[i]?=some a) (t:List UInt8) (vs:List (List UInt8)):setAt L t vs (i+1)=stepS t vs (setAt L t vs i) a:=by
 unfold setAt;rw[List.take_add_one,h];simp
theorem zFy (L:List EA) (t:List UInt8) (vs:List (List UInt8)) (i:Nat):(setAt L t vs i).2.length<=i+1/\((setAt L t vs i).1=false->(setAt L t vs i).2.length<=i):=by
 induction i with
 | zero=>unfold setAt;simp
 | succ i ih=>
  cases ha:L[i]? with
  | none=>
   have:setAt L t vs (i+1)=setAt L t vs i:=by unfold setAt;rw[List.take_add_one,ha];simp
   rw[this];exact⟨by omega,fun q=>by have:=ih.2 q;omega⟩
  | some a=>
   rw[zGg ha];generalize setAt L t vs i=st at *;obtain⟨l,o⟩:=st;have ih1:o.length<=i+1:=ih.1;have ih2:l=false->o.length<=i:=ih.2;clear ih;unfold stepS;cases l
   ·have:=ih2 rfl;by_cases h1:a.1<t<;>by_cases h2:a.1=t<;>simp[h1,h2]<;>omega
   ·by_cases h2:a.1=t<;>simp[h2]<;>omega
open Go Go.RowKit
structure SetL (w w2 wx:World) (SN:ByteArray) (A:Option Addr) (n c:Nat) (Av:Option Addr) (m cv:Nat) (zs:List Value):Prop where
 box:Blk wx w.heap.size [.string SN,.slice A n c]
 res:Blk wx (w.heap.size+1) [.string ⟨#[]⟩,.slice none 0 0]
 out:Blk wx (w.heap.size+2) [.string SN,.slice Av m cv]
 row:wx.ownsRow w2.heap.size 60 2 (.slice Av m cv) m zs
 grown:w2.grownBy wx (some (w.heap.size+2))
theorem SetL.grow {w w2 wx w':World} {SN:ByteArray} {A:Option Addr} {n c:Nat} {Av:Option Addr} {m cv:Nat} {zs:List Value} (h:SetL w w2 wx SN A n c Av m cv zs) (hb:Below wx.heap.size wx w'):SetL w w2 w' SN A n c Av m cv zs:=
 ⟨h.box.grow hb,h.res.grow hb,h.out.grow hb,zAe h.row hb,⟨hb.os.trans h.grown.os,hb.tape.trans h.grown.tape,hb.output.trans h.grown.output,Nat.le_trans h.grown.size hb.size,fun k hk hne=>(hb.block k (Nat.lt_of_lt_of_le hk h.grown.size)).trans (h.grown.block k hk hne)⟩⟩
theorem SetL.next {w w2 wd w7:World} {SN:ByteArray} {A:Option Addr} {n c:Nat} {Av A7:Option Addr} {m cv c7 j:Nat} {zs ys:List Value} (h:SetL w w2 wd SN A n c Av m cv zs) (hs:w2.heap.size=w.heap.size+3) (hb:Below w2.heap.size wd w7) (hR:w7.ownsRow w2.heap.size 60 2 (.slice A7 j c7) j ys):
  SetL w w2 (w7.setCell ⟨w.heap.size+2,1,none⟩ (.slice A7 j c7)) SN A n c A7 j c7 ys:=by
 have hg:=zBd w7 (w.heap.size+2) 1 (.slice A7 j c7);have ho:=(h.out.below (by omega) hb).set 1 (.slice A7 j c7) (by simp);refine⟨(h.box.below (by omega) hb).grown hg (fun e=>by have:=Option.some.inj e;omega),(h.res.below (by omega) hb).grown hg (fun e=>by have:=Option.some.inj e;omega),ho,hR.kept hg (.inr fun e=>by have:=(hR.lt _ e).1;omega),?_⟩;exact⟨hg.os.trans (hb.os.trans h.grown.os),hg.tape.trans (hb.tape.trans h.grown.tape),hg.output.trans (hb.output.trans h.grown.output),Nat.le_trans h.grown.size (Nat.le_trans hb.size hg.size),fun k hk hne=>(hg.block k (Nat.lt_of_lt_of_le hk (Nat.le_trans h.grown.size hb.size)) hne).trans ((hb.block k hk).trans (h.grown.block k hk hne))⟩
theorem SetL.keep {w w2 wx:World} {SN:ByteArray} {A:Option Addr} {n c:Nat} {Av:Option Addr} {m cv:Nat} {zs:List Value} (h:SetL w w2 wx SN A n c Av m cv zs) (hb0:Below w.heap.size w w2) (hs:w2.heap.size=w.heap.size+3):Below w.heap.size w wx:=by
 refine hb0.trans ⟨h.grown.os,h.grown.tape,h.grown.output,h.grown.size,fun k hk=>h.grown.block k (by omega) (fun e=>by have:=Option.some.inj e;omega)⟩
structure SetPost (P:Nat->Prop) (SN:ByteArray) (R:List EA) (w:World) (e:Ending) (w':World):Prop where
 out:∃A c ys,e=.returned (.agg #[.string SN,.slice A R.length c])/\R.length<=c/\c<=maxLen/\HasP w' (NewB w.heap.size w'.heap.size) 2 A R.length ys/\EAsP w' P ys R/\Below w.heap.size w w'
theorem Has.eaP {w:World} {B n:Nat} {P:Nat->Prop} {A:Option Addr} {xs:List Value} {L:List EA} (h:Has w B 2 A n xs) (hL:EAsP w P xs L) (hn:L≠[]):
  ∃g o,A=some ⟨g,o,none⟩/\g<B/\∀(i:Nat) (a:EA),L[i]?=some a->∃V c,w.cell? ⟨g,o+i*2,none⟩=some (.string (txt a.1))/\w.cell? ⟨g,o+i*2+1,none⟩=some (.slice V a.2.length c)/\a.2.length<=c/\c<=maxLen/\HasP w P 1 V a.2.length (strs a.2):=by
 have hp:=List.length_pos_iff.2 hn;obtain⟨g,o,rfl,hg,hc⟩:=h.lies (by rw[hL.len];omega);refine⟨g,o,rfl,hg,fun i a ha=>?_⟩;obtain⟨V,c,h1,h2,k1,k2,h3⟩:=hL.each i a ha;exact⟨V,c,hc _ _ h1,by have:=hc _ _ h2;rwa [<-Nat.add_assoc] at this,k1,k2,h3⟩
theorem SetL.told2 {w w2 wx w':World} {SN:ByteArray} {A:Option Addr} {n c:Nat} {Av:Option Addr} {m cv:Nat} {zs:List Value} {R:List EA} {P:Nat->Prop} (h:SetL w w2 wx SN A n c Av m cv zs) (hP:∀b,P b->b<w.heap.size) (hE:EAsP w P zs R) (hm:m=R.length) (hb:Below w.heap.size w w2) (hs:w2.heap.size=w.heap.size+3)
  (hg:wx.grownBy w' (some (w.heap.size+1))):SetPost P SN R w (.returned (.agg #[.string SN,.slice Av m cv])) w':=by
 subst hm;obtain⟨A',c',e,hc,hH⟩:=zCm h.row;cases e;have hmx:=zBl h.row;have hgs:=h.grown.size;have hk:=h.keep hb hs;have hq:∀p:Addr,(w2.heap.size<=p.block/\p.block<wx.heap.size)->w'.cell? p=wx.cell? p:=fun p hp=>World.cell?_of_block (hg.block _ hp.2 (fun e=>by have:=Option.some.inj e;have:=hp.1;omega))
 have hk2:Below w.heap.size w w':=hk.trans ⟨hg.os,hg.tape,hg.output,hg.size,fun b hb=>hg.block b (by have:=hk.size;omega) (fun e=>by have:=Option.some.inj e;omega)⟩;exact⟨Av,cv,zs,rfl,hc,hmx,(hH.move hq fun b hb=>⟨Nat.le_trans (by omega) hb.1,Nat.lt_of_lt_of_le hb.2 hg.size⟩:HasP w' (NewB w.heap.size w'.heap.size) 2 Av R.length zs),hE.move (fun p hp=>hk2.cell (hP _ hp)) fun b hb=>hb,hk2⟩
theorem rset_any (P:Nat->Prop) (nm:List UInt8) (L:List EA) (t:List UInt8) (vs:List (List UInt8)) (w:World) (hP:∀b,P b->b<w.heap.size) (A:Option Addr) (n c:Nat) (xs:List Value) (hA:Has w w.heap.size 2 A n xs) (hL:EAsP w P xs L) (hn:n<=1000000) (U:Option Addr) (cu:Nat) (hU:HasP w P 1 U vs.length (strs vs)) (hcu:vs.length<=cu) (hmu:cu<=maxLen) (hvn:vs.length<=1000000):
  Calls Tryz.prog 128 #[.agg #[.string (txt nm),.slice A n c],.string (txt t),.slice U vs.length cu] w (SetPost P (txt nm) (setE L t vs) w):=by
 have hnl:=hA.eas_n (hL.eas hP);have HPb:=hide hP;have hb1:=below1 w (.cells #[.string (txt nm),.slice A n c] 38);have hX:Blk (w.alloc (.cells #[.string (txt nm),.slice A n c] 38)) w.heap.size [.string (txt nm),.slice A n c]:=Blk.new w [.string (txt nm),.slice A n c] 38;obtain⟨w0,hw0⟩:∃w0,w.alloc (.cells #[.string (txt nm),.slice A n c] 38)=w0:=⟨_,rfl⟩;have hs0:w0.heap.size=w.heap.size+1:=by rw[<-hw0];simp
 rw[hw0] at hb1 hX;have hb2:=below1 w0 (.cells #[.string ⟨#[]⟩,.slice none 0 0] 38);have hY:Blk (w0.alloc (.cells #[.string ⟨#[]⟩,.slice none 0 0] 38)) w0.heap.size [.string ⟨#[]⟩,.slice none 0 0]:=Blk.new w0 [.string ⟨#[]⟩,.slice none 0 0] 38;obtain⟨w1,hw1⟩:∃w1,w0.alloc (.cells #[.string ⟨#[]⟩,.slice none 0 0] 38)=w1:=⟨_,rfl⟩;have hs1:w1.heap.size=w.heap.size+2:=by rw[<-hw1];simp[hs0]
 rw[hw1] at hb2 hY;rw[hs0] at hY;have hb3:=below1 w1 (.cells #[.string (txt nm),.slice none 0 0] 38);have hO:Blk (w1.alloc (.cells #[.string (txt nm),.slice none 0 0] 38)) w1.heap.size [.string (txt nm),.slice none 0 0]:=Blk.new w1 [.string (txt nm),.slice none 0 0] 38;obtain⟨w2,hw2⟩:∃w2,w1.alloc (.cells #[.string (txt nm),.slice none 0 0] 38)=w2:=⟨_,rfl⟩;have hs2:w2.heap.size=w.heap.size+3:=by rw[<-hw2];simp[hs1]
 rw[hw2] at hb3 hO;rw[hs1] at hO;have hbb:Below w.heap.size w w2:=(hb1.trans (hb2.mono (by omega))).trans (hb3.mono (by omega));have hC:SetL w w2 w2 (txt nm) A n c none 0 0 []:=⟨(hX.grow hb2).grow hb3,hY.grow hb3,hO,World.ownsRow_nil _ _ _ _,World.grownBy.refl _ _⟩;have hend:=fold_set L t vs;have HC:=hide hC;have HB:=hide hbb;have HA:=hide hA;have HL:=hide hL;have HN:=hide hnl;have Hw0:=hide hw0;have Hw1:=hide hw1;have Hw2:=hide hw2;have Hs0:=hide hs0;have Hs1:=hide hs1;have Hs2:=hide hs2;have Hend:=hide hend;obtain⟨k,hk⟩:∃k,vs.length=k:=⟨_,rfl⟩;rw[hk] at hU hcu hvn;have Hk:=hide hk;have HU:=hide (And.intro hcu (And.intro hmu hU));have y0:=hX.cells 0 _ rfl;have hemp:decide (vs=[])=decide (k=0):=by rw[<-hk];cases vs<;>simp
 have Hst0:Hid (setAt L t vs 0=(decide (k=0),[])):=hide (by unfold setAt;rw[<-hemp];rfl);have Hsn:Hid (∃SN,txt nm=SN):=hide ⟨_,rfl⟩;clear hb1 hX hw0 hs0 hb2 hY hw1 hs1 hb3 hO hw2 hs2 hbb hC hA hL hnl hend hU hcu hmu hemp;rw[hk];clear hk;obtain⟨SN,hSN⟩:=Hsn.out;rw[hSN] at HC Hw0 Hw2 y0 ⊢;clear hSN Hsn;obtain⟨TT1,hTT⟩:∃x,txt t=x:=⟨_,rfl⟩;rw[hTT];have HTT:=hide hTT;clear hTT
 suffices H:Calls Tryz.prog 128 #[.agg #[.string SN,.slice A n c],.string TT1,.slice U k cu] w fun e w'=>Hid (SetPost P SN (setE L t vs) w e w') from H.mono fun e w' h=>h.out
 have q0:(((k:Nat):Int)==0)=decide (k=0):=by
  by_cases h:k=0
  ·subst h;rfl
  ·rw [decide_eq_false h];exact beq_false_of_ne (by omega)
 go_enter Tryz.func128,Tryz.ntmps128;go_wp2_with fail;go_upto_region 1 with fail;rw[Hw0.out,Hw1.out];(try rw[Hs0.out]);go_upto_region 2 with fail;rw[Hw2.out];(try rw[Hs1.out]);(try rw[show w.heap.size+1+1=w.heap.size+2 from rfl]);have p1:=HC.out.box.cells 1 _ rfl;go_wp2
 go_loopg [8,19] n (fun q s8 s19 wx=>∃(i:Nat) (Av:Option Addr) (m cv:Nat) (zs:List Value),i+q=n/\s19=.int .i64 (i:Int)/\s8=.bool (setAt L t vs i).1/\Hid (m=(setAt L t vs i).2.length)/\Hid (SetL w w2 wx SN A n c Av m cv zs)/\Hid (EAsP w P zs (setAt L t vs i).2))
 case atStart=>exact⟨0,none,0,0,[],by omega,rfl,by rw[Hst0.out],hide (by rw[Hst0.out];rfl),HC,hide (by rw[Hst0.out];exact EAsP.nil)⟩
 case round=>
  obtain⟨i,Av,m,cv,zs,hig,rfl,rfl,HM,HCl,HEs⟩:=hrel;clear p1 HC Hst0 q0 y0 Hw0 Hw1 Hw2;cases gk with
  | zero=>
   obtain rfl:i=n:=by omega
   have hiz:¬((i:Int)<(i:Int)):=by omega
   have hfin:endS t vs (setAt L t vs i)=setE L t vs:=by rw[<-Hend.out];unfold setAt;rw[List.take_of_length_le (by rw[<-HN.out];exact Nat.le_refl _)]
   have hml:=(zFy L t vs i).1;obtain⟨st,hst⟩:∃st,setAt L t vs i=st:=⟨_,rfl⟩;rw[hst] at hfin HM HEs hml;rw[hst];obtain⟨ld,acc⟩:=st;simp only at hfin HM HEs hml ⊢;have hm9:m<=1000001:=by have:=HM.out;omega
   cases ld with
   | true=>
    have hR:Hid (setE L t vs=acc):=hide (by rw[<-hfin];rfl);have x0:=HCl.out.out.cells 0 _ rfl;have x1:=HCl.out.out.cells 1 _ rfl;clear hfin hst HA HL HN Hend;go_wp2_with (refine storeB wr rfl 38 (.tmp 6) (.tmp 71) rfl (w.heap.size+1) 0 _ [.string SN,.slice Av m cv] rfl rfl HCl.out.res (by simp) (by kernel_rfl) (by simp[Value.oneCell']) ?_);have hgs:=zBi (w.heap.size+1) [.string SN,.slice Av m cv] 0 wr;have hBz:=HCl.out.res.sets 0 [.string SN,.slice Av m cv] (by simp) [.string SN,.slice Av m cv] (by simp);have hPost:Hid (SetPost P SN (setE L t vs) w (.returned (.agg #[.string SN,.slice Av m cv])) (wr.setCells (w.heap.size+1) 0 [.string SN,.slice Av m cv])):=hide (by
     rw[hR.out]
     exact HCl.out.told2 HPb.out HEs.out HM.out HB.out Hs2.out hgs)
    have HBz:=hide hBz;clear hgs hBz x0 x1 HCl HEs hR;generalize wr.setCells (w.heap.size+1) 0 [.string SN,.slice Av m cv]=wz at *;refine bodyPost_ret (v:=.agg #[.string SN,.slice Av m cv]) ?_ rfl ?_
    ·exact zB6 rfl _ wz (w.heap.size+1) [.string SN,.slice Av m cv] _ rfl HBz.out.range Tryz.underlying38 rfl (by kernel_rfl)
    ·exact hPost
   | false=>
    have hR:Hid (setE L t vs=acc++[(t,vs)]):=hide (by rw[<-hfin];rfl);clear hfin hst HA HL HN Hend;have hbc:=below1 wr (.cells #[.string TT1,.slice U k cu] 60);have hlit:=litY wr (.string TT1) (.slice U k cu) 60 rfl rfl;have hown6:=zAe HCl.out.row hbc;have hs6:w2.heap.size<=(wr.alloc (.cells #[.string TT1,.slice U k cu] 60)).heap.size:=Nat.le_trans HCl.out.grown.size hbc.size;have h1c:∀u∈([.string TT1,.slice U k cu]:List Value),u.oneCell'=true:=by simp[Value.oneCell']
    have o1:=HCl.out.out.cells 1 _ rfl;go_wp2_with (at_builtin;go_must (refine appN _ 36 60 _ 2 40 Tryz.underlying36 infoEA rfl (by omega) (by omega) rfl (.tmp 64) (.tmp 68) rfl w2.heap.size _ _ zs rfl hown6 _ _ 1 1 [.string TT1,.slice U k cu] rfl (Has.own hlit) h1c (by omega) hs6 ?_));intro v7 w7 hown7 hb7 hg7 ht7;obtain⟨A7,c7,rfl,_,_⟩:=zAh hown7;have hB7:Below w2.heap.size wr w7:=(hbc.mono HCl.out.grown.size).trans hb7;have HC7:=hide (HCl.out.next Hs2.out hB7 hown7);have hO7:=HCl.out.out.below (by have:=Hs2.out;omega) hB7;have cm:=hO7.cells 1 _ rfl;have fm:=hO7.fz 1;have HE7:=hide (EAsP.snoc (a:=(t,vs)) HEs.out (by rw[Hk.out];exact HU.out.1) HU.out.2.1 (by rw[Hk.out];exact HU.out.2.2));rw[HTT.out,Hk.out] at HE7;clear hbc hlit hown6 hs6 h1c o1 hown7 hb7 hg7 ht7 hB7 hO7 HCl HEs;go_upto_region 14 with fail;clear cm fm;obtain⟨wy,hwy⟩:∃x,w7.setCell ⟨w.heap.size+2,1,none⟩ (.slice A7 (m+1) c7)=x:=⟨_,rfl⟩;rw[hwy] at HC7 ⊢;clear hwy;have x0:=HC7.out.out.cells 0 _ rfl;have x1:=HC7.out.out.cells 1 _ rfl;go_wp2_with (refine storeB wy rfl 38 (.tmp 6) (.tmp 71) rfl (w.heap.size+1) 0 _ [.string SN,.slice A7 (m+1) c7] rfl rfl HC7.out.res (by simp) (by kernel_rfl) (by simp[Value.oneCell']) ?_);have hgs:=zBi (w.heap.size+1) [.string SN,.slice A7 (m+1) c7] 0 wy;have hBz:=HC7.out.res.sets 0 [.string SN,.slice A7 (m+1) c7] (by simp) [.string SN,.slice A7 (m+1) c7] (by simp);have hPost:Hid (SetPost P SN (setE L t vs) w (.returned (.agg #[.string SN,.slice A7 (m+1) c7])) (wy.setCells (w.heap.size+1) 0 [.string SN,.slice A7 (m+1) c7])):=hide (by
     rw[hR.out]
     exact HC7.out.told2 HPb.out HE7.out (by simp[HM.out]) HB.out Hs2.out hgs)
    have HBz:=hide hBz;clear hgs hBz x0 x1 HC7 HE7 hR;generalize wy.setCells (w.heap.size+1) 0 [.string SN,.slice A7 (m+1) c7]=wz at *;refine bodyPost_ret (v:=.agg #[.string SN,.slice A7 (m+1) c7]) ?_ rfl ?_
    ·exact zB6 rfl _ wz (w.heap.size+1) [.string SN,.slice A7 (m+1) c7] _ rfl HBz.out.range Tryz.underlying38 rfl (by kernel_rfl)
    ·exact hPost
  | succ r=>
   have hi:i<n:=by omega
   have hiz:(i:Int)<(n:Int):=by omega
   obtain⟨a,ha⟩:∃a,L[i]?=some a:=⟨_,List.getElem?_eq_getElem (by rw[<-HN.out];exact hi)⟩;obtain⟨g,o,hAe,hg,hat⟩:=HA.out.eaP HL.out (fun h=>by rw[h] at ha;simp at ha);subst hAe;obtain⟨V,ca,k0,k1,k2,k3,k4⟩:=hat i a ha;have hsucc:=zGg ha t vs;have hml:=zFy L t vs i;have hml2:=(zFy L t vs (i+1)).1;obtain⟨st,hst⟩:∃st,setAt L t vs i=st:=⟨_,rfl⟩;rw[hst] at hsucc HM HEs hml;rw[hst];obtain⟨ld,acc⟩:=st;simp only at hsucc HM HEs hml ⊢;have hm9:m<=1000001:=by have:=HM.out;omega
   obtain⟨TA,hTA⟩:∃TA,txt a.1=TA:=⟨_,rfl⟩;obtain⟨ka,hka⟩:∃ka,a.2.length=ka:=⟨_,rfl⟩;have HTA:=hide hTA;have Hka:=hide hka;have Hg:=hide hg;have He0:Hid (w.cell? ⟨g,o+i*2,none⟩=some (.string TA)):=hide (by rw[<-hTA];exact k0);have He1:Hid (w.cell? ⟨g,o+i*2+1,none⟩=some (.slice V ka ca)):=hide (by rw[<-hka];exact k1);have HV:=hide (And.intro k2 (And.intro k3 k4));rw[hka] at HV;have hkp:=HCl.out.keep HB.out Hs2.out;have e0:=(hkp.cell (p:=⟨g,o+i*2,none⟩) hg).trans He0.out;have e1:=(hkp.cell (p:=⟨g,o+i*2+1,none⟩) hg).trans He1.out;have b1:=HCl.out.box.cells 1 _ rfl;have Hacc:=hide hml2;clear hat k0 k1 k2 k3 k4 ha hTA hka hst hkp hg hml2;by_cases hlt:a.1<t
   ·have hne:a.1≠t:=fun q=>by rw[q] at hlt;exact List.lt_irrefl t hlt
    have qb:Op.bytesLess TA.toList TT1.toList=true:=(by rw[<-HTA.out,<-HTT.out,zAc,zAc];exact zEp hlt);have qe:(TA.toList==TT1.toList)=false:=(by rw[<-HTA.out,<-HTT.out];exact zC5 hne);have qn:(TA.toList !=TT1.toList)=true:=(by unfold bne;rw[qe];rfl);have hnx:Hid (setAt L t vs (i+1)=(ld,acc++[a])):=hide (by rw[hsucc];unfold stepS;simp[hlt,hne]);clear hsucc hne hlt;have hm2:Hid (m+1=(acc++[a]).length):=hide (by simp[HM.out]);cases ld with
    | true=>
     go_wp2_with fail;refine zBj wr.drew.heap.size (Value.slice Av m cv).ownBlock 10 (by kernel_rfl) ?_;have hdr:Below wr.heap.size wr wr.drew:=(Below.refl _ _).drew;have HCd:=hide (HCl.out.grow hdr);have HOd:=hide (HCd.out.out);have hsz:w2.heap.size<=wr.drew.heap.size:=HCl.out.grown.size;have hno:∀b,b<w2.heap.size->some b≠(Value.slice Av m cv).ownBlock:=fun b hb e=>by
      have:=(HCl.out.row.lt b e.symm).1;omega
     have X0:Hid (∀W,upBB wr.drew.heap.size (Value.slice Av m cv).ownBlock wr.drew W->W.cell? ⟨w.heap.size+2,1,none⟩=some (.slice Av m cv)/\W.cell? ⟨w.heap.size,1,none⟩=some (.slice (some ⟨g,o,none⟩) n c)/\W.cell? ⟨g,o+i*2,none⟩=some (.string TA)/\W.cell? ⟨g,o+i*2+1,none⟩=some (.slice V ka ca)):=hide fun W hW=>by
      have hg9:g<w.heap.size:=Hg.out;have hs9:=Hs2.out;have hcd:=HCd.out;have hk:=HCd.out.keep HB.out hs9;refine⟨(hW.cell (p:=⟨w.heap.size+2,1,none⟩) (show w.heap.size+2<_ by omega) (hno (w.heap.size+2) (by omega))).trans (hcd.out.cells 1 _ rfl),(hW.cell (p:=⟨w.heap.size,1,none⟩) (show w.heap.size<_ by omega) (hno w.heap.size (by omega))).trans (hcd.box.cells 1 _ rfl),?_,?_⟩
      ·exact (hW.cell (p:=⟨g,o+i*2,none⟩) (show g<_ by omega) (hno g (by omega))).trans ((hk.cell (p:=⟨g,o+i*2,none⟩) hg9).trans He0.out)
      ·exact (hW.cell (p:=⟨g,o+i*2+1,none⟩) (show g<_ by omega) (hno g (by omega))).trans ((hk.cell (p:=⟨g,o+i*2+1,none⟩) hg9).trans He1.out)
     clear hdr hno HCl;generalize wr.drew=wd at *;refine zAb 0 (some 50) rfl rfl (by kernel_rfl) rfl (by kernel_rfl) (by rfl) (fun W hW=>by go_simp<;>with_reducible rfl) ?_;(try simp only[pUz]);refine zAb 1 (some 51) (v:=?va1) rfl rfl (by kernel_rfl) rfl (by kernel_rfl) (by rfl) (fun W hW=>?ya1) ?_
     case ya1=>have k0:=(X0.out W hW).1;go_simp<;>with_reducible rfl
     (try simp only[pUz]);refine zAb 2 (some 52) rfl rfl (by kernel_rfl) rfl (by kernel_rfl) (by rfl) (fun W hW=>by go_simp<;>with_reducible rfl) ?_;(try simp only[pUz]);refine zAb 3 (some 53) (v:=?va3) rfl rfl (by kernel_rfl) rfl (by kernel_rfl) (by rfl) (fun W hW=>?ya3) ?_
     case ya3=>have k0:=(X0.out W hW).2.1;go_simp<;>with_reducible rfl
     (try simp only[pUz]);refine zAb 4 (some 54) rfl rfl (by kernel_rfl) rfl (by kernel_rfl) (by rfl) (fun W hW=>by go_simp<;>with_reducible rfl) ?_;(try simp only[pUz]);refine zAb 5 (some 55) rfl rfl (by kernel_rfl) rfl (by kernel_rfl) (by rfl) (fun W hW=>by go_simp<;>with_reducible rfl) ?_;(try simp only[pUz]);refine zAb 6 (some 56) (v:=?va6) rfl rfl (by kernel_rfl) rfl (by kernel_rfl) (by rfl) (fun W hW=>?ya6) ?_
     case ya6=>obtain⟨_,_,k0,k1⟩:=X0.out W hW;go_simp<;>with_reducible rfl
     (try simp only[pUz]);refine zAf 7 rfl (by kernel_rfl) (fun K hK=>?_);go_simp;have hbc:=below1 wd (.cells #[.string TA,.slice V ka ca] 60);refine hK.out _ _ (fun _=>zB5 _ (Nat.le_refl _) hbc) ?_;have hlit:=litY wd (.string TA) (.slice V ka ca) 60 rfl rfl;have hown6:=zAe HCd.out.row hbc;have hs6:w2.heap.size<=(wd.alloc (.cells #[.string TA,.slice V ka ca] 60)).heap.size:=Nat.le_trans hsz hbc.size;have h1c:∀u∈([.string TA,.slice V ka ca]:List Value),u.oneCell'=true:=by simp[Value.oneCell']
     clear hK K;(try simp only[pUz]);refine zAf 8 rfl (by kernel_rfl) (fun K hK=>?_);refine stepE _ 36 60 _ 2 40 Tryz.underlying36 infoEA rfl (by omega) (by omega) (some 58) rfl rfl (.tmp 51) (.tmp 57) rfl w2.heap.size _ _ _ rfl hown6 _ _ 1 1 [.string TA,.slice V ka ca] rfl (Has.own hlit) h1c (by omega) hs6 ?_;intro v7 w7 hown7 hb7 hg7 ht7;refine hK.out _ _ (fun _=>zB4 hbc.size hg7) ?_;have HB7:=hide ((hbc.mono hsz).trans hb7);obtain⟨A7,c7,rfl,_,_⟩:=zAh hown7;have HR7:=hide hown7;clear hK K hown7 hb7 hg7 ht7 hown6 hs6 h1c hlit hbc;(try simp only[pUz]);have HO7:=hide (HOd.out.below (by have:=Hs2.out;omega) HB7.out);refine zAb 9 (some 59) rfl rfl (by kernel_rfl) rfl (by kernel_rfl) (by rfl) (fun W hW=>by go_simp<;>with_reducible rfl) ?_;(try simp only[pUz]);refine zAf 10 rfl (by kernel_rfl) (fun K hK=>?_);have cm:=(HO7.out).cells 1 _ rfl;have fm:=(HO7.out).fz 1;go_simp;refine hK.out _ _ (fun h=>absurd rfl h) ?_;clear hK K cm fm;(try simp only[pUz]);refine zAy (by kernel_rfl) ?_ _;have HC9:=hide (HCd.out.next Hs2.out HB7.out HR7.out);have HE9:=hide (EAsP.snoc (a:=a) HEs.out (by rw[Hka.out];exact HV.out.1) HV.out.2.1 (by rw[Hka.out];exact HV.out.2.2));rw[HTA.out,Hka.out] at HE9;clear HO7 HB7 HR7 HCd HOd hsz HEs;go_wp2
     go_roundg r
     case measure=>omega
     case rel=>exact⟨i+1,A7,_,c7,_,by omega,by go_num,by rw[hnx.out],hide (by rw[hnx.out];exact hm2.out),HC9,hide (by rw[hnx.out];exact HE9.out)⟩
    | false=>
     go_wp2_with fail;refine zBj wr.drew.heap.size (Value.slice Av m cv).ownBlock 10 (by kernel_rfl) ?_;have hdr:Below wr.heap.size wr wr.drew:=(Below.refl _ _).drew;have HCd:=hide (HCl.out.grow hdr);have HOd:=hide (HCd.out.out);have hsz:w2.heap.size<=wr.drew.heap.size:=HCl.out.grown.size;have hno:∀b,b<w2.heap.size->some b≠(Value.slice Av m cv).ownBlock:=fun b hb e=>by
      have:=(HCl.out.row.lt b e.symm).1;omega
     have X0:Hid (∀W,upBB wr.drew.heap.size (Value.slice Av m cv).ownBlock wr.drew W->W.cell? ⟨w.heap.size+2,1,none⟩=some (.slice Av m cv)/\W.cell? ⟨w.heap.size,1,none⟩=some (.slice (some ⟨g,o,none⟩) n c)/\W.cell? ⟨g,o+i*2,none⟩=some (.string TA)/\W.cell? ⟨g,o+i*2+1,none⟩=some (.slice V ka ca)):=hide fun W hW=>by
      have hg9:g<w.heap.size:=Hg.out;have hs9:=Hs2.out;have hcd:=HCd.out;have hk:=HCd.out.keep HB.out hs9;refine⟨(hW.cell (p:=⟨w.heap.size+2,1,none⟩) (show w.heap.size+2<_ by omega) (hno (w.heap.size+2) (by omega))).trans (hcd.out.cells 1 _ rfl),(hW.cell (p:=⟨w.heap.size,1,none⟩) (show w.heap.size<_ by omega) (hno w.heap.size (by omega))).trans (hcd.box.cells 1 _ rfl),?_,?_⟩
      ·exact (hW.cell (p:=⟨g,o+i*2,none⟩) (show g<_ by omega) (hno g (by omega))).trans ((hk.cell (p:=⟨g,o+i*2,none⟩) hg9).trans He0.out)
      ·exact (hW.cell (p:=⟨g,o+i*2+1,none⟩) (show g<_ by omega) (hno g (by omega))).trans ((hk.cell (p:=⟨g,o+i*2+1,none⟩) hg9).trans He1.out)
     clear hdr hno HCl;generalize wr.drew=wd at *;refine zAb 0 (some 50) rfl rfl (by kernel_rfl) rfl (by kernel_rfl) (by rfl) (fun W hW=>by go_simp<;>with_reducible rfl) ?_;(try simp only[pUz]);refine zAb 1 (some 51) (v:=?vb1) rfl rfl (by kernel_rfl) rfl (by kernel_rfl) (by rfl) (fun W hW=>?yb1) ?_
     case yb1=>have k0:=(X0.out W hW).1;go_simp<;>with_reducible rfl
     (try simp only[pUz]);refine zAb 2 (some 52) rfl rfl (by kernel_rfl) rfl (by kernel_rfl) (by rfl) (fun W hW=>by go_simp<;>with_reducible rfl) ?_;(try simp only[pUz]);refine zAb 3 (some 53) (v:=?vb3) rfl rfl (by kernel_rfl) rfl (by kernel_rfl) (by rfl) (fun W hW=>?yb3) ?_
     case yb3=>have k0:=(X0.out W hW).2.1;go_simp<;>with_reducible rfl
     (try simp only[pUz]);refine zAb 4 (some 54) rfl rfl (by kernel_rfl) rfl (by kernel_rfl) (by rfl) (fun W hW=>by go_simp<;>with_reducible rfl) ?_;(try simp only[pUz]);refine zAb 5 (some 55) rfl rfl (by kernel_rfl) rfl (by kernel_rfl) (by rfl) (fun W hW=>by go_simp<;>with_reducible rfl) ?_;(try simp only[pUz]);refine zAb 6 (some 56) (v:=?vb6) rfl rfl (by kernel_rfl) rfl (by kernel_rfl) (by rfl) (fun W hW=>?yb6) ?_
     case yb6=>obtain⟨_,_,k0,k1⟩:=X0.out W hW;go_simp<;>with_reducible rfl
     (try simp only[pUz]);refine zAf 7 rfl (by kernel_rfl) (fun K hK=>?_);go_simp;have hbc:=below1 wd (.cells #[.string TA,.slice V ka ca] 60);refine hK.out _ _ (fun _=>zB5 _ (Nat.le_refl _) hbc) ?_;have hlit:=litY wd (.string TA) (.slice V ka ca) 60 rfl rfl;have hown6:=zAe HCd.out.row hbc;have hs6:w2.heap.size<=(wd.alloc (.cells #[.string TA,.slice V ka ca] 60)).heap.size:=Nat.le_trans hsz hbc.size;have h1c:∀u∈([.string TA,.slice V ka ca]:List Value),u.oneCell'=true:=by simp[Value.oneCell']
     clear hK K;(try simp only[pUz]);refine zAf 8 rfl (by kernel_rfl) (fun K hK=>?_);refine stepE _ 36 60 _ 2 40 Tryz.underlying36 infoEA rfl (by omega) (by omega) (some 58) rfl rfl (.tmp 51) (.tmp 57) rfl w2.heap.size _ _ _ rfl hown6 _ _ 1 1 [.string TA,.slice V ka ca] rfl (Has.own hlit) h1c (by omega) hs6 ?_;intro v7 w7 hown7 hb7 hg7 ht7;refine hK.out _ _ (fun _=>zB4 hbc.size hg7) ?_;have HB7:=hide ((hbc.mono hsz).trans hb7);obtain⟨A7,c7,rfl,_,_⟩:=zAh hown7;have HR7:=hide hown7;clear hK K hown7 hb7 hg7 ht7 hown6 hs6 h1c hlit hbc;(try simp only[pUz]);have HO7:=hide (HOd.out.below (by have:=Hs2.out;omega) HB7.out);refine zAb 9 (some 59) rfl rfl (by kernel_rfl) rfl (by kernel_rfl) (by rfl) (fun W hW=>by go_simp<;>with_reducible rfl) ?_;(try simp only[pUz]);refine zAf 10 rfl (by kernel_rfl) (fun K hK=>?_);have cm:=(HO7.out).cells 1 _ rfl;have fm:=(HO7.out).fz 1;go_simp;refine hK.out _ _ (fun h=>absurd rfl h) ?_;clear hK K cm fm;(try simp only[pUz]);refine zAy (by kernel_rfl) ?_ _;have HC9:=hide (HCd.out.next Hs2.out HB7.out HR7.out);have HE9:=hide (EAsP.snoc (a:=a) HEs.out (by rw[Hka.out];exact HV.out.1) HV.out.2.1 (by rw[Hka.out];exact HV.out.2.2));rw[HTA.out,Hka.out] at HE9;clear HO7 HB7 HR7 HCd HOd hsz HEs;go_wp2
     go_roundg r
     case measure=>omega
     case rel=>exact⟨i+1,A7,_,c7,_,by omega,by go_num,by rw[hnx.out],hide (by rw[hnx.out];exact hm2.out),HC9,hide (by rw[hnx.out];exact HE9.out)⟩
   ·have qb:Op.bytesLess TA.toList TT1.toList=false:=by rw[<-HTA.out,<-HTT.out,zAc,zAc];exact zH3 hlt
    by_cases heq:a.1=t
    ·have qe:(TA.toList==TT1.toList)=true:=by rw[<-HTA.out,<-HTT.out,heq];simp
     have qn:(TA.toList !=TT1.toList)=false:=(by unfold bne;rw[qe];rfl);cases ld with
     | true=>
      have hnx:Hid (setAt L t vs (i+1)=(true,acc)):=hide (by rw[hsucc];unfold stepS;simp[hlt,heq]);clear hsucc heq hlt;go_wp2
      go_roundg r
      case measure=>omega
      case rel=>exact⟨i+1,Av,m,cv,zs,by omega,by go_num,by rw[hnx.out],hide (by rw[hnx.out];exact HM.out),HCl,hide (by rw[hnx.out];exact HEs.out)⟩
     | false=>
      have hnx:Hid (setAt L t vs (i+1)=(true,acc++[(t,vs)])):=hide (by rw[hsucc];unfold stepS;simp[hlt,heq,List.lt_irrefl]);clear hsucc heq hlt;have hm2:Hid (m+1=(acc++[(t,vs)]).length):=hide (by simp[HM.out]);have hbc:=below1 wr (.cells #[.string TT1,.slice U k cu] 60);have hlit:=litY wr (.string TT1) (.slice U k cu) 60 rfl rfl;have hown6:=zAe HCl.out.row hbc;have hs6:w2.heap.size<=(wr.alloc (.cells #[.string TT1,.slice U k cu] 60)).heap.size:=Nat.le_trans HCl.out.grown.size hbc.size;have h1c:∀u∈([.string TT1,.slice U k cu]:List Value),u.oneCell'=true:=by simp[Value.oneCell']
      have o1:=HCl.out.out.cells 1 _ rfl;go_wp2_with (at_builtin;go_must (refine appN _ 36 60 _ 2 40 Tryz.underlying36 infoEA rfl (by omega) (by omega) rfl (.tmp 35) (.tmp 39) rfl w2.heap.size _ _ zs rfl hown6 _ _ 1 1 [.string TT1,.slice U k cu] rfl (Has.own hlit) h1c (by omega) hs6 ?_));intro v7 w7 hown7 hb7 hg7 ht7;obtain⟨A7,c7,rfl,_,_⟩:=zAh hown7;have hB7:Below w2.heap.size wr w7:=(hbc.mono HCl.out.grown.size).trans hb7;have HC7:=hide (HCl.out.next Hs2.out hB7 hown7);have hO7:=HCl.out.out.below (by have:=Hs2.out;omega) hB7;have cm:=hO7.cells 1 _ rfl;have fm:=hO7.fz 1;have HE7:=hide (EAsP.snoc (a:=(t,vs)) HEs.out (by rw[Hk.out];exact HU.out.1) HU.out.2.1 (by rw[Hk.out];exact HU.out.2.2));rw[HTT.out,Hk.out] at HE7;clear hbc hlit hown6 hs6 h1c o1 hown7 hb7 hg7 ht7 hB7 hO7 HCl HEs;go_upto_region 8 with fail;clear cm fm;obtain⟨wy,hwy⟩:∃x,w7.setCell ⟨w.heap.size+2,1,none⟩ (.slice A7 (m+1) c7)=x:=⟨_,rfl⟩;rw[hwy] at HC7 ⊢;clear hwy;have hkp:=HC7.out.keep HB.out Hs2.out;have f0:=(hkp.cell (p:=⟨g,o+i*2,none⟩) Hg.out).trans He0.out;have f1:=HC7.out.box.cells 1 _ rfl;clear e0 e1 b1 hkp;go_wp2
      go_roundg r
      case measure=>omega
      case rel=>exact⟨i+1,A7,m+1,c7,_,by omega,by go_num,by rw[hnx.out],hide (by rw[hnx.out];exact hm2.out),HC7,hide (by rw[hnx.out];exact HE7.out)⟩
    ·have qe:(TA.toList==TT1.toList)=false:=by rw[<-HTA.out,<-HTT.out];exact zC5 heq
     have qn:(TA.toList !=TT1.toList)=true:=(by unfold bne;rw[qe];rfl);cases ld with
     | true=>
      have hnx:Hid (setAt L t vs (i+1)=(true,acc++[a])):=hide (by rw[hsucc];unfold stepS;simp[hlt,heq]);clear hsucc heq hlt;have hm2:Hid (m+1=(acc++[a]).length):=hide (by simp[HM.out]);go_wp2_with fail;refine zBj wr.drew.heap.size (Value.slice Av m cv).ownBlock 10 (by kernel_rfl) ?_;have hdr:Below wr.heap.size wr wr.drew:=(Below.refl _ _).drew;have HCd:=hide (HCl.out.grow hdr);have HOd:=hide (HCd.out.out);have hsz:w2.heap.size<=wr.drew.heap.size:=HCl.out.grown.size;have hno:∀b,b<w2.heap.size->some b≠(Value.slice Av m cv).ownBlock:=fun b hb e=>by
       have:=(HCl.out.row.lt b e.symm).1;omega
      have X0:Hid (∀W,upBB wr.drew.heap.size (Value.slice Av m cv).ownBlock wr.drew W->W.cell? ⟨w.heap.size+2,1,none⟩=some (.slice Av m cv)/\W.cell? ⟨w.heap.size,1,none⟩=some (.slice (some ⟨g,o,none⟩) n c)/\W.cell? ⟨g,o+i*2,none⟩=some (.string TA)/\W.cell? ⟨g,o+i*2+1,none⟩=some (.slice V ka ca)):=hide fun W hW=>by
       have hg9:g<w.heap.size:=Hg.out;have hs9:=Hs2.out;have hcd:=HCd.out;have hk:=HCd.out.keep HB.out hs9;refine⟨(hW.cell (p:=⟨w.heap.size+2,1,none⟩) (show w.heap.size+2<_ by omega) (hno (w.heap.size+2) (by omega))).trans (hcd.out.cells 1 _ rfl),(hW.cell (p:=⟨w.heap.size,1,none⟩) (show w.heap.size<_ by omega) (hno w.heap.size (by omega))).trans (hcd.box.cells 1 _ rfl),?_,?_⟩
       ·exact (hW.cell (p:=⟨g,o+i*2,none⟩) (show g<_ by omega) (hno g (by omega))).trans ((hk.cell (p:=⟨g,o+i*2,none⟩) hg9).trans He0.out)
       ·exact (hW.cell (p:=⟨g,o+i*2+1,none⟩) (show g<_ by omega) (hno g (by omega))).trans ((hk.cell (p:=⟨g,o+i*2+1,none⟩) hg9).trans He1.out)
      clear hdr hno HCl;generalize wr.drew=wd at *;refine zAb 0 (some 50) rfl rfl (by kernel_rfl) rfl (by kernel_rfl) (by rfl) (fun W hW=>by go_simp<;>with_reducible rfl) ?_;(try simp only[pUz]);refine zAb 1 (some 51) (v:=?vc1) rfl rfl (by kernel_rfl) rfl (by kernel_rfl) (by rfl) (fun W hW=>?yc1) ?_
      case yc1=>have k0:=(X0.out W hW).1;go_simp<;>with_reducible rfl
      (try simp only[pUz]);refine zAb 2 (some 52) rfl rfl (by kernel_rfl) rfl (by kernel_rfl) (by rfl) (fun W hW=>by go_simp<;>with_reducible rfl) ?_;(try simp only[pUz]);refine zAb 3 (some 53) (v:=?vc3) rfl rfl (by kernel_rfl) rfl (by kernel_rfl) (by rfl) (fun W hW=>?yc3) ?_
      case yc3=>have k0:=(X0.out W hW).2.1;go_simp<;>with_reducible rfl
      (try simp only[pUz]);refine zAb 4 (some 54) rfl rfl (by kernel_rfl) rfl (by kernel_rfl) (by rfl) (fun W hW=>by go_simp<;>with_reducible rfl) ?_;(try simp only[pUz]);refine zAb 5 (some 55) rfl rfl (by kernel_rfl) rfl (by kernel_rfl) (by rfl) (fun W hW=>by go_simp<;>with_reducible rfl) ?_;(try simp only[pUz]);refine zAb 6 (some 56) (v:=?vc6) rfl rfl (by kernel_rfl) rfl (by kernel_rfl) (by rfl) (fun W hW=>?yc6) ?_
      case yc6=>obtain⟨_,_,k0,k1⟩:=X0.out W hW;go_simp<;>with_reducible rfl
      (try simp only[pUz]);refine zAf 7 rfl (by kernel_rfl) (fun K hK=>?_);go_simp;have hbc:=below1 wd (.cells #[.string TA,.slice V ka ca] 60);refine hK.out _ _ (fun _=>zB5 _ (Nat.le_refl _) hbc) ?_;have hlit:=litY wd (.string TA) (.slice V ka ca) 60 rfl rfl;have hown6:=zAe HCd.out.row hbc;have hs6:w2.heap.size<=(wd.alloc (.cells #[.string TA,.slice V ka ca] 60)).heap.size:=Nat.le_trans hsz hbc.size;have h1c:∀u∈([.string TA,.slice V ka ca]:List Value),u.oneCell'=true:=by simp[Value.oneCell']
      clear hK K;(try simp only[pUz]);refine zAf 8 rfl (by kernel_rfl) (fun K hK=>?_);refine stepE _ 36 60 _ 2 40 Tryz.underlying36 infoEA rfl (by omega) (by omega) (some 58) rfl rfl (.tmp 51) (.tmp 57) rfl w2.heap.size _ _ _ rfl hown6 _ _ 1 1 [.string TA,.slice V ka ca] rfl (Has.own hlit) h1c (by omega) hs6 ?_;intro v7 w7 hown7 hb7 hg7 ht7;refine hK.out _ _ (fun _=>zB4 hbc.size hg7) ?_;have HB7:=hide ((hbc.mono hsz).trans hb7);obtain⟨A7,c7,rfl,_,_⟩:=zAh hown7;have HR7:=hide hown7;clear hK K hown7 hb7 hg7 ht7 hown6 hs6 h1c hlit hbc;(try simp only[pUz]);have HO7:=hide (HOd.out.below (by have:=Hs2.out;omega) HB7.out);refine zAb 9 (some 59) rfl rfl (by kernel_rfl) rfl (by kernel_rfl) (by rfl) (fun W hW=>by go_simp<;>with_reducible rfl) ?_;(try simp only[pUz]);refine zAf 10 rfl (by kernel_rfl) (fun K hK=>?_);have cm:=(HO7.out).cells 1 _ rfl;have fm:=(HO7.out).fz 1;go_simp;refine hK.out _ _ (fun h=>absurd rfl h) ?_;clear hK K cm fm;(try simp only[pUz]);refine zAy (by kernel_rfl) ?_ _;have HC9:=hide (HCd.out.next Hs2.out HB7.out HR7.out);have HE9:=hide (EAsP.snoc (a:=a) HEs.out (by rw[Hka.out];exact HV.out.1) HV.out.2.1 (by rw[Hka.out];exact HV.out.2.2));rw[HTA.out,Hka.out] at HE9;clear HO7 HB7 HR7 HCd HOd hsz HEs;go_wp2
      go_roundg r
      case measure=>omega
      case rel=>exact⟨i+1,A7,_,c7,_,by omega,by go_num,by rw[hnx.out],hide (by rw[hnx.out];exact hm2.out),HC9,hide (by rw[hnx.out];exact HE9.out)⟩
     | false=>
      have hnx:Hid (setAt L t vs (i+1)=(true,acc++[(t,vs)]++[a])):=hide (by rw[hsucc];unfold stepS;simp[hlt,heq]);clear hsucc heq hlt;have hm2:Hid (m+1+1=(acc++[(t,vs)]++[a]).length):=hide (by simp[HM.out]);have hbc:=below1 wr (.cells #[.string TT1,.slice U k cu] 60);have hlit:=litY wr (.string TT1) (.slice U k cu) 60 rfl rfl;have hown6:=zAe HCl.out.row hbc;have hs6:w2.heap.size<=(wr.alloc (.cells #[.string TT1,.slice U k cu] 60)).heap.size:=Nat.le_trans HCl.out.grown.size hbc.size;have h1c:∀u∈([.string TT1,.slice U k cu]:List Value),u.oneCell'=true:=by simp[Value.oneCell']
      have o1:=HCl.out.out.cells 1 _ rfl;go_wp2_with (at_builtin;go_must (refine appN _ 36 60 _ 2 40 Tryz.underlying36 infoEA rfl (by omega) (by omega) rfl (.tmp 35) (.tmp 39) rfl w2.heap.size _ _ zs rfl hown6 _ _ 1 1 [.string TT1,.slice U k cu] rfl (Has.own hlit) h1c (by omega) hs6 ?_));intro v7 w7 hown7 hb7 hg7 ht7;obtain⟨A7,c7,rfl,_,_⟩:=zAh hown7;have hB7:Below w2.heap.size wr w7:=(hbc.mono HCl.out.grown.size).trans hb7;have HC7:=hide (HCl.out.next Hs2.out hB7 hown7);have hO7:=HCl.out.out.below (by have:=Hs2.out;omega) hB7;have cm:=hO7.cells 1 _ rfl;have fm:=hO7.fz 1;have HE7:=hide (EAsP.snoc (a:=(t,vs)) HEs.out (by rw[Hk.out];exact HU.out.1) HU.out.2.1 (by rw[Hk.out];exact HU.out.2.2));rw[HTT.out,Hk.out] at HE7;clear hbc hlit hown6 hs6 h1c o1 hown7 hb7 hg7 ht7 hB7 hO7 HCl HEs;go_upto_region 8 with fail;clear cm fm;obtain⟨wy,hwy⟩:∃x,w7.setCell ⟨w.heap.size+2,1,none⟩ (.slice A7 (m+1) c7)=x:=⟨_,rfl⟩;rw[hwy] at HC7 ⊢;clear hwy;have HCl:=HC7;have HEs:=HE7;obtain⟨zs2,hzs2⟩:∃x,zs++[Value.string TT1,Value.slice U k cu]=x:=⟨_,rfl⟩;rw[hzs2] at HCl HEs;obtain⟨Av,hAv⟩:∃x,A7=x:=⟨_,rfl⟩;obtain⟨cv,hcv⟩:∃x,c7=x:=⟨_,rfl⟩;rw[hAv,hcv] at HCl;obtain⟨m1,hm1⟩:∃x,m+1=x:=⟨_,rfl⟩;rw[hm1] at HCl hm2;have hm10:m1<=1000002:=by omega
      have hkp:=HCl.out.keep HB.out Hs2.out;have f0:=(hkp.cell (p:=⟨g,o+i*2,none⟩) Hg.out).trans He0.out;have f1:=HCl.out.box.cells 1 _ rfl;clear e0 e1 b1 hkp HC7 HE7 hzs2 hAv hcv hm1;go_wp2_with fail;clear f0 f1;refine zBj wy.drew.heap.size (Value.slice Av m1 cv).ownBlock 10 (by kernel_rfl) ?_;have hdr:Below wy.heap.size wy wy.drew:=(Below.refl _ _).drew;have HCd:=hide (HCl.out.grow hdr);have HOd:=hide (HCd.out.out);have hsz:w2.heap.size<=wy.drew.heap.size:=HCl.out.grown.size;have hno:∀b,b<w2.heap.size->some b≠(Value.slice Av m1 cv).ownBlock:=fun b hb e=>by
       have:=(HCl.out.row.lt b e.symm).1;omega
      have X0:Hid (∀W,upBB wy.drew.heap.size (Value.slice Av m1 cv).ownBlock wy.drew W->W.cell? ⟨w.heap.size+2,1,none⟩=some (.slice Av m1 cv)/\W.cell? ⟨w.heap.size,1,none⟩=some (.slice (some ⟨g,o,none⟩) n c)/\W.cell? ⟨g,o+i*2,none⟩=some (.string TA)/\W.cell? ⟨g,o+i*2+1,none⟩=some (.slice V ka ca)):=hide fun W hW=>by
       have hg9:g<w.heap.size:=Hg.out;have hs9:=Hs2.out;have hcd:=HCd.out;have hk:=HCd.out.keep HB.out hs9;refine⟨(hW.cell (p:=⟨w.heap.size+2,1,none⟩) (show w.heap.size+2<_ by omega) (hno (w.heap.size+2) (by omega))).trans (hcd.out.cells 1 _ rfl),(hW.cell (p:=⟨w.heap.size,1,none⟩) (show w.heap.size<_ by omega) (hno w.heap.size (by omega))).trans (hcd.box.cells 1 _ rfl),?_,?_⟩
       ·exact (hW.cell (p:=⟨g,o+i*2,none⟩) (show g<_ by omega) (hno g (by omega))).trans ((hk.cell (p:=⟨g,o+i*2,none⟩) hg9).trans He0.out)
       ·exact (hW.cell (p:=⟨g,o+i*2+1,none⟩) (show g<_ by omega) (hno g (by omega))).trans ((hk.cell (p:=⟨g,o+i*2+1,none⟩) hg9).trans He1.out)
      clear hdr hno HCl;generalize wy.drew=wd at *;refine zAb 0 (some 50) rfl rfl (by kernel_rfl) rfl (by kernel_rfl) (by rfl) (fun W hW=>by go_simp<;>with_reducible rfl) ?_;(try simp only[pUz]);refine zAb 1 (some 51) (v:=?vd1) rfl rfl (by kernel_rfl) rfl (by kernel_rfl) (by rfl) (fun W hW=>?yd1) ?_
      case yd1=>have k0:=(X0.out W hW).1;go_simp<;>with_reducible rfl
      (try simp only[pUz]);refine zAb 2 (some 52) rfl rfl (by kernel_rfl) rfl (by kernel_rfl) (by rfl) (fun W hW=>by go_simp<;>with_reducible rfl) ?_;(try simp only[pUz]);refine zAb 3 (some 53) (v:=?vd3) rfl rfl (by kernel_rfl) rfl (by kernel_rfl) (by rfl) (fun W hW=>?yd3) ?_
      case yd3=>have k0:=(X0.out W hW).2.1;go_simp<;>with_reducible rfl
      (try simp only[pUz]);refine zAb 4 (some 54) rfl rfl (by kernel_rfl) rfl (by kernel_rfl) (by rfl) (fun W hW=>by go_simp<;>with_reducible rfl) ?_;(try simp only[pUz]);refine zAb 5 (some 55) rfl rfl (by kernel_rfl) rfl (by kernel_rfl) (by rfl) (fun W hW=>by go_simp<;>with_reducible rfl) ?_;(try simp only[pUz]);refine zAb 6 (some 56) (v:=?vd6) rfl rfl (by kernel_rfl) rfl (by kernel_rfl) (by rfl) (fun W hW=>?yd6) ?_
      case yd6=>obtain⟨_,_,k0,k1⟩:=X0.out W hW;go_simp<;>with_reducible rfl
      (try simp only[pUz]);refine zAf 7 rfl (by kernel_rfl) (fun K hK=>?_);go_simp;have hbc:=below1 wd (.cells #[.string TA,.slice V ka ca] 60);refine hK.out _ _ (fun _=>zB5 _ (Nat.le_refl _) hbc) ?_;have hlit:=litY wd (.string TA) (.slice V ka ca) 60 rfl rfl;have hown6:=zAe HCd.out.row hbc;have hs6:w2.heap.size<=(wd.alloc (.cells #[.string TA,.slice V ka ca] 60)).heap.size:=Nat.le_trans hsz hbc.size;have h1c:∀u∈([.string TA,.slice V ka ca]:List Value),u.oneCell'=true:=by simp[Value.oneCell']
      clear hK K;(try simp only[pUz]);refine zAf 8 rfl (by kernel_rfl) (fun K hK=>?_);refine stepE _ 36 60 _ 2 40 Tryz.underlying36 infoEA rfl (by omega) (by omega) (some 58) rfl rfl (.tmp 51) (.tmp 57) rfl w2.heap.size _ _ _ rfl hown6 _ _ 1 1 [.string TA,.slice V ka ca] rfl (Has.own hlit) h1c (by omega) hs6 ?_;intro v7 w7 hown7 hb7 hg7 ht7;refine hK.out _ _ (fun _=>zB4 hbc.size hg7) ?_;have HB7:=hide ((hbc.mono hsz).trans hb7);obtain⟨A7,c7,rfl,_,_⟩:=zAh hown7;have HR7:=hide hown7;clear hK K hown7 hb7 hg7 ht7 hown6 hs6 h1c hlit hbc;(try simp only[pUz]);have HO7:=hide (HOd.out.below (by have:=Hs2.out;omega) HB7.out);refine zAb 9 (some 59) rfl rfl (by kernel_rfl) rfl (by kernel_rfl) (by rfl) (fun W hW=>by go_simp<;>with_reducible rfl) ?_;(try simp only[pUz]);refine zAf 10 rfl (by kernel_rfl) (fun K hK=>?_);have cm:=(HO7.out).cells 1 _ rfl;have fm:=(HO7.out).fz 1;go_simp;refine hK.out _ _ (fun h=>absurd rfl h) ?_;clear hK K cm fm;(try simp only[pUz]);refine zAy (by kernel_rfl) ?_ _;have HC9:=hide (HCd.out.next Hs2.out HB7.out HR7.out);have HE9:=hide (EAsP.snoc (a:=a) HEs.out (by rw[Hka.out];exact HV.out.1) HV.out.2.1 (by rw[Hka.out];exact HV.out.2.2));rw[HTA.out,Hka.out] at HE9;clear HO7 HB7 HR7 HCd HOd hsz HEs;go_wp2
      go_roundg r
      case measure=>omega
      case rel=>exact⟨i+1,A7,_,c7,_,by omega,by go_num,by rw[hnx.out],hide (by rw[hnx.out];exact hm2.out),HC9,hide (by rw[hnx.out];exact HE9.out)⟩
theorem memR_ins {L:List EA} {t:List UInt8} {vs:List (List UInt8)} {a:EA} (h:a∈insE L t vs):a∈L\/a=(t,vs):=by
 induction L with
 | nil=>unfold insE at h;exact .inr (List.mem_singleton.1 h)
 | cons b L ih=>
  unfold insE at h;split at h
  ·rcases List.mem_cons.1 h with rfl | h
   ·exact .inl (by simp)
   ·rcases ih h with h | h
    ·exact .inl (by simp[h])
    ·exact .inr h
  ·rcases List.mem_cons.1 h with rfl | h
   ·exact .inr rfl
   ·exact .inl (List.mem_filter.1 h).1
theorem lenR_ins (L:List EA) (t:List UInt8) (vs:List (List UInt8)):(insE L t vs).length<=L.length+1:=by
 induction L with
 | nil=>simp[insE]
 | cons b L ih=>
  unfold insE;split
  ·simp only[List.length_cons];omega
  ·have:=List.length_filter_le (fun b:EA=>decide (b.1≠t)) (b::L);simp only[List.length_cons] at this ⊢;omega
theorem memR_set {L:List EA} {t:List UInt8} {vs:List (List UInt8)} {a:EA} (h:a∈setE L t vs):a∈L\/a=(t,vs):=by
 unfold setE at h;split at h
 ·exact .inl (List.mem_filter.1 h).1
 ·exact memR_ins h
theorem lenR_set (L:List EA) (t:List UInt8) (vs:List (List UInt8)):(setE L t vs).length<=L.length+1:=by
 unfold setE;split
 ·have:=List.length_filter_le (fun b:EA=>decide (b.1≠t)) L;omega
 ·exact lenR_ins L t vs
structure WideA (acc:List EA) (c m:Nat):Prop where
 len:acc.length<=m
 each:∀a∈acc,a.2.length<=c/\∀u∈a.2,u.length<=1000000
theorem WideA.set {acc:List EA} {c m:Nat} (h:WideA acc c m) {t:List UInt8} {vs:List (List UInt8)} {c':Nat} (hc:c<=c') (hv:vs.length<=c') (hu:∀u∈vs,u.length<=1000000):WideA (setE acc t vs) c' (m+1):=
 ⟨Nat.le_trans (lenR_set _ _ _) (Nat.succ_le_succ h.len),fun a ha=>by
  rcases memR_set ha with ha | rfl
  ·exact ⟨Nat.le_trans (h.each a ha).1 hc,(h.each a ha).2⟩
  ·exact ⟨hv,hu⟩⟩
theorem WideA.pick {acc:List EA} {c m:Nat} (h:WideA acc c m) (t:List UInt8):(pickE acc t).length<=c/\∀u∈pickE acc t,u.length<=1000000:=by
 rcases zHf acc t with h1 | ⟨a,ha,h1⟩
 ·rw [h1];simp
 ·rw [h1];exact h.each a ha
theorem zJy {n:List UInt8} (h:(typ n).2≠0) (acc:List EA):valuesE acc (typ n).1=pickE acc (typ n).1:=by
 unfold valuesE;rw[(zNw h).1,if_neg h]
theorem zKh (acc:List EA):valuesE acc clsT=pickE acc clsT:=by
 unfold valuesE;rw[zP9,if_neg (by decide)]
structure RMadePost (nm:List UInt8) (L:List EA) (code:Int) (w:World) (e:Ending) (w':World):Prop where
 out:∃A c xs,e=.returned (.tuple #[.agg #[.string (txt nm),.slice A L.length c],.int .i64 code])/\L.length<=c/\c<=maxLen/\Has w' w'.heap.size 2 A L.length xs/\EAs w' w'.heap.size xs L/\Below w.heap.size w w'
theorem zAz {w w':World} {code:Int} {e:Ending} (h:e=.returned (.tuple #[.agg #[.string ⟨#[]⟩,.slice none 0 0],.int .i64 code])) (hb:Below w.heap.size w w'):RMadePost [] [] code w e w':=
 ⟨none,0,[],h,by simp,by unfold maxLen;omega,Has.nil,EAs.nil,hb⟩
def Qb (q h:Nat) (w:World) (b:Nat):Prop:=b<w.heap.size/\b≠q/\b≠h
structure MkC (w wx:World) (q h:Nat) (SN:ByteArray) (Ae:Option Addr) (ne ce:Nat) (ys:List Value) (acc:List EA):Prop where
 base:Below w.heap.size w wx
 far:w.heap.size<=q/\w.heap.size<=h/\q≠h
 res:Blk wx q [.string ⟨#[]⟩,.slice none 0 0]
 box:Blk wx h [.string SN,.slice Ae ne ce]
 cap:ne<=ce/\ce<=maxLen
 has:HasP wx (Qb q h wx) 2 Ae ne ys
 attrs:EAsP wx (Qb q h wx) ys acc
section
variable {w wx w':World} {q h:Nat} {SN:ByteArray} {Ae:Option Addr} {ne ce:Nat} {ys:List Value} {acc:List EA}
theorem zPp (hs:wx.heap.size<=w'.heap.size):∀b,Qb q h wx b->Qb q h w' b:=fun b hb=>⟨Nat.lt_of_lt_of_le hb.1 hs,hb.2⟩
theorem MkC.grow (c:MkC w wx q h SN Ae ne ce ys acc) (hb:Below wx.heap.size wx w'):MkC w w' q h SN Ae ne ce ys acc:=
 ⟨c.base.trans (hb.mono c.base.size),c.far,c.res.grow hb,c.box.grow hb,c.cap,c.has.move (fun p hp=>hb.cell hp.1) (zPp hb.size),c.attrs.move (fun p hp=>hb.cell hp.1) (zPp hb.size)⟩
theorem MkC.reads (c:MkC w wx q h SN Ae ne ce ys acc):Has wx wx.heap.size 2 Ae ne ys/\EAs wx wx.heap.size ys acc/\ne=acc.length:=by
 have h1:=c.has.has (B:=wx.heap.size) fun b hb=>hb.1
 have h2:=c.attrs.eas (B:=wx.heap.size) fun b hb=>hb.1
 exact⟨h1,h2,h1.eas_n h2⟩
theorem MkC.put (c:MkC w wx q h SN Ae ne ce ys acc) (hb:Below wx.heap.size wx w') {A':Option Addr} {n' c':Nat} {ys':List Value} {acc':List EA} (hc:n'<=c') (hm:c'<=maxLen)
  (hH:HasP w' (NewB wx.heap.size w'.heap.size) 2 A' n' ys') (hE:EAsP w' (Qb q h wx) ys' acc'):MkC w ((w'.setCell ⟨h,0,none⟩ (.string SN)).setCell ⟨h,1,none⟩ (.slice A' n' c')) q h SN A' n' c' ys' acc':=by
 have g:=c.grow hb;have hs:((w'.setCell ⟨h,0,none⟩ (.string SN)).setCell ⟨h,1,none⟩ (.slice A' n' c')).heap.size=w'.heap.size:=by simp[World.setCell]
 have far:∀p:Addr,p.block≠h->((w'.setCell ⟨h,0,none⟩ (.string SN)).setCell ⟨h,1,none⟩ (.slice A' n' c')).cell? p=w'.cell? p:=fun p hp=>by
  rw[World.cell?_setCell_far _ _ _ _ (Ne.symm hp),World.cell?_setCell_far _ _ _ _ (Ne.symm hp)]
 have hb1:=(g.box.set 0 (.string SN) (by simp)).set 1 (.slice A' n' c') (by simp);have hr1:=(g.res.grown (zBd w' h 0 (.string SN)) (fun e=>c.far.2.2 (Option.some.inj e).symm)).grown (zBd _ h 1 (.slice A' n' c')) (fun e=>c.far.2.2 (Option.some.inj e).symm);refine⟨(g.base.setCell (p:=⟨h,0,none⟩) c.far.2.1 _).setCell (p:=⟨h,1,none⟩) c.far.2.1 _,c.far,hr1,hb1,⟨hc,hm⟩,hH.move (fun p hp=>far p ?_) fun b hb2=>⟨by rw[hs];exact hb2.2,?_,?_⟩,hE.move (fun p hp=>far p hp.2.2) fun b hb2=>⟨by rw[hs];exact Nat.lt_of_lt_of_le hb2.1 hb.size,hb2.2⟩⟩
 ·have:=c.box.lt;have:=hp.1;omega
 ·have:=c.res.lt;have:=hb2.1;omega
 ·have:=c.box.lt;have:=hb2.1;omega
theorem MkC.own (c:MkC w wx q h SN Ae ne ce ys acc) {base:Nat} (hbs:wx.heap.size<=base) {w5:World} (hb:Below wx.heap.size wx w5) {A:Option Addr} {n cl:Nat} {xs:List Value} {P:Nat->Prop} (hP:HasP w5 (fun b=>base<=b/\b<w5.heap.size) 1 A n xs):HasP w5 (Qb q h w5) 1 A n xs:=by
 have h1:=c.res.lt;have h2:=c.box.lt;exact hP.move (fun p _=>rfl) fun b hb2=>⟨hb2.2,by have:=hb2.1;omega,by have:=hb2.1;omega⟩
end
end Go.Proofs.YtajkmiialgiikaaGreatDoor
