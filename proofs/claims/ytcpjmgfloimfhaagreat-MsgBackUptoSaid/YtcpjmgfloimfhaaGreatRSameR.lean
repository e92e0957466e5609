/- Two messages compared by the reference. By an AI agent. -/
import Derived.Test.YtcpjmgfloimfhaaGreatRSameT
set_option linter.unusedSimpArgs false
set_option linter.unusedVariables false
set_option maxRecDepth 100000
set_option maxHeartbeats 32000000
namespace Go.Proofs.YtcpjmgfloimfhaaGreat
open Go.RowKit
theorem rsame_refl (w:World) (x:MT) (v v':Value) (hx:repM w (inB w) x v) (hy:repM w (inB w) x v'):
  Calls Tryz.prog 16 #[v,v'] w fun e w'=>e=.returned (.bool true)/\Below w.heap.size w w':=by
 obtain⟨f0,f1,f2,f3,f4,f5,f6,va,vl,vc,vr,vk,rfl,hX⟩:=hx
 obtain⟨g0,g1,g2,g3,g4,g5,g6,ua,ul,uc,ur,uk,rfl,hY⟩:=hy
 obtain⟨cx,hcx⟩:∃cx,mcells x f0 f1 f2 f3 f4 f5 f6 va vl vc vr vk=cx:=⟨_,rfl⟩
 obtain⟨cy,hcy⟩:∃cy,mcells x g0 g1 g2 g3 g4 g5 g6 ua ul uc ur uk=cy:=⟨_,rfl⟩
 have hB1:Blk (w.alloc (.cells cx.toArray 30)) w.heap.size cx:=Blk.new w cx 30
 have hf1:Fr (fun _=>False) w (w.alloc (.cells cx.toArray 30)):=Fr.alloc _ _ _
 obtain⟨w1,hw1⟩:∃w1,w.alloc (.cells cx.toArray 30)=w1:=⟨_,rfl⟩
 have hs1:w1.heap.size=w.heap.size+1:=by rw[<-hw1];simp
 rw[hw1] at hB1 hf1
 have hB2:Blk (w1.alloc (.cells cy.toArray 30)) w1.heap.size cy:=Blk.new w1 cy 30
 have hf2:Fr (fun _=>False) w1 (w1.alloc (.cells cy.toArray 30)):=Fr.alloc _ _ _
 obtain⟨w2,hw2⟩:∃w2,w1.alloc (.cells cy.toArray 30)=w2:=⟨_,rfl⟩
 rw[hw2] at hB2 hf2
 have hB1b:=hB1.fr hf2 id
 have hb:Below w.heap.size w w2:=(hf1.trans hf2).below (Nat.le_refl _) (fun k q=>q.elim)
 rw[hs1] at hB2
 obtain⟨p1,hp1⟩:∃p1,w.heap.size=p1:=⟨_,rfl⟩
 obtain⟨p2,hp2⟩:∃p2,w.heap.size+1=p2:=⟨_,rfl⟩
 rw[hp1] at hB1b
 rw[hp2] at hB2
 have Hw:Hid (((w.alloc (.cells cx.toArray 30)).alloc (.cells cy.toArray 30))=w2):=hide (by rw[hw1];exact hw2)
 have Hp:Hid (w.heap.size=p1/\w.heap.size+1=p2):=hide ⟨hp1,hp2⟩
 have HX2:=hide hB1b
 have HY2:=hide hB2
 have HBw2:=hide hb
 have HX:Hid (Blk ((w.alloc (.cells cx.toArray 30)).alloc (.cells cy.toArray 30)) w.heap.size cx):=hide (by rw[Hw.out,hp1];exact hB1b)
 have HY:Hid (Blk ((w.alloc (.cells cx.toArray 30)).alloc (.cells cy.toArray 30)) (w.heap.size+1) cy):=hide (by rw[Hw.out,hp2];exact hB2)
 have HBw:Hid (Below w.heap.size w ((w.alloc (.cells cx.toArray 30)).alloc (.cells cy.toArray 30))):=hide (by rw[Hw.out];exact hb)
 have rX:∀W,Below w2.heap.size w2 W->MReps W (inB W) x f0 f1 f2 f3 f4 f5 f6 va vl vc vr vk:=fun W hW=>(hX.below hb).below hW
 have rY:∀W,Below w2.heap.size w2 W->MReps W (inB W) x g0 g1 g2 g3 g4 g5 g6 ua ul uc ur uk:=fun W hW=>(hY.below hb).below hW
 rw[hcx,hcy]
 clear hB1 hf1 hB2 hf2 hB1b hw1 hw2
 have eqt:∀(W:World) (L M:List (List UInt8)) (a u:Value) (b:Bool),repL elT W (inB W) L a->repL elT W (inB W) M u->(b=true↔L=M)->Calls Tryz.prog 42 #[a,u] W fun e w'=>e=.returned (.bool b)/\Below W.heap.size W w':=fun W L M a u b ha hu hbb=>by
  obtain⟨A,c,xs,rfl,hl,hA,hr⟩:=ha
  obtain⟨B,d,ys,rfl,hm,hB,hr'⟩:=hu
  have e1:=zBm hr
  have e2:=zBm hr'
  subst e1 e2
  exact rsametexts_any W A B L.length M.length c d L M (HasP.has hA fun k hk=>hk) (HasP.has hB fun k hk=>hk) (by unfold maxLen;omega) b hbb
 refine rsame_tail w cx cy HX HY HBw w2 p1 p2 Hw Hp HX2 HY2 HBw2 x.id (by rw[<-hcx];rfl) (by rw[<-hcy];rfl) x.kind (by rw[<-hcx];rfl) (by rw[<-hcy];rfl) (txt x.name) (by rw[<-hcx];rfl) (by rw[<-hcy];rfl) (txt x.pw) (by rw[<-hcx];rfl) (by rw[<-hcy];rfl) x.ver (by rw[<-hcx];rfl) (by rw[<-hcy];rfl) x.scope (by rw[<-hcx];rfl) (by rw[<-hcy];rfl) x.deref (by rw[<-hcx];rfl) (by rw[<-hcy];rfl) x.size (by rw[<-hcx];rfl) (by rw[<-hcy];rfl) x.time (by rw[<-hcx];rfl) (by rw[<-hcy];rfl) x.tonly (by rw[<-hcx];rfl) (by rw[<-hcy];rfl) (txt x.nrdn) (by rw[<-hcx];rfl) (by rw[<-hcy];rfl) x.delold (by rw[<-hcx];rfl) (by rw[<-hcy];rfl) x.hassup (by rw[<-hcx];rfl) (by rw[<-hcy];rfl) (txt x.sup) (by rw[<-hcx];rfl) (by rw[<-hcy];rfl) (txt x.attr) (by rw[<-hcx];rfl) (by rw[<-hcy];rfl) (txt x.value) (by rw[<-hcx];rfl) (by rw[<-hcy];rfl) x.target (by rw[<-hcx];rfl) (by rw[<-hcy];rfl) x.code (by rw[<-hcx];rfl) (by rw[<-hcy];rfl) (txt x.matched) (by rw[<-hcx];rfl) (by rw[<-hcy];rfl) (txt x.text) (by rw[<-hcx];rfl) (by rw[<-hcy];rfl) f0 f1 f2 f3 f4 f5 f6 g0 g1 g2 g3 g4 g5 g6 true true true true true true (hide (fun j u hu=>by
   rw[<-hcx]
   match j,hu with
   | 0,hu=>exact hu
   | 1,hu=>exact hu
   | 2,hu=>exact hu
   | 3,hu=>exact hu
   | 4,hu=>exact hu
   | 5,hu=>exact hu
   | 6,hu=>exact hu
   )) (hide (fun j u hu=>by
   rw[<-hcy]
   match j,hu with
   | 0,hu=>exact hu
   | 1,hu=>exact hu
   | 2,hu=>exact hu
   | 3,hu=>exact hu
   | 4,hu=>exact hu
   | 5,hu=>exact hu
   | 6,hu=>exact hu
   ))
  va ua (hide (by rw[<-hcx];rfl)) (hide (by rw[<-hcy];rfl)) vl ul (hide (by rw[<-hcx];rfl)) (hide (by rw[<-hcy];rfl)) vc uc (hide (by rw[<-hcx];rfl)) (hide (by rw[<-hcy];rfl)) vr ur (hide (by rw[<-hcx];rfl)) (hide (by rw[<-hcy];rfl)) vk uk (hide (by rw[<-hcx];rfl)) (hide (by rw[<-hcy];rfl))
  (hide fun W hW=>rfsame_any x.filt x.filt W _ _ _ _ _ _ _ _ _ _ _ _ _ _ (FInP.fin (B:=W.heap.size) (fun k hk=>hk) (rX W hW).filt) (FInP.fin (B:=W.heap.size) (fun k hk=>hk) (rY W hW).filt) true (by simp))
  (hide fun W hW=>eqt W _ _ _ _ true (rX W hW).attrs (rY W hW).attrs (by simp)) (hide fun W hW=>?_) (hide fun W hW=>?_) (hide fun W hW=>eqt W _ _ _ _ true (rX W hW).refs (rY W hW).refs (by simp)) (hide fun W hW=>?_)
 ·have ha:=(rX W hW).lst
  have hu:=(rY W hW).lst
  obtain⟨A,n,c,rfl⟩:=zAt ha
  obtain⟨A',n',c',rfl⟩:=zAt hu
  exact rsameA_any W _ _ _ _ _ _ _ _ ha hu true (by simp)
 ·have ha:=(rX W hW).chs
  have hu:=(rY W hW).chs
  obtain⟨A,n,c,rfl⟩:=zAt ha
  obtain⟨A',n',c',rfl⟩:=zAt hu
  exact rsameH_any W _ _ _ _ _ _ _ _ ha hu true (by simp)
 ·have ha:=(rX W hW).ctls
  have hu:=(rY W hW).ctls
  obtain⟨A,n,c,rfl⟩:=zAt ha
  obtain⟨A',n',c',rfl⟩:=zAt hu
  exact rsameC_any W _ _ _ _ _ _ _ _ ha hu true (by simp)
end Go.Proofs.YtcpjmgfloimfhaaGreat
