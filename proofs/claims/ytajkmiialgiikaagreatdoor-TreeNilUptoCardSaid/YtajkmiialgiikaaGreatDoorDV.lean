/- Several texts in one: DChange, DModify, DModMath, DUndo. By an AI agent. -/
import Derived.Test.YtajkmiialgiikaaGreatDoorDZ
import Derived.Test.YtajkmiialgiikaaGreatDoorEX
set_option linter.unusedSimpArgs false
set_option linter.unusedVariables false
namespace Go.Proofs.YtajkmiialgiikaaGreatDoor
open Go Go.RowKit Go.Maps
open Classical in
noncomputable def changeL (L:List EA) (op:Int) (a:EA):List EA × Int:=
 if (typ a.1).2=0 then ([],17) else if op<0\/3<op then ([],2) else if ¬(∀v∈a.2,(valV (typ a.1).1 v).2=0) then ([],21)
 else if op=0 then addL L (typ a.1).1 a.2 else if op=1 then removeL L (typ a.1).1 a.2 else if op=2 then replaceL L (typ a.1).1 a.2
 else incL L (typ a.1).1 (typ a.1).2 a.2
abbrev CH:=Int × EA
structure CHs (w:World) (B:Nat) (xs:List Value) (L:List CH):Prop where
 len:xs.length=L.length*3
 each:∀(i:Nat) (a:CH),L[i]?=some a->∃A c,xs[i*3]?=some (.int .i64 a.1)/\xs[i*3+1]?=some (.string (txt a.2.1))/\xs[i*3+2]?=some (.slice A a.2.2.length c)/\a.2.2.length<=c/\c<=maxLen/\Has w B 1 A a.2.2.length (strs a.2.2)
theorem CHs.below {w w':World} {B:Nat} {xs:List Value} {L:List CH} (h:CHs w B xs L) (hb:Below B w w'):CHs w' B xs L:=
 ⟨h.len,fun i a ha=>by obtain⟨A,c,h1,h2,h3,k1,k2,h4⟩:=h.each i a ha;exact⟨A,c,h1,h2,h3,k1,k2,h4.below hb⟩⟩
theorem CHs.upto {w:World} {B B':Nat} {xs:List Value} {L:List CH} (h:CHs w B xs L) (hB:B<=B'):CHs w B' xs L:=
 ⟨h.len,fun i a ha=>by obtain⟨A,c,h1,h2,h3,k1,k2,h4⟩:=h.each i a ha;exact⟨A,c,h1,h2,h3,k1,k2,h4.upto hB⟩⟩
theorem CHs.grow {w w':World} {xs:List Value} {L:List CH} (h:CHs w w.heap.size xs L) (hb:Below w.heap.size w w'):CHs w' w'.heap.size xs L:=(h.below hb).upto hb.size
structure ChAt (w:World) (B g o:Nat) (a:CH) (V:Option Addr) (c:Nat):Prop where
 e0:w.cell? ⟨g,o,none⟩=some (.int .i64 a.1)
 e1:w.cell? ⟨g,o+1,none⟩=some (.string (txt a.2.1))
 e2:w.cell? ⟨g,o+2,none⟩=some (.slice V a.2.2.length c)
 cap:a.2.2.length<=c
 most:c<=maxLen
 has:Has w B 1 V a.2.2.length (strs a.2.2)
theorem ChAt.below {w w':World} {B g o:Nat} {a:CH} {V:Option Addr} {c:Nat} (h:ChAt w B g o a V c) (hg:g<B) (hb:Below B w w'):ChAt w' B g o a V c:=
 ⟨(hb.cell (p:=⟨g,o,none⟩) hg).trans h.e0,(hb.cell (p:=⟨g,o+1,none⟩) hg).trans h.e1,(hb.cell (p:=⟨g,o+2,none⟩) hg).trans h.e2,h.cap,h.most,h.has.below hb⟩
theorem Has.ch {w:World} {B n:Nat} {A:Option Addr} {xs:List Value} {L:List CH} (h:Has w B 3 A n xs) (hL:CHs w B xs L) (hn:L≠[]):
  ∃g o,A=some ⟨g,o,none⟩/\g<B/\∀(i:Nat) (a:CH),L[i]?=some a->∃V c,ChAt w B g (o+i*3) a V c:=by
 have hp:=List.length_pos_iff.2 hn;obtain⟨g,o,rfl,hg,hc⟩:=h.lies (by rw[hL.len];omega);refine⟨g,o,rfl,hg,fun i a ha=>?_⟩;obtain⟨V,c,h1,h2,h3,k1,k2,h4⟩:=hL.each i a ha;exact⟨V,c,hc _ _ h1,by have:=hc _ _ h2;rwa [<-Nat.add_assoc] at this,by have:=hc _ _ h3;rwa [<-Nat.add_assoc] at this,k1,k2,h4⟩
theorem Has.chs_n {w:World} {B n:Nat} {A:Option Addr} {xs:List Value} {L:List CH} (h:Has w B 3 A n xs) (hL:CHs w B xs L):n=L.length:=by
 have h1:=h.1;have h2:=hL.len;omega
noncomputable def changesL:List EA->List CH->List EA × Int
 | L,[]=>(L,0)
 | L,c::r=>if (changeL L c.1 c.2).2≠0 then ([],(changeL L c.1 c.2).2) else changesL (changeL L c.1 c.2).1 r
end Go.Proofs.YtajkmiialgiikaaGreatDoor
namespace Go.Proofs.YtajkmiialgiikaaGreatDoor
open Go Go.RowKit
theorem zI3 (L:List EA) (c:CH) (r:List CH):changesL L (c::r)=if (changeL L c.1 c.2).2≠0 then ([],(changeL L c.1 c.2).2) else changesL (changeL L c.1 c.2).1 r:=by rw[changesL]
structure Added (L:List EA) (name v:List UInt8) (M:List EA):Prop where
 typ0:(typ name).2≠0
 ok:(valV (typ name).1 v).2=0
 new:¬WithinV (typ name).1 (pickE L (typ name).1) v
 is:M=setE L (typ name).1 (pickE L (typ name).1++[v])
theorem added {L M:List EA} {name v:List UInt8} (h:OkE L) (hc:changesL L [(0,(name,[v]))]=(M,0)):Added L name v M:=by
 rw[zI3] at hc;by_cases q:(changeL L 0 (name,[v])).2≠0
 ·rw [if_pos q] at hc;exact absurd (Prod.mk.inj hc).2 q
 ·rw [if_neg q,changesL] at hc;have e1:=(Prod.mk.inj hc).1;have q:(changeL L 0 (name,[v])).2=0:=by simpa using q
  unfold changeL at q e1;split at q
  ·simp at q
  ·rename_i h0;rw[if_neg h0] at e1;split at q
   ·simp at q
   ·rename_i h1;rw[if_neg h1] at e1;split at q
    ·simp at q
    ·rename_i h2;rw[if_neg h2] at e1;rw[if_pos rfl] at q e1;unfold addL at q e1;rw[if_neg (by simp)] at q e1;have hok:=Classical.not_not.1 h2 v (by simp);by_cases hw:WithinV (typ name).1 (pickE L (typ name).1) v
     ·exfalso;have hg:(gatherL L (typ name).1 [v]).2≠0:=by
       unfold gatherL;rw[if_neg (by simp[hok]),if_pos hw];simp
      rw[if_neg hg] at q;simp at q
     ·have hg:gatherL L (typ name).1 [v]=(setE L (typ name).1 (pickE L (typ name).1++[v]),0):=by
       unfold gatherL;rw[if_neg (by simp[hok]),if_neg hw];unfold gatherL;rfl
      simp only at e1;rw[hg,if_pos rfl] at e1;exact⟨h0,hok,hw,e1.symm⟩
end Go.Proofs.YtajkmiialgiikaaGreatDoor
