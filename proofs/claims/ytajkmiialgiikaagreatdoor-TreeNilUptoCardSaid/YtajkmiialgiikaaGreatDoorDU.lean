/- Several texts in one: DFewC, DFewX, DChgL, DLawA, DLawB. By an AI agent. -/
import Derived.Test.YtajkmiialgiikaaGreatDoorDV
import Derived.Test.YtajkmiialgiikaaGreatDoorEY
import Derived.Test.YtajkmiialgiikaaGreatDoorDM
import Derived.Test.YtajkmiialgiikaaGreatDoorEX
import Derived.Test.YtajkmiialgiikaaGreatDoorDY
import Derived.Test.YtajkmiialgiikaaGreatDoorOpenEnts
set_option linter.unusedSimpArgs false
set_option linter.unusedVariables false
namespace Go.Proofs.YtajkmiialgiikaaGreatDoor
open Go Go.RowKit
structure FewR (w wx:World) (v:Value) (zs:List Value) (M:List EN):Prop where
 own:wx.ownsRow w.heap.size 38 2 v M.length zs
 ents:ENsP wx (fun b=>b<wx.heap.size/\some b≠v.ownBlock) zs M
 base:Below w.heap.size w wx
theorem zK2 {w:World} {base size n b:Nat} {e:TypeId} {v:Value} {xs:List Value} (h:w.ownsRow base e size v n xs) (hb:b<base):some b≠v.ownBlock:=by
 rcases h.2 with⟨rfl,rfl⟩ | ⟨g,cap,cur,rfl,hg,_⟩
 ·simp [Value.ownBlock]
 ·simp [Value.ownBlock];omega
theorem FewR.grow {w wx w':World} {v:Value} {zs:List Value} {M:List EN} (h:FewR w wx v zs M) (hb:Below wx.heap.size wx w'):FewR w w' v zs M:=
 ⟨zAe h.own hb,h.ents.move (fun p hp=>hb.cell hp.1) fun b hb2=>⟨Nat.lt_of_lt_of_le hb2.1 hb.size,hb2.2⟩,h.base.trans (hb.mono h.base.size)⟩
theorem FewR.snoc {w wr wb w5:World} {v v':Value} {zs:List Value} {M:List EN} (h:FewR w wr v zs M) {a:EA} {V:Option Addr} {cv:Nat} (hV:Has w w.heap.size 1 V a.2.length (strs a.2)) (hc:a.2.length<=cv) (hm:cv<=maxLen)
  (hb:Below wr.heap.size wr wb) (hlt:wr.heap.size<wb.heap.size) (c0:wb.cell? ⟨wr.heap.size,0,none⟩=some (.string (txt a.1))) (c1:wb.cell? ⟨wr.heap.size,1,none⟩=some (.slice V a.2.length cv))
  (hown:w5.ownsRow w.heap.size 38 2 v' (M.length+1) (zs++[.string ⟨#[]⟩,.slice (some ⟨wr.heap.size,0,none⟩) 1 1])) (hb5:Below w.heap.size wb w5) (hg:wb.grownBy w5 v.ownBlock) (ht:v'.ownBlock=v.ownBlock\/v'.ownBlock=some wb.heap.size):
  FewR w w5 v' (zs++[.string ⟨#[]⟩,.slice (some ⟨wr.heap.size,0,none⟩) 1 1]) (M++[([],[a])]):=by
 have hg1:=h.grow hb;have hH:HasP wb (fun b=>b<wb.heap.size/\some b≠v.ownBlock) 2 (some ⟨wr.heap.size,0,none⟩) 1 [.string (txt a.1),.slice V a.2.length cv]:=⟨rfl,.inr ⟨_,rfl,⟨hlt,(zP6 h.own h.base.size _ (b1:=wb.heap.size) ⟨Nat.le_refl _,hlt⟩).2.2⟩,fun j u hu=>by
  match j,hu with
  | 0,hu=>rw[<-Option.some.inj hu];exact c0
  | 1,hu=>rw[<-Option.some.inj hu];exact c1
  | j+2,hu=>simp at hu⟩⟩
 have hVb:HasP wb (fun b=>b<wb.heap.size/\some b≠v.ownBlock) 1 V a.2.length (strs a.2):=by have h1:HasP w (fun b=>b<w.heap.size) 1 V a.2.length (strs a.2):=hV;exact h1.move (fun p hp=>hg1.base.cell hp) fun b hb2=>⟨Nat.lt_of_lt_of_le hb2 hg1.base.size,zK2 h.own hb2⟩
 have hE:EAsP wb (fun b=>b<wb.heap.size/\some b≠v.ownBlock) [.string (txt a.1),.slice V a.2.length cv] [a]:=EAsP.nil.snoc hc hm hVb;have h2:=hg1.ents.snoc (a:=([],[a])) (A:=some ⟨wr.heap.size,0,none⟩) (c:=1) (Nat.le_refl _) (by unfold maxLen;omega) hH hE;refine⟨by rw[List.length_append];exact hown,?_,hg1.base.trans hb5⟩;refine h2.move (fun p hp=>World.cell?_of_block (hg.block _ hp.1 hp.2)) fun b hb2=>⟨Nat.lt_of_lt_of_le hb2.1 hg.size,?_⟩
 rcases ht with ht | ht
 ·rw [ht];exact hb2.2
 ·rw [ht];intro q;injection q with q
  have:=hb2.1;omega
open Go Go.RowKit Go.Proofs.YtajkmiialgiikaaGreatDoor.Opens
theorem zPe {n v:List UInt8} (h:(valV n v).2=0):v.length<=200:=by
 cases vway n v with
 | other _ e=>
  rw[e] at h;unfold norm at h;split at h
  ·simp at h
  ·split at h
   ·simp at h
   ·split at h
    ·simp at h
    ·rename_i hn;omega
 | short _ hv e=>omega
 | long _ _ hw e=>rw[e] at h;simp at h
 | none _ _ hw _ e=>omega
 | name _ _ hw _ _ e=>omega
theorem zH5 {nm:List UInt8} {L:List EA} (h:FormedE nm L):L.length<=14/\nm.length<=1000/\∀a∈L,a.2.length<=1000000/\∀u∈a.2,u.length<=1000000:=by
 have hl:=h.loose;have hn:=(zBg (l:=nm) (by rw[hl.norm])).2;rw[hl.norm] at hn;refine⟨hl.attrs.le,hn,fun a ha=>?_⟩;have hf:=hl.attrs.each a ha;exact⟨by have:=hf.hi;omega,fun u hu=>by have:=zPe (hf.ok u hu);omega⟩
theorem cnt_w (L:List EA):cntE L<=(L.map aW).sum:=by
 unfold cntE
 induction L with
 | nil=>simp
 | cons a L ih=>
  simp only[List.map_cons,List.sum_cons];unfold aW;unfold aW at ih;omega
section
variable {w w':World} {h lo n:Nat} {A:Option Addr} {ys:List Value} {L:List EA}
end
end Go.Proofs.YtajkmiialgiikaaGreatDoor
