/- Several texts in one: GrowL, YSort, YCopy, YAlias, YTree. By an AI agent. -/
import Derived.Test.YtjjepcnijmlliaaGreatDoorGrow
import Derived.Test.YtjjepcnijmlliaaGreatDoorYY
import Derived.BigQuiet
import Derived.Test.YtjjepcnijmlliaaGreatDoorEX
import Derived.Deep.CutRange
import Derived.Deep.CutBlock
import Derived.Test.YtjjepcnijmlliaaGreatDoorYX
import Derived.Test.YtjjepcnijmlliaaGreatDoorEY
set_option maxRecDepth 100000
set_option maxHeartbeats 64000000
namespace Go.Proofs.YtjjepcnijmlliaaGreatDoor
open Go Go.RowKit
def waitsOn (md:Region.Mode) (ops:Array Oper) (z i:Nat):Bool:=
 match ops[z]? with
 | some o=>o.after.any fun e=>Region.binds md e&&e.on==i
 | none=>true
theorem waitsOn_spec {md:Region.Mode} {ops:Array Oper} {z i:Nat} (h:waitsOn md ops z i=true):∀oz,ops[z]?=some oz→∃e∈oz.after,Region.binds md e=true∧e.on=i:=by
 intro oz hoz
 unfold waitsOn at h
 rw[hoz] at h
 simp only[Array.any_eq_true,Bool.and_eq_true,beq_iff_eq] at h
 obtain⟨k,hk,h1,h2⟩:=h
 exact⟨oz.after[k],Array.getElem_mem hk,h1,h2⟩
section
variable {P:Program} {ops:Array Oper} {Q:Exit→Act→World→Prop} {md:Region.Mode} {z:Nat}
variable {R:World→World→Prop} [Way R]
def wpAnyL (R:World→World→Prop) (P:Program) (md:Region.Mode) (ops:Array Oper) (Q:Exit→Act→World→Prop) (z:Nat):Nat→Array Bool→Act→World→Prop
 | 0,listed,a,w=>Region.ready md ops listed=[]∧Q .normal a w
 | fuel+1,listed,a,w=>
  (Region.ready md ops listed=[]→Q .normal a w)∧
  ∀i∈Region.ready md ops listed,wpOp P ops Q i (fun a' w'=>(i≠z→R w w')∧wpAnyL R P md ops Q z fuel (listed.setIfInBounds i true) a' w') a w
omit [Way R] in
theorem wpAny_of_growL:∀(fuel:Nat) (listed:Array Bool) (a:Act) (w:World),wpAnyL R P md ops Q z fuel listed a w→wpAny P md ops Q fuel listed a w
 | 0,_,_,_,h=>h
 | fuel+1,_,_,_,h=>⟨h.1,fun i hi=>wpOp_mono (fun a' w' h'=>wpAny_of_growL fuel _ a' w' h'.2) (h.2 i hi)⟩
theorem grow_firstL {i:Nat} {oi:Oper} {v:Value} (hi:ops[i]?=some oi) (hsel:∀(j:Nat) (o:Oper) cs b,ops[j]?=some o→o.op≠.select cs b)
  (hQ:∀c a w,Q (.panic c) (a.put oi.dst v) w→Q (.panic c) a w) (hz:∀oz,ops[z]?=some oz→∃e∈oz.after,Region.binds md e=true∧e.on=i):
  ∀(fuel:Nat) (listed:Array Bool) (a:Act) (w:World),
   (∀j oj,ops[j]?=some oj→j≠i→listed.getD j true=false→(∀e∈oj.after,Region.binds md e=true→e.on≠i)→oi.apart ops oj=true)→
   i∈Region.ready md ops listed→YieldsIf P ops (R w) oi v a→
   wpAnyL R P md ops Q z fuel (listed.setIfInBounds i true) (a.put oi.dst v) w→wpAnyL R P md ops Q z (fuel+1) listed a w:=by
 intro fuel
 induction fuel with
 | zero=>
  intro listed a w _ hr hy H
  refine⟨fun h=>(by rw[h] at hr;cases hr),fun j hj=>?_⟩
  rcases Nat.decEq j i with hne | rfl
  ·have hm:=ready_mono hj hne
   rw[H.1] at hm
   cases hm
  ·exact hy.wpOp hi (Way.refl w) ⟨fun _=>Way.refl w,H⟩
 | succ fuel ih=>
  intro listed a w hfree hr hy H
  refine⟨fun h=>(by rw[h] at hr;cases hr),fun j hj=>?_⟩
  rcases Nat.decEq j i with hne | rfl
  ·obtain ⟨hun,oj,hoj,hwait⟩:=mem_ready.1 hj
   have hno:∀e∈oj.after,Region.binds md e=true→e.on≠i:=by
    intro e he hb hon
    have h1:=hwait e he hb
    have h0:=(mem_ready.1 hr).1
    rw[hon] at h1
    rcases Nat.lt_or_ge i listed.size with hlt | hge
    ·simp [hlt] at h0 h1
     rw[h0] at h1
     cases h1
    ·simp [Array.getElem?_eq_none hge] at h1
   have hjz:j≠z:=fun e=>by
    subst e
    obtain⟨e,he,hb,hon⟩:=hz oj hoj
    exact hno e he hb hon
   have hstep:=wpOp_putIf hoj (hfree j oj hoj hne hun hno) (fun cs b=>hsel i oi cs b hi) (fun cs b=>hsel j oj cs b hoj) hQ hy (H.2 j (ready_mono hj hne))
   refine wpOp_mono (fun a' w' hh=>⟨hh.2.1,ih (listed.setIfInBounds j true) a' w' ?_ (ready_mono hr (Ne.symm hne)) (yields_later (hh.2.1 hjz) hh.1) ?_⟩) hstep
   ·intro k ok hk hki hkun hkno
    refine hfree k ok hk hki ?_ hkno
    rcases Nat.decEq j k with hjk | rfl
    ·rwa [getD_set_ne true hjk] at hkun
    ·exact hun
   ·rw [Array.setIfInBounds_comm _ _ hne]
    exact hh.2.2
  ·exact hy.wpOp hi (Way.refl w) ⟨fun _=>Way.refl w,H⟩
theorem grow_takeL (i:Nat) (d:Option Tmp) {oi:Oper} {v:Value} {fuel:Nat} {listed:Array Bool} {a:Act} {w:World} (hi:ops[i]?=some oi) (hd:oi.dst=d)
  (hs:Region.noSelect ops=true) (hf:Region.free md ops listed i=true) (hr:(Region.ready md ops listed).contains i=true)
  (hQ:∀c a w,Q (.panic c) (a.put d v) w→Q (.panic c) a w) (hz:waitsOn md ops z i=true) (hw:Region.wanted oi (yielded ops a.tmps)=true) (hy:∀W,R w W→(execOp a.eval oi).run P W=.ok (.value v) W)
  (h:wpAnyL R P md ops Q z fuel (listed.setIfInBounds i true) (a.put d v) w):wpAnyL R P md ops Q z (fuel+1) listed a w:=by
 subst hd
 exact grow_firstL hi (Region.noSelect_spec hs) hQ (waitsOn_spec hz) fuel listed a w (Region.free_spec hi hf) (by simpa using hr) (.inl ⟨hw,hy⟩) h
omit [Way R] in
theorem grow_onlyL (i:Nat) {oi:Oper} {fuel:Nat} {listed:Array Bool} {a:Act} {w:World} (hi:ops[i]?=some oi) (hr:Region.ready md ops listed=[i])
  (h:∀K':Act→World→Prop,Shut (∀a' w',(i≠z→R w w')→wpAnyL R P md ops Q z fuel (listed.setIfInBounds i true) a' w'→K' a' w')→if Region.wanted oi (yielded ops a.tmps)=true then Oper.wp P oi a w K' Q else K' (a.put oi.dst undef) w):
  wpAnyL R P md ops Q z (fuel+1) listed a w:=by
 refine⟨fun h0=>(by rw[hr] at h0;cases h0),fun j hj=>?_⟩
 rw[hr] at hj
 obtain rfl:j=i:=by simpa using hj
 exact wpOp_step hi (fun K' hK=>h K' (fun a' w' hb hg=>hK a' w' ⟨hb,hg⟩))
omit [Way R] in
theorem grow_doneL {listed:Array Bool} {a:Act} {w:World} (hr:Region.ready md ops listed=[]) (h:Q .normal a w):
  ∀fuel,wpAnyL R P md ops Q z fuel listed a w
 | 0=>⟨hr,h⟩
 | _+1=>⟨fun _=>h,by rw[hr];simp⟩
end
end Go.Proofs.YtjjepcnijmlliaaGreatDoor
namespace Go.Proofs.YtjjepcnijmlliaaGreatDoor
open Go.RowKit
set_option linter.unusedVariables false
set_option linter.unusedSimpArgs false
noncomputable def posN:List EN→List UInt8→Nat
 | [],_=>0
 | e::L,nm=>if compV e.1 nm<0 then posN L nm+1 else 0
noncomputable def insN (out:List EN) (x:EN):List EN:=
 if (out[posN out x.1]?).map (·.1)=some x.1 then out else out.take (posN out x.1)++x::out.drop (posN out x.1)
noncomputable def sortN (L:List EN):List EN:=L.foldl insN []
theorem posN_le:∀(L:List EN) (nm:List UInt8),posN L nm≤L.length
 | [],_=>by simp[posN]
 | e::L,nm=>by
  have:=posN_le L nm
  unfold posN
  split<;>simp only[List.length_cons]<;>omega
theorem posN_drop {L:List EN} {i:Nat} {e:EN} (h:L[i]?=some e) (nm:List UInt8):posN (L.drop i) nm=if compV e.1 nm<0 then posN (L.drop (i+1)) nm+1 else 0:=by
 obtain⟨h1,h2⟩:=List.getElem?_eq_some_iff.1 h
 rw[List.drop_eq_getElem_cons h1,h2]
 rfl
theorem sortN_snoc (L:List EN) (x:EN):sortN (L++[x])=insN (sortN L) x:=by unfold sortN;rw[List.foldl_append];rfl
theorem insN_mem {out:List EN} {x e:EN} (h:e∈insN out x):e∈out∨e=x:=by
 unfold insN at h
 split at h
 ·exact Or.inl h
 ·rcases List.mem_append.1 h with h | h
  ·exact Or.inl (List.mem_of_mem_take h)
  ·rcases List.mem_cons.1 h with h | h
   ·exact Or.inr h
   ·exact Or.inl (List.mem_of_mem_drop h)
theorem insN_keep {out:List EN} {x e:EN} (h:e∈out):e∈insN out x:=by
 unfold insN
 split
 ·exact h
 ·rw [←List.take_append_drop (posN out x.1) out] at h
  rcases List.mem_append.1 h with h | h
  ·exact List.mem_append.2 (Or.inl h)
  ·exact List.mem_append.2 (Or.inr (List.mem_cons.2 (Or.inr h)))
theorem insN_name (out:List EN) (x:EN):∃f∈insN out x,f.1=x.1:=by
 unfold insN
 split
 ·rename_i h
  obtain⟨f,hf,h1⟩:=Option.map_eq_some_iff.1 h
  exact⟨f,List.mem_of_getElem? hf,h1⟩
 ·exact ⟨x,by simp,rfl⟩
theorem insN_len (out:List EN) (x:EN):(insN out x).length≤out.length+1:=by
 unfold insN
 split
 ·omega
 ·rw [List.length_append,List.length_cons,List.length_take,List.length_drop]
  have:=posN_le out x.1
  omega
theorem sortN_all:∀(L acc:List EN),(∀e∈L.foldl insN acc,e∈acc∨e∈L)∧(∀e∈acc,e∈L.foldl insN acc)∧(∀e∈L,∃f∈L.foldl insN acc,f.1=e.1)∧(L.foldl insN acc).length≤acc.length+L.length
 | [],acc=>⟨fun e h=>Or.inl h,fun e h=>h,fun e h=>(by cases h),by simp⟩
 | x::L,acc=>by
  obtain⟨h1,h2,h3,h4⟩:=sortN_all L (insN acc x)
  simp only[List.foldl_cons]
  refine⟨fun e h=>?_,fun e h=>h2 e (insN_keep h),fun e h=>?_,?_⟩
  ·rcases h1 e h with h | h
   ·rcases insN_mem h with h | h
    ·exact Or.inl h
    ·exact Or.inr (by simp[h])
   ·exact Or.inr (by simp[h])
  ·rcases List.mem_cons.1 h with rfl | h
   ·obtain ⟨f,hf,e1⟩:=insN_name acc e
    exact⟨f,h2 f hf,e1⟩
   ·exact h3 e h
  ·have:=insN_len acc x
   simp only[List.length_cons]
   omega
theorem sortN_mem {L:List EN} {e:EN} (h:e∈sortN L):e∈L:=((sortN_all L []).1 e h).elim (fun h=>by cases h) id
theorem sortN_name {L:List EN} {e:EN} (h:e∈L):∃f∈sortN L,f.1=e.1:=(sortN_all L []).2.2.1 e h
theorem sortN_len (L:List EN):(sortN L).length≤L.length:=by have:=(sortN_all L []).2.2.2;rw[List.length_nil,Nat.zero_add] at this;exact this
structure EntsSome (X:List EN) (w:World) (e:Ending) (w':World):Prop where
 out:∃A c ys,e=.returned (.slice A X.length c)∧X.length≤c∧c≤maxLen∧Has w' w'.heap.size 2 A X.length ys∧ENs w' w'.heap.size ys X∧Below w.heap.size w w'
section
variable {w:World} {B:Nat} {xs ys:List Value} {L M:List EN}
theorem ENs.one (h:ENs w B xs L):∀u∈xs,u.oneCell'=true:=by
 intro u hu
 obtain⟨j,hj,rfl⟩:=List.mem_iff_getElem.1 hu
 have hlen:=h.len
 have hi:j/2<L.length:=by omega
 obtain⟨A,c,zs,h1,h2,_⟩:=h.each (j/2) _ (List.getElem?_eq_getElem hi)
 have hjj:=List.getElem?_eq_getElem hj
 rcases Nat.mod_two_eq_zero_or_one j with hm | hm
 ·rw [show j/2*2=j by omega,hjj] at h1
  rw[Option.some.inj h1]
  rfl
 ·rw [show j/2*2+1=j by omega,hjj] at h2
  rw[Option.some.inj h2]
  rfl
theorem ENs.take (h:ENs w B xs L) (k:Nat):ENs w B (xs.take (k*2)) (L.take k):=by
 refine⟨by rw[List.length_take,List.length_take,h.len];omega,fun i e he=>?_⟩
 rw[List.getElem?_take] at he
 split at he
 ·rename_i hik
  obtain⟨A,c,zs,h1,h2,h3⟩:=h.each i e he
  exact⟨A,c,zs,by rw[List.getElem?_take,if_pos (by omega)];exact h1,by rw[List.getElem?_take,if_pos (by omega)];exact h2,h3⟩
 ·cases he
theorem ENs.drop (h:ENs w B xs L) (k:Nat):ENs w B (xs.drop (k*2)) (L.drop k):=by
 refine⟨by rw[List.length_drop,List.length_drop,h.len];omega,fun i e he=>?_⟩
 rw[List.getElem?_drop] at he
 obtain⟨A,c,zs,h1,h2,h3⟩:=h.each (k+i) e he
 exact⟨A,c,zs,by rw[List.getElem?_drop,show k*2+i*2=(k+i)*2 by omega];exact h1,by rw[List.getElem?_drop,show k*2+(i*2+1)=(k+i)*2+1 by omega];exact h2,h3⟩
theorem ENs.append (h:ENs w B xs L) (k:ENs w B ys M):ENs w B (xs++ys) (L++M):=by
 refine⟨by rw[List.length_append,List.length_append,h.len,k.len];omega,fun i e he=>?_⟩
 by_cases hi:i<L.length
 ·rw [List.getElem?_append_left hi] at he
  obtain⟨A,c,zs,h1,h2,h3⟩:=h.each i e he
  have hl:=h.len
  exact⟨A,c,zs,by rw[List.getElem?_append_left (by omega)];exact h1,by rw[List.getElem?_append_left (by omega)];exact h2,h3⟩
 ·rw [List.getElem?_append_right (by omega)] at he
  obtain⟨A,c,zs,h1,h2,h3⟩:=k.each _ e he
  have hl:=h.len
  exact⟨A,c,zs,by rw[List.getElem?_append_right (by omega),show i*2-xs.length=(i-L.length)*2 by omega];exact h1,by rw[List.getElem?_append_right (by omega),show i*2+1-xs.length=(i-L.length)*2+1 by omega];exact h2,h3⟩
end
theorem sorted_any (L:List EN) (w:World) (A:Option Addr) (n c:Nat) (xs:List Value) (hA:Has w w.heap.size 2 A n xs) (hL:ENs w w.heap.size xs L) (hn:n≤100000) (hnm:∀e∈L,e.1.length≤1000000) (hT:TM w):
  Calls Tryz.prog 38 #[.slice A n c] w (EntsSome (sortN L) w):=by
 have hnl:=hA.ens_n hL
 have hCm:∀e∈L,∀f∈L,∀w,TM w→Calls Tryz.prog 66 #[.string (txt e.1),.string (txt f.1)] w fun e' w'=>e'=.returned (.int .i64 (compV e.1 f.1))∧Below w.heap.size w w':=fun e he f hf w hT=>rcompare_text e.1 f.1 (hnm e he) (hnm f hf) w hT
 suffices H:Calls Tryz.prog 38 #[.slice A n c] w fun e w'=>Hid (EntsSome (sortN L) w e w') from H.mono fun e w' h=>h.out
 have HA:=hide hA
 have HL:=hide hL
 have HT:=hide hT
 have HN:=hide hnl
 have HCms:=hide hCm
 clear hA hL hT hnl hCm hnm
 go_enter Tryz.func38,Tryz.ntmps38
 go_wp2
 go_loopg [3,9] n (fun k s3 s9 wx=>∃(i:Nat) (Ao:Option Addr) (co ko:Nat) (zs:List Value),i+k=n∧s9=.int .i64 (i:Int)∧s3=.slice Ao ko co∧ko≤i∧Hid (Has wx wx.heap.size 2 Ao ko zs∧ENs wx wx.heap.size zs (sortN (L.take i))∧(sortN (L.take i)).length=ko∧ko≤co∧co≤maxLen)∧Hid (Below w.heap.size w wx))
 case atStart=>exact⟨0,none,0,0,[],by omega,rfl,rfl,by omega,hide ⟨Has.nil,⟨rfl,fun i e he=>by simp[sortN] at he⟩,rfl,by omega,by omega⟩,hide (Below.refl _ _)⟩
 case round=>
  obtain⟨i,Ao,co,ko,zs,hig,rfl,rfl,hko,HO,hbr⟩:=hrel
  cases gk with
  | zero=>
   obtain rfl:i=n:=by omega
   have hiz:¬((i:Int)<(i:Int)):=by omega
   have ho:=HO.out
   rw[List.take_of_length_le (by rw[←HN.out];exact Nat.le_refl _)] at ho
   have Ho:Hid (EntsSome (sortN L) w (.returned (.slice Ao ko co)) wr):=hide (by
    obtain⟨h1,h2,h3,h4,h5⟩:=ho
    subst h3
    exact⟨⟨Ao,co,zs,rfl,h4,h5,h1,h2,hbr.out⟩⟩)
   clear HA HL HT HN HCms HO ho hbr
   go_wp2
   go_ret
   exact Ho
  | succ r=>
   have hi:i<n:=by omega
   have hiz:(i:Int)<(n:Int):=by omega
   obtain⟨x,hx⟩:∃x,L[i]?=some x:=⟨_,List.getElem?_eq_getElem (by rw[←HN.out];exact hi)⟩
   have hxm:=List.mem_of_getElem? hx
   obtain⟨g,o,hAe,hg,hat⟩:=HA.out.en HL.out (fun h=>by rw[h] at hx;simp at hx)
   subst hAe
   obtain⟨U,cu,us,hat⟩:=hat i x hx
   obtain⟨wo,rfl⟩:∃wo,wo=wr:=⟨wr,rfl⟩
   have Hat:=hide hat
   have Hso:Hid (∀e∈sortN (L.take i),e∈L):=hide fun e he=>List.mem_of_mem_take (sortN_mem he)
   have Hnx:Hid (sortN (L.take (i+1))=insN (sortN (L.take i)) x):=hide (by rw[List.take_add_one,hx];exact sortN_snoc _ x)
   have HCx:=hide (fun f hf=>HCms.out f hf x hxm)
   obtain⟨TX,hTX⟩:∃TX,txt x.1=TX:=⟨_,rfl⟩
   obtain⟨kx,hkx⟩:∃kx,x.2.length=kx:=⟨_,rfl⟩
   have Hk:=hide (And.intro hTX hkx)
   have Hcx:Hid (wo.cell? ⟨g,o+i*2,none⟩=some (.string TX)∧wo.cell? ⟨g,o+i*2+1,none⟩=some (.slice U kx cu)):=hide (by
    rw[←hTX,←hkx]
    exact⟨(hbr.out.cell (p:=⟨g,o+i*2,none⟩) hg).trans hat.e0,(hbr.out.cell (p:=⟨g,o+i*2+1,none⟩) hg).trans hat.e1⟩)
   have hgo:g<wo.heap.size:=Nat.lt_of_lt_of_le hg hbr.out.size
   rw[hTX] at HCx
   generalize sortN (L.take i)=O at *
   obtain⟨P,hP⟩:∃P,posN O x.1=P:=⟨_,rfl⟩
   have HP:=hide hP
   have hko9:ko≤100000:=by omega
   clear hat hx hxm hTX hkx hP
   go_wp2
   go_loopg [5] ko (fun k s5 wx=>∃q:Nat,q+k=ko∧s5=.int .i64 (q:Int)∧Hid (posN (O.drop q) x.1+q=P)∧Hid (Below wo.heap.size wo wx))
   case atStart=>exact⟨0,by omega,rfl,hide (by rw[List.drop_zero];exact HP.out),hide (Below.refl _ _)⟩
   case round=>
    obtain⟨q,hqg,rfl,hpq,hbq⟩:=hrel
    cases gk with
    | zero=>
     obtain rfl:q=ko:=by omega
     have hqz:¬((q:Int)<(q:Int)):=by omega
     have hqz2:decide ((q:Int)<(q:Int))=false:=decide_eq_false hqz
     have HPe:Hid (P=q):=hide (by
      have h1:=hpq.out
      have h2:=posN_le (O.drop q) x.1
      rw[List.length_drop,HO.out.2.2.1] at h2
      omega)
     have Hne:Hid ((O[P]?).map (·.1)≠some x.1):=hide (by
      rw[HPe.out,List.getElem?_eq_none (by rw[HO.out.2.2.1];exact Nat.le_refl _)]
      simp)
     have HB6:=hide hbq.out.drew
     clear hpq HCx Hso HCms
     go_wp2_with fail
     refine grow_begin (by kernel_rfl) ?_
     generalize wr.drew=wd at *
     refine grow_take 0 (some 12) (v:=?va0) rfl rfl (by kernel_rfl) (by kernel_rfl) (by kernel_rfl) (fun _ _ _ h=>h) (by rfl) (fun W hW=>?ya0) ?_
     case ya0=>
      go_simp<;>with_reducible rfl
     try simp only[Act.put,List.setIfInBounds_toArray,List.set_cons_zero,List.set_cons_succ]
     refine grow_take 1 (some 13) (v:=?va1) rfl rfl (by kernel_rfl) (by kernel_rfl) (by kernel_rfl) (fun _ _ _ h=>h) (by rfl) (fun W hW=>?ya1) ?_
     case ya1=>
      go_simp<;>with_reducible rfl
     try simp only[Act.put,List.setIfInBounds_toArray,List.set_cons_zero,List.set_cons_succ]
     refine grow_take 2 (some 14) (v:=?va2) rfl rfl (by kernel_rfl) (by kernel_rfl) (by kernel_rfl) (fun _ _ _ h=>h) (by rfl) (fun W hW=>?ya2) ?_
     case ya2=>
      go_simp<;>with_reducible rfl
     try simp only[Act.put,List.setIfInBounds_toArray,List.set_cons_zero,List.set_cons_succ]
     refine grow_take 3 (some 15) (v:=.bool false) rfl rfl (by kernel_rfl) (by kernel_rfl) (by kernel_rfl) (fun _ _ _ h=>h) (by rfl) (fun W hW=>?ya3) ?_
     case ya3=>
      go_simp<;>with_reducible rfl
     try simp only[Act.put,List.setIfInBounds_toArray,List.set_cons_zero,List.set_cons_succ]
     refine grow_take 4 (some 16) (v:=?va4) rfl rfl (by kernel_rfl) (by kernel_rfl) (by kernel_rfl) (fun _ _ _ h=>h) (by rfl) (fun W hW=>?ya4) ?_
     case ya4=>
      go_simp<;>with_reducible rfl
     try simp only[Act.put,List.setIfInBounds_toArray,List.set_cons_zero,List.set_cons_succ]
     refine grow_skip 5 (some 17) rfl rfl (by kernel_rfl) (by kernel_rfl) (by kernel_rfl) (fun _ _ _ h=>h) (by rfl) ?_
     try simp only[Act.put,List.setIfInBounds_toArray,List.set_cons_zero,List.set_cons_succ]
     refine grow_skip 6 (some 18) rfl rfl (by kernel_rfl) (by kernel_rfl) (by kernel_rfl) (fun _ _ _ h=>h) (by rfl) ?_
     try simp only[Act.put,List.setIfInBounds_toArray,List.set_cons_zero,List.set_cons_succ]
     refine grow_skip 7 (some 19) rfl rfl (by kernel_rfl) (by kernel_rfl) (by kernel_rfl) (fun _ _ _ h=>h) (by rfl) ?_
     try simp only[Act.put,List.setIfInBounds_toArray,List.set_cons_zero,List.set_cons_succ]
     refine grow_skip 8 (some 20) rfl rfl (by kernel_rfl) (by kernel_rfl) (by kernel_rfl) (fun _ _ _ h=>h) (by rfl) ?_
     try simp only[Act.put,List.setIfInBounds_toArray,List.set_cons_zero,List.set_cons_succ]
     refine grow_skip 9 (some 21) rfl rfl (by kernel_rfl) (by kernel_rfl) (by kernel_rfl) (fun _ _ _ h=>h) (by rfl) ?_
     try simp only[Act.put,List.setIfInBounds_toArray,List.set_cons_zero,List.set_cons_succ]
     refine grow_skip 10 (some 22) rfl rfl (by kernel_rfl) (by kernel_rfl) (by kernel_rfl) (fun _ _ _ h=>h) (by rfl) ?_
     try simp only[Act.put,List.setIfInBounds_toArray,List.set_cons_zero,List.set_cons_succ]
     refine grow_skip 11 (some 23) rfl rfl (by kernel_rfl) (by kernel_rfl) (by kernel_rfl) (fun _ _ _ h=>h) (by rfl) ?_
     try simp only[Act.put,List.setIfInBounds_toArray,List.set_cons_zero,List.set_cons_succ]
     refine grow_skip 12 (some 24) rfl rfl (by kernel_rfl) (by kernel_rfl) (by kernel_rfl) (fun _ _ _ h=>h) (by rfl) ?_
     try simp only[Act.put,List.setIfInBounds_toArray,List.set_cons_zero,List.set_cons_succ]
     refine grow_skip 13 (some 25) rfl rfl (by kernel_rfl) (by kernel_rfl) (by kernel_rfl) (fun _ _ _ h=>h) (by rfl) ?_
     try simp only[Act.put,List.setIfInBounds_toArray,List.set_cons_zero,List.set_cons_succ]
     refine grow_skip 14 (some 26) rfl rfl (by kernel_rfl) (by kernel_rfl) (by kernel_rfl) (fun _ _ _ h=>h) (by rfl) ?_
     try simp only[Act.put,List.setIfInBounds_toArray,List.set_cons_zero,List.set_cons_succ]
     refine grow_skip 15 (some 27) rfl rfl (by kernel_rfl) (by kernel_rfl) (by kernel_rfl) (fun _ _ _ h=>h) (by rfl) ?_
     try simp only[Act.put,List.setIfInBounds_toArray,List.set_cons_zero,List.set_cons_succ]
     refine grow_skip 16 (some 28) rfl rfl (by kernel_rfl) (by kernel_rfl) (by kernel_rfl) (fun _ _ _ h=>h) (by rfl) ?_
     try simp only[Act.put,List.setIfInBounds_toArray,List.set_cons_zero,List.set_cons_succ]
     refine grow_take 17 (some 29) (v:=?va17) rfl rfl (by kernel_rfl) (by kernel_rfl) (by kernel_rfl) (fun _ _ _ h=>h) (by rfl) (fun W hW=>?ya17) ?_
     case ya17=>
      go_simp<;>with_reducible rfl
     try simp only[Act.put,List.setIfInBounds_toArray,List.set_cons_zero,List.set_cons_succ]
     refine grow_done (by kernel_rfl) ?_ _
     have hq0:(0:Int)≤(q:Int):=by omega
     go_wp2
     go_quiet (fail)
     have hqk:q≤q:=Nat.le_refl _
     have hone:=HO.out.2.1.one
     have hone1:∀u∈zs.take (q*2),u.oneCell'=true:=fun u hu=>hone u (List.mem_of_mem_take hu)
     have hone2:∀u∈zs.drop (q*2),u.oneCell'=true:=fun u hu=>hone u (List.mem_of_mem_drop hu)
     have hH1:=HO.out.1.first hqk
     have hcap:=HO.out.2.2.2.1
     have hcm:=HO.out.2.2.2.2
     unfold maxLen at hcm
     have hqc:q≤co:=by omega
     have hqci:(q:Int)≤(co:Int):=by omega
     have Hone2:=hide hone2
     clear hone hone2
     go_wp2_with (at_builtin;go_must (refine appN _ 22 33 _ 2 40 Tryz.underlying22 infoEN rfl (by omega) (by omega) rfl (.tmp 49) (.tmp 52) rfl wo.heap.size _ 0 [] rfl (World.ownsRow_nil _ _ _ _) _ _ q co _ rfl (hH1.below (Below.drewN HB6.out _)) hone1 (by omega) (Below.drewN HB6.out _).size ?_))
     intro v1 w1 hown1 hb1 hg1 ht1
     have hB1:=(Below.drewN HB6.out _).trans hb1
     have c2:=(hB1.cell (p:=⟨g,o+i*2,none⟩) hgo).trans Hcx.out.1
     have c3:=(hB1.cell (p:=⟨g,o+i*2+1,none⟩) hgo).trans Hcx.out.2
     have hba:=below1 w1 (.cells #[.string TX,.slice U kx cu] 33)
     have hlit:=litY w1 (.string TX) (.slice U kx cu) 33 rfl rfl
     have h1c:∀u∈[Value.string TX,Value.slice U kx cu],u.oneCell'=true:=by simp[Value.oneCell']
     have hown1a:=own_below hown1 hba
     have hB1a:=hB1.trans (hba.mono hB1.size)
     have hs1a:=hB1a.size
     have HB1a:=hide hB1a
     clear hown1 hb1 hg1 ht1 hB1 hba hone1 hH1 hB1a
     go_wp2_with (at_builtin;go_must (refine appN _ 22 33 _ 2 40 Tryz.underlying22 infoEN rfl (by omega) (by omega) rfl (.tmp 54) (.tmp 59) rfl wo.heap.size _ _ _ rfl hown1a _ _ 1 1 [.string TX,.slice U kx cu] rfl (Has.own hlit) h1c (by omega) hs1a ?_))
     intro v2 w2 hown2 hb2 hg2 ht2
     have hB2:=HB1a.out.trans hb2
     have hs2:=hB2.size
     have hH2:=(HO.out.1.below hB2).from_ (k:=q) (cap:=co) hqk hcap
     have HB2:=hide hB2
     have hone2:=Hone2.out
     clear hb2 hg2 ht2 hB2 hlit h1c hown1a hs1a HB1a c2 c3 Hone2
     cases Ao with
     | none=>
      go_wp2_with (at_builtin;go_must (refine appN _ 22 33 _ 2 40 Tryz.underlying22 infoEN rfl (by omega) (by omega) rfl (.tmp 61) (.tmp 64) rfl wo.heap.size _ _ _ rfl hown2 wo.heap.size _ 0 _ [] rfl ⟨by simp,.inl rfl⟩ (fun u hu=>by cases hu) (by omega) hs2 ?_))
      intro v3 w3 hown3 hb3 hg3 ht3
      have hdz:zs.drop (q*2)=[]:=List.drop_eq_nil_of_le (by have:=HO.out.2.1.len;have:=HO.out.2.2.1;omega)
      rw[←hdz] at hown3
      have hB3:=HB2.out.trans hb3
      have hw3:=hbr.out.trans (hB3.mono hbr.out.size)
      obtain⟨A3,c3,rfl,hc3,hH3⟩:=own_form hown3
      have hm3:=own_most hown3
      have hE3:=(((HO.out.2.1.below hB3).take q).snoc Hat.out.cap Hat.out.most ((Hat.out.has.below hw3).upto hbr.out.size) ((Hat.out.attrs.below hw3).upto hbr.out.size)).append ((HO.out.2.1.below hB3).drop q)
      have hins:insN O x=(O.take q++[x])++O.drop q:=by
       unfold insN
       rw[HP.out,if_neg Hne.out,HPe.out,List.append_assoc]
       rfl
      rw[Hk.out.1,Hk.out.2,←hins,List.append_assoc] at hE3
      have hH3:Has w3 w3.heap.size 2 A3 (q+1) (zs.take (q*2)++([.string TX,.slice U kx cu]++zs.drop (q*2))):=by simpa using hH3
      have hlen3:=hH3.ens_n (hE3.upto hB3.size)
      have HO3:=hide (And.intro hH3 (And.intro (hE3.upto hB3.size) (And.intro hlen3.symm (And.intro hc3 hm3))))
      have Hw3:=hide hw3
      rw[←Hnx.out] at HO3
      clear hown3 hb3 hg3 ht3 hB3 hw3 hc3 hH3 hm3 hE3 hins hlen3 hown2 hs2 hH2 hone2 HB2 hcm HO
      go_wp2
      go_roundg r
      case measure=>omega
      case rel=>exact⟨i+1,A3,c3,_,_,by omega,by go_num,rfl,by omega,HO3,Hw3⟩
     | some ad=>
      by_cases hcq:co=q
      ·go_wp2_with (at_builtin;go_must (refine appN _ 22 33 _ 2 40 Tryz.underlying22 infoEN rfl (by omega) (by omega) rfl (.tmp 61) (.tmp 64) rfl wo.heap.size _ _ _ rfl hown2 wo.heap.size _ 0 _ [] rfl ⟨by simp,.inl rfl⟩ (fun u hu=>by cases hu) (by omega) hs2 ?_))
       intro v3 w3 hown3 hb3 hg3 ht3
       have hdz:zs.drop (q*2)=[]:=List.drop_eq_nil_of_le (by have:=HO.out.2.1.len;have:=HO.out.2.2.1;omega)
       rw[←hdz] at hown3
       have hB3:=HB2.out.trans hb3
       have hw3:=hbr.out.trans (hB3.mono hbr.out.size)
       obtain⟨A3,c3,rfl,hc3,hH3⟩:=own_form hown3
       have hm3:=own_most hown3
       have hE3:=(((HO.out.2.1.below hB3).take q).snoc Hat.out.cap Hat.out.most ((Hat.out.has.below hw3).upto hbr.out.size) ((Hat.out.attrs.below hw3).upto hbr.out.size)).append ((HO.out.2.1.below hB3).drop q)
       have hins:insN O x=(O.take q++[x])++O.drop q:=by
        unfold insN
        rw[HP.out,if_neg Hne.out,HPe.out,List.append_assoc]
        rfl
       rw[Hk.out.1,Hk.out.2,←hins,List.append_assoc] at hE3
       have hH3:Has w3 w3.heap.size 2 A3 (q+1) (zs.take (q*2)++([.string TX,.slice U kx cu]++zs.drop (q*2))):=by simpa using hH3
       have hlen3:=hH3.ens_n (hE3.upto hB3.size)
       have HO3:=hide (And.intro hH3 (And.intro (hE3.upto hB3.size) (And.intro hlen3.symm (And.intro hc3 hm3))))
       have Hw3:=hide hw3
       rw[←Hnx.out] at HO3
       clear hown3 hb3 hg3 ht3 hB3 hw3 hc3 hH3 hm3 hE3 hins hlen3 hown2 hs2 hH2 hone2 HB2 hcm HO
       go_wp2
       go_roundg r
       case measure=>omega
       case rel=>exact⟨i+1,A3,c3,_,_,by omega,by go_num,rfl,by omega,HO3,Hw3⟩
      ·go_wp2_with (at_builtin;go_must (refine appN _ 22 33 _ 2 40 Tryz.underlying22 infoEN rfl (by omega) (by omega) rfl (.tmp 61) (.tmp 64) rfl wo.heap.size _ _ _ rfl hown2 wo.heap.size _ 0 _ [] rfl ⟨by simp,.inl rfl⟩ (fun u hu=>by cases hu) (by omega) hs2 ?_))
       intro v3 w3 hown3 hb3 hg3 ht3
       have hdz:zs.drop (q*2)=[]:=List.drop_eq_nil_of_le (by have:=HO.out.2.1.len;have:=HO.out.2.2.1;omega)
       rw[←hdz] at hown3
       have hB3:=HB2.out.trans hb3
       have hw3:=hbr.out.trans (hB3.mono hbr.out.size)
       obtain⟨A3,c3,rfl,hc3,hH3⟩:=own_form hown3
       have hm3:=own_most hown3
       have hE3:=(((HO.out.2.1.below hB3).take q).snoc Hat.out.cap Hat.out.most ((Hat.out.has.below hw3).upto hbr.out.size) ((Hat.out.attrs.below hw3).upto hbr.out.size)).append ((HO.out.2.1.below hB3).drop q)
       have hins:insN O x=(O.take q++[x])++O.drop q:=by
        unfold insN
        rw[HP.out,if_neg Hne.out,HPe.out,List.append_assoc]
        rfl
       rw[Hk.out.1,Hk.out.2,←hins,List.append_assoc] at hE3
       have hH3:Has w3 w3.heap.size 2 A3 (q+1) (zs.take (q*2)++([.string TX,.slice U kx cu]++zs.drop (q*2))):=by simpa using hH3
       have hlen3:=hH3.ens_n (hE3.upto hB3.size)
       have HO3:=hide (And.intro hH3 (And.intro (hE3.upto hB3.size) (And.intro hlen3.symm (And.intro hc3 hm3))))
       have Hw3:=hide hw3
       rw[←Hnx.out] at HO3
       clear hown3 hb3 hg3 ht3 hB3 hw3 hc3 hH3 hm3 hE3 hins hlen3 hown2 hs2 hH2 hone2 HB2 hcm HO
       go_wp2
       go_roundg r
       case measure=>omega
       case rel=>exact⟨i+1,A3,c3,_,_,by omega,by go_num,rfl,by omega,HO3,Hw3⟩
    | succ k2=>
     have hq:q<ko:=by omega
     have hqz:(q:Int)<(ko:Int):=by omega
     obtain⟨f,hf⟩:∃f,O[q]?=some f:=⟨_,List.getElem?_eq_getElem (by rw[HO.out.2.2.1];exact hq)⟩
     have hfm:=List.mem_of_getElem? hf
     have HCm:=hide (HCx.out f (Hso.out f hfm))
     obtain⟨go,oo,hOe,hgg,hatf⟩:=HO.out.1.en HO.out.2.1 (fun h=>by rw[h] at hf;simp at hf)
     subst hOe
     obtain⟨Uf,cf,usf,hatf⟩:=hatf q f hf
     have hpd:=posN_drop hf x.1
     have HBd:Hid (Below wo.heap.size wo wr.drew):=hide hbq.out.drew
     obtain⟨TF,hTF⟩:∃TF,txt f.1=TF:=⟨_,rfl⟩
     have X0:Hid (∀W,Below wr.drew.heap.size wr.drew W→W.cell? ⟨go,oo+q*2,none⟩=some (.string TF)∧W.cell? ⟨g,o+i*2,none⟩=some (.string TX)):=hide fun W hW=>by
      have h2:=HBd.out.trans (hW.mono HBd.out.size)
      rw[←hTF]
      exact⟨(h2.cell (p:=⟨go,oo+q*2,none⟩) hgg).trans hatf.e0,(h2.cell (p:=⟨g,o+i*2,none⟩) hgo).trans Hcx.out.1⟩
     have HTF:=hide hTF
     have hff:Hid (wo.cell? ⟨go,oo+q*2,none⟩=some (.string TF)):=hide (by rw[←hTF];exact hatf.e0)
     rw[hTF] at HCm
     have hTo:TM wo:=HT.out.below hbr.out
     have HTo:=hide hTo
     obtain⟨y,hy⟩:∃y,compV f.1 x.1=y:=⟨_,rfl⟩
     rw[hy] at HCm
     have Hf:=hide hf
     have Hgg:=hide hgg
     by_cases hlt:y<0
     ·have zd:decide (y<0)=true:=decide_eq_true hlt
      have hpq2:Hid (posN (O.drop (q+1)) x.1+(q+1)=P):=hide (by
       have:=hpq.out
       rw[hpd,if_pos (by rw[hy];exact hlt)] at this
       omega)
      clear hTF hTo hfm hatf hpd hpq hf hgg HTF hff hy HCx Hso HCms
      go_wp2_with fail
      refine grow_begin (by kernel_rfl) ?_
      generalize wr.drew=wd at *
      refine grow_take 0 (some 12) (v:=?vb0) rfl rfl (by kernel_rfl) (by kernel_rfl) (by kernel_rfl) (fun _ _ _ h=>h) (by rfl) (fun W hW=>?yb0) ?_
      case yb0=>
       go_simp<;>with_reducible rfl
      try simp only[Act.put,List.setIfInBounds_toArray,List.set_cons_zero,List.set_cons_succ]
      refine grow_take 1 (some 13) (v:=?vb1) rfl rfl (by kernel_rfl) (by kernel_rfl) (by kernel_rfl) (fun _ _ _ h=>h) (by rfl) (fun W hW=>?yb1) ?_
      case yb1=>
       go_simp<;>with_reducible rfl
      try simp only[Act.put,List.setIfInBounds_toArray,List.set_cons_zero,List.set_cons_succ]
      refine grow_take 2 (some 14) (v:=?vb2) rfl rfl (by kernel_rfl) (by kernel_rfl) (by kernel_rfl) (fun _ _ _ h=>h) (by rfl) (fun W hW=>?yb2) ?_
      case yb2=>
       go_simp<;>with_reducible rfl
      try simp only[Act.put,List.setIfInBounds_toArray,List.set_cons_zero,List.set_cons_succ]
      refine grow_take 3 (some 15) (v:=?vb3) rfl rfl (by kernel_rfl) (by kernel_rfl) (by kernel_rfl) (fun _ _ _ h=>h) (by rfl) (fun W hW=>?yb3) ?_
      case yb3=>
       go_simp<;>with_reducible rfl
      try simp only[Act.put,List.setIfInBounds_toArray,List.set_cons_zero,List.set_cons_succ]
      refine grow_take 4 (some 16) (v:=?vb4) rfl rfl (by kernel_rfl) (by kernel_rfl) (by kernel_rfl) (fun _ _ _ h=>h) (by rfl) (fun W hW=>?yb4) ?_
      case yb4=>
       go_simp<;>with_reducible rfl
      try simp only[Act.put,List.setIfInBounds_toArray,List.set_cons_zero,List.set_cons_succ]
      refine grow_take 5 (some 17) (v:=?vb5) rfl rfl (by kernel_rfl) (by kernel_rfl) (by kernel_rfl) (fun _ _ _ h=>h) (by rfl) (fun W hW=>?yb5) ?_
      case yb5=>
       go_simp<;>with_reducible rfl
      try simp only[Act.put,List.setIfInBounds_toArray,List.set_cons_zero,List.set_cons_succ]
      refine grow_take 6 (some 18) (v:=?vb6) rfl rfl (by kernel_rfl) (by kernel_rfl) (by kernel_rfl) (fun _ _ _ h=>h) (by rfl) (fun W hW=>?yb6) ?_
      case yb6=>
       go_simp<;>with_reducible rfl
      try simp only[Act.put,List.setIfInBounds_toArray,List.set_cons_zero,List.set_cons_succ]
      refine grow_take 7 (some 19) (v:=?vb7) rfl rfl (by kernel_rfl) (by kernel_rfl) (by kernel_rfl) (fun _ _ _ h=>h) (by rfl) (fun W hW=>?yb7) ?_
      case yb7=>
       go_simp<;>with_reducible rfl
      try simp only[Act.put,List.setIfInBounds_toArray,List.set_cons_zero,List.set_cons_succ]
      refine grow_take 8 (some 20) (v:=?vb8) rfl rfl (by kernel_rfl) (by kernel_rfl) (by kernel_rfl) (fun _ _ _ h=>h) (by rfl) (fun W hW=>?yb8) ?_
      case yb8=>
       go_simp<;>with_reducible rfl
      try simp only[Act.put,List.setIfInBounds_toArray,List.set_cons_zero,List.set_cons_succ]
      refine grow_take 9 (some 21) (v:=?vb9) rfl rfl (by kernel_rfl) (by kernel_rfl) (by kernel_rfl) (fun _ _ _ h=>h) (by rfl) (fun W hW=>?yb9) ?_
      case yb9=>
       have k0:=(X0.out W hW).1
       go_simp<;>with_reducible rfl
      try simp only[Act.put,List.setIfInBounds_toArray,List.set_cons_zero,List.set_cons_succ]
      refine grow_take 10 (some 22) (v:=?vb10) rfl rfl (by kernel_rfl) (by kernel_rfl) (by kernel_rfl) (fun _ _ _ h=>h) (by rfl) (fun W hW=>?yb10) ?_
      case yb10=>
       go_simp<;>with_reducible rfl
      try simp only[Act.put,List.setIfInBounds_toArray,List.set_cons_zero,List.set_cons_succ]
      refine grow_take 11 (some 23) (v:=?vb11) rfl rfl (by kernel_rfl) (by kernel_rfl) (by kernel_rfl) (fun _ _ _ h=>h) (by rfl) (fun W hW=>?yb11) ?_
      case yb11=>
       go_simp<;>with_reducible rfl
      try simp only[Act.put,List.setIfInBounds_toArray,List.set_cons_zero,List.set_cons_succ]
      refine grow_take 12 (some 24) (v:=?vb12) rfl rfl (by kernel_rfl) (by kernel_rfl) (by kernel_rfl) (fun _ _ _ h=>h) (by rfl) (fun W hW=>?yb12) ?_
      case yb12=>
       go_simp<;>with_reducible rfl
      try simp only[Act.put,List.setIfInBounds_toArray,List.set_cons_zero,List.set_cons_succ]
      refine grow_take 13 (some 25) (v:=?vb13) rfl rfl (by kernel_rfl) (by kernel_rfl) (by kernel_rfl) (fun _ _ _ h=>h) (by rfl) (fun W hW=>?yb13) ?_
      case yb13=>
       go_simp<;>with_reducible rfl
      try simp only[Act.put,List.setIfInBounds_toArray,List.set_cons_zero,List.set_cons_succ]
      refine grow_take 14 (some 26) (v:=?vb14) rfl rfl (by kernel_rfl) (by kernel_rfl) (by kernel_rfl) (fun _ _ _ h=>h) (by rfl) (fun W hW=>?yb14) ?_
      case yb14=>
       have k0:=(X0.out W hW).2
       go_simp<;>with_reducible rfl
      try simp only[Act.put,List.setIfInBounds_toArray,List.set_cons_zero,List.set_cons_succ]
      refine grow_only 15 rfl (by kernel_rfl) (fun K hK=>?_)
      go_simp
      refine (HCm.out _ (HTo.out.below HBd.out)).mono ?_
      rintro e w6 ⟨rfl,hb6⟩
      refine hK.out _ _ hb6 ?_
      have HB6:=hide (HBd.out.trans (hb6.mono HBd.out.size))
      clear hK K hb6 HBd HCm
      try simp only[Act.put,List.setIfInBounds_toArray,List.set_cons_zero,List.set_cons_succ]
      refine grow_take 16 (some 28) (v:=.bool true) rfl rfl (by kernel_rfl) (by kernel_rfl) (by kernel_rfl) (fun _ _ _ h=>h) (by rfl) (fun W hW=>?yb16) ?_
      case yb16=>
       go_simp<;>with_reducible rfl
      try simp only[Act.put,List.setIfInBounds_toArray,List.set_cons_zero,List.set_cons_succ]
      refine grow_take 17 (some 29) (v:=?vb17) rfl rfl (by kernel_rfl) (by kernel_rfl) (by kernel_rfl) (fun _ _ _ h=>h) (by rfl) (fun W hW=>?yb17) ?_
      case yb17=>
       go_simp<;>with_reducible rfl
      try simp only[Act.put,List.setIfInBounds_toArray,List.set_cons_zero,List.set_cons_succ]
      refine grow_done (by kernel_rfl) ?_ _
      go_wp2
      go_roundg k2
      case measure=>omega
      case rel=>exact⟨q+1,by omega,by go_num,hpq2,HB6⟩
     ·have zd:decide (y<0)=false:=decide_eq_false hlt
      have HPe:Hid (P=q):=hide (by
       have:=hpq.out
       rw[hpd,if_neg (by rw[hy];exact hlt)] at this
       omega)
      clear hTF hTo hfm hatf hpd hpq hf hgg hy HCx Hso HCms
      go_wp2_with fail
      refine grow_begin (by kernel_rfl) ?_
      generalize wr.drew=wd at *
      refine grow_take 0 (some 12) (v:=?vc0) rfl rfl (by kernel_rfl) (by kernel_rfl) (by kernel_rfl) (fun _ _ _ h=>h) (by rfl) (fun W hW=>?yc0) ?_
      case yc0=>
       go_simp<;>with_reducible rfl
      try simp only[Act.put,List.setIfInBounds_toArray,List.set_cons_zero,List.set_cons_succ]
      refine grow_take 1 (some 13) (v:=?vc1) rfl rfl (by kernel_rfl) (by kernel_rfl) (by kernel_rfl) (fun _ _ _ h=>h) (by rfl) (fun W hW=>?yc1) ?_
      case yc1=>
       go_simp<;>with_reducible rfl
      try simp only[Act.put,List.setIfInBounds_toArray,List.set_cons_zero,List.set_cons_succ]
      refine grow_take 2 (some 14) (v:=?vc2) rfl rfl (by kernel_rfl) (by kernel_rfl) (by kernel_rfl) (fun _ _ _ h=>h) (by rfl) (fun W hW=>?yc2) ?_
      case yc2=>
       go_simp<;>with_reducible rfl
      try simp only[Act.put,List.setIfInBounds_toArray,List.set_cons_zero,List.set_cons_succ]
      refine grow_take 3 (some 15) (v:=?vc3) rfl rfl (by kernel_rfl) (by kernel_rfl) (by kernel_rfl) (fun _ _ _ h=>h) (by rfl) (fun W hW=>?yc3) ?_
      case yc3=>
       go_simp<;>with_reducible rfl
      try simp only[Act.put,List.setIfInBounds_toArray,List.set_cons_zero,List.set_cons_succ]
      refine grow_take 4 (some 16) (v:=?vc4) rfl rfl (by kernel_rfl) (by kernel_rfl) (by kernel_rfl) (fun _ _ _ h=>h) (by rfl) (fun W hW=>?yc4) ?_
      case yc4=>
       go_simp<;>with_reducible rfl
      try simp only[Act.put,List.setIfInBounds_toArray,List.set_cons_zero,List.set_cons_succ]
      refine grow_take 5 (some 17) (v:=?vc5) rfl rfl (by kernel_rfl) (by kernel_rfl) (by kernel_rfl) (fun _ _ _ h=>h) (by rfl) (fun W hW=>?yc5) ?_
      case yc5=>
       go_simp<;>with_reducible rfl
      try simp only[Act.put,List.setIfInBounds_toArray,List.set_cons_zero,List.set_cons_succ]
      refine grow_take 6 (some 18) (v:=?vc6) rfl rfl (by kernel_rfl) (by kernel_rfl) (by kernel_rfl) (fun _ _ _ h=>h) (by rfl) (fun W hW=>?yc6) ?_
      case yc6=>
       go_simp<;>with_reducible rfl
      try simp only[Act.put,List.setIfInBounds_toArray,List.set_cons_zero,List.set_cons_succ]
      refine grow_take 7 (some 19) (v:=?vc7) rfl rfl (by kernel_rfl) (by kernel_rfl) (by kernel_rfl) (fun _ _ _ h=>h) (by rfl) (fun W hW=>?yc7) ?_
      case yc7=>
       go_simp<;>with_reducible rfl
      try simp only[Act.put,List.setIfInBounds_toArray,List.set_cons_zero,List.set_cons_succ]
      refine grow_take 8 (some 20) (v:=?vc8) rfl rfl (by kernel_rfl) (by kernel_rfl) (by kernel_rfl) (fun _ _ _ h=>h) (by rfl) (fun W hW=>?yc8) ?_
      case yc8=>
       go_simp<;>with_reducible rfl
      try simp only[Act.put,List.setIfInBounds_toArray,List.set_cons_zero,List.set_cons_succ]
      refine grow_take 9 (some 21) (v:=?vc9) rfl rfl (by kernel_rfl) (by kernel_rfl) (by kernel_rfl) (fun _ _ _ h=>h) (by rfl) (fun W hW=>?yc9) ?_
      case yc9=>
       have k0:=(X0.out W hW).1
       go_simp<;>with_reducible rfl
      try simp only[Act.put,List.setIfInBounds_toArray,List.set_cons_zero,List.set_cons_succ]
      refine grow_take 10 (some 22) (v:=?vc10) rfl rfl (by kernel_rfl) (by kernel_rfl) (by kernel_rfl) (fun _ _ _ h=>h) (by rfl) (fun W hW=>?yc10) ?_
      case yc10=>
       go_simp<;>with_reducible rfl
      try simp only[Act.put,List.setIfInBounds_toArray,List.set_cons_zero,List.set_cons_succ]
      refine grow_take 11 (some 23) (v:=?vc11) rfl rfl (by kernel_rfl) (by kernel_rfl) (by kernel_rfl) (fun _ _ _ h=>h) (by rfl) (fun W hW=>?yc11) ?_
      case yc11=>
       go_simp<;>with_reducible rfl
      try simp only[Act.put,List.setIfInBounds_toArray,List.set_cons_zero,List.set_cons_succ]
      refine grow_take 12 (some 24) (v:=?vc12) rfl rfl (by kernel_rfl) (by kernel_rfl) (by kernel_rfl) (fun _ _ _ h=>h) (by rfl) (fun W hW=>?yc12) ?_
      case yc12=>
       go_simp<;>with_reducible rfl
      try simp only[Act.put,List.setIfInBounds_toArray,List.set_cons_zero,List.set_cons_succ]
      refine grow_take 13 (some 25) (v:=?vc13) rfl rfl (by kernel_rfl) (by kernel_rfl) (by kernel_rfl) (fun _ _ _ h=>h) (by rfl) (fun W hW=>?yc13) ?_
      case yc13=>
       go_simp<;>with_reducible rfl
      try simp only[Act.put,List.setIfInBounds_toArray,List.set_cons_zero,List.set_cons_succ]
      refine grow_take 14 (some 26) (v:=?vc14) rfl rfl (by kernel_rfl) (by kernel_rfl) (by kernel_rfl) (fun _ _ _ h=>h) (by rfl) (fun W hW=>?yc14) ?_
      case yc14=>
       have k0:=(X0.out W hW).2
       go_simp<;>with_reducible rfl
      try simp only[Act.put,List.setIfInBounds_toArray,List.set_cons_zero,List.set_cons_succ]
      refine grow_only 15 rfl (by kernel_rfl) (fun K hK=>?_)
      go_simp
      refine (HCm.out _ (HTo.out.below HBd.out)).mono ?_
      rintro e w6 ⟨rfl,hb6⟩
      refine hK.out _ _ hb6 ?_
      have HB6:=hide (HBd.out.trans (hb6.mono HBd.out.size))
      clear hK K hb6 HBd HCm
      try simp only[Act.put,List.setIfInBounds_toArray,List.set_cons_zero,List.set_cons_succ]
      refine grow_take 16 (some 28) (v:=.bool false) rfl rfl (by kernel_rfl) (by kernel_rfl) (by kernel_rfl) (fun _ _ _ h=>h) (by rfl) (fun W hW=>?yc16) ?_
      case yc16=>
       go_simp<;>with_reducible rfl
      try simp only[Act.put,List.setIfInBounds_toArray,List.set_cons_zero,List.set_cons_succ]
      refine grow_take 17 (some 29) (v:=?vc17) rfl rfl (by kernel_rfl) (by kernel_rfl) (by kernel_rfl) (fun _ _ _ h=>h) (by rfl) (fun W hW=>?yc17) ?_
      case yc17=>
       go_simp<;>with_reducible rfl
      try simp only[Act.put,List.setIfInBounds_toArray,List.set_cons_zero,List.set_cons_succ]
      refine grow_done (by kernel_rfl) ?_ _
      have c0:=(HB6.out.cell (p:=⟨go,oo+q*2,none⟩) Hgg.out).trans hff.out
      have c1:=(HB6.out.cell (p:=⟨g,o+i*2,none⟩) hgo).trans Hcx.out.1
      have Hmap:Hid ((O[P]?).map (·.1)=some f.1):=hide (by rw[HPe.out,Hf.out];rfl)
      clear hff
      by_cases hfx:f.1=x.1
      ·have q1:(TF.toList==TX.toList)=true:=by rw[←HTF.out,←Hk.out.1,hfx];simp
       have HO2:Hid (insN O x=O):=hide (by unfold insN;rw[HP.out,if_pos (by rw[Hmap.out,hfx])])
       clear HTF Hf hfx Hmap
       go_wp2
       go_quiet (fail)
       go_wp2
       go_roundg r
       case measure=>omega
       case rel=>
        have hb:=Below.drewN HB6.out nq
        have HO3:=hide (And.intro ((HO.out.1.below hb).upto hb.size) (And.intro (HO.out.2.1.grow hb) HO.out.2.2))
        have hsx:sortN (L.take (i+1))=O:=Hnx.out.trans HO2.out
        rw[←hsx] at HO3
        exact⟨i+1,_,co,ko,zs,by omega,by go_num,rfl,by omega,HO3,hide (hbr.out.trans (hb.mono hbr.out.size))⟩
      ·have q1:(TF.toList==TX.toList)=false:=by rw[←HTF.out,←Hk.out.1];exact str_ne hfx
       have Hne:Hid ((O[P]?).map (·.1)≠some x.1):=hide (by rw[Hmap.out];intro h;exact hfx (Option.some.inj h))
       clear HTF Hf hfx Hmap
       go_wp2
       go_quiet (fail)
       have hqk:q≤ko:=by omega
       have hcq:¬(co=q):=by have:=HO.out.2.2.2.1;omega
       have hone:=HO.out.2.1.one
       have hone1:∀u∈zs.take (q*2),u.oneCell'=true:=fun u hu=>hone u (List.mem_of_mem_take hu)
       have hone2:∀u∈zs.drop (q*2),u.oneCell'=true:=fun u hu=>hone u (List.mem_of_mem_drop hu)
       have hH1:=HO.out.1.first hqk
       have hcap:=HO.out.2.2.2.1
       have hcm:=HO.out.2.2.2.2
       unfold maxLen at hcm
       have hqc:q≤co:=by omega
       have hqci:(q:Int)≤(co:Int):=by omega
       have Hone2:=hide hone2
       clear hone hone2
       go_wp2_with (at_builtin;go_must (refine appN _ 22 33 _ 2 40 Tryz.underlying22 infoEN rfl (by omega) (by omega) rfl (.tmp 49) (.tmp 52) rfl wo.heap.size _ 0 [] rfl (World.ownsRow_nil _ _ _ _) _ _ q co _ rfl (hH1.below (Below.drewN HB6.out _)) hone1 (by omega) (Below.drewN HB6.out _).size ?_))
       intro v1 w1 hown1 hb1 hg1 ht1
       have hB1:=(Below.drewN HB6.out _).trans hb1
       have c2:=(hB1.cell (p:=⟨g,o+i*2,none⟩) hgo).trans Hcx.out.1
       have c3:=(hB1.cell (p:=⟨g,o+i*2+1,none⟩) hgo).trans Hcx.out.2
       have hba:=below1 w1 (.cells #[.string TX,.slice U kx cu] 33)
       have hlit:=litY w1 (.string TX) (.slice U kx cu) 33 rfl rfl
       have h1c:∀u∈[Value.string TX,Value.slice U kx cu],u.oneCell'=true:=by simp[Value.oneCell']
       have hown1a:=own_below hown1 hba
       have hB1a:=hB1.trans (hba.mono hB1.size)
       have hs1a:=hB1a.size
       have HB1a:=hide hB1a
       clear hown1 hb1 hg1 ht1 hB1 hba hone1 hH1 hB1a
       go_wp2_with (at_builtin;go_must (refine appN _ 22 33 _ 2 40 Tryz.underlying22 infoEN rfl (by omega) (by omega) rfl (.tmp 54) (.tmp 59) rfl wo.heap.size _ _ _ rfl hown1a _ _ 1 1 [.string TX,.slice U kx cu] rfl (Has.own hlit) h1c (by omega) hs1a ?_))
       intro v2 w2 hown2 hb2 hg2 ht2
       have hB2:=HB1a.out.trans hb2
       have hs2:=hB2.size
       have hH2:=(HO.out.1.below hB2).from_ (k:=q) (cap:=co) hqk hcap
       have HB2:=hide hB2
       have hone2:=Hone2.out
       clear hb2 hg2 ht2 hB2 hlit h1c hown1a hs1a HB1a c2 c3 Hone2
       rw[if_neg hcq] at hH2
       have hH2b:Has w2 wo.heap.size 2 (some ⟨go,oo+q*2,none⟩) (ko-q) (zs.drop (q*2)):=by simpa[Addr.add_lit] using hH2
       go_wp2_with (at_builtin;go_must (refine appN _ 22 33 _ 2 40 Tryz.underlying22 infoEN rfl (by omega) (by omega) rfl (.tmp 61) (.tmp 64) rfl wo.heap.size _ _ _ rfl hown2 wo.heap.size _ (ko-q) _ (zs.drop (q*2)) rfl hH2b hone2 (by omega) hs2 ?_))
       intro v3 w3 hown3 hb3 hg3 ht3
       clear hH2b
       have hB3:=HB2.out.trans hb3
       have hw3:=hbr.out.trans (hB3.mono hbr.out.size)
       obtain⟨A3,c3,rfl,hc3,hH3⟩:=own_form hown3
       have hm3:=own_most hown3
       have hE3:=(((HO.out.2.1.below hB3).take q).snoc Hat.out.cap Hat.out.most ((Hat.out.has.below hw3).upto hbr.out.size) ((Hat.out.attrs.below hw3).upto hbr.out.size)).append ((HO.out.2.1.below hB3).drop q)
       have hins:insN O x=(O.take q++[x])++O.drop q:=by
        unfold insN
        rw[HP.out,if_neg Hne.out,HPe.out,List.append_assoc]
        rfl
       rw[Hk.out.1,Hk.out.2,←hins,List.append_assoc] at hE3
       have hH3:Has w3 w3.heap.size 2 A3 (q+1+(ko-q)) (zs.take (q*2)++([.string TX,.slice U kx cu]++zs.drop (q*2))):=by simpa using hH3
       have hlen3:=hH3.ens_n (hE3.upto hB3.size)
       have HO3:=hide (And.intro hH3 (And.intro (hE3.upto hB3.size) (And.intro hlen3.symm (And.intro hc3 hm3))))
       have Hw3:=hide hw3
       rw[←Hnx.out] at HO3
       clear hown3 hb3 hg3 ht3 hB3 hw3 hc3 hH3 hm3 hE3 hins hlen3 hown2 hs2 hH2 hone2 HB2 hcm HO
       go_wp2
       go_roundg r
       case measure=>omega
       case rel=>exact⟨i+1,A3,c3,_,_,by omega,by go_num,rfl,by omega,HO3,Hw3⟩
end Go.Proofs.YtjjepcnijmlliaaGreatDoor
namespace Go.Proofs.YtjjepcnijmlliaaGreatDoor
open Go Go.RowKit
set_option linter.unusedVariables false
set_option linter.unusedSimpArgs false
structure EntPost (r:EN) (w:World) (e:Ending) (w':World):Prop where
 out:∃A c ys,e=.returned (.agg #[.string (txt r.1),.slice A r.2.length c])∧r.2.length≤c∧c≤maxLen∧HasP w' (NewB w.heap.size w'.heap.size) 2 A r.2.length ys∧EAsP w' (NewB w.heap.size w'.heap.size) ys r.2∧Below w.heap.size w w'
structure upBB (B:Nat) (row:Option Nat) (w W:World):Prop where
 os:W.os=w.os
 tape:W.tape=w.tape
 output:W.output=w.output
 size:w.heap.size≤W.heap.size
 block:∀k,k<B→some k≠row→W.heap[k]?=w.heap[k]?
instance bbWay (B:Nat) (row:Option Nat):Way (upBB B row):=⟨fun w=>⟨rfl,rfl,rfl,Nat.le_refl _,fun _ _ _=>rfl⟩,fun h k=>⟨k.os.trans h.os,k.tape.trans h.tape,k.output.trans h.output,Nat.le_trans h.size k.size,fun j hj hne=>(k.block j hj hne).trans (h.block j hj hne)⟩⟩
theorem bb_of_below {B:Nat} (row:Option Nat) {w W:World} (hD:B≤w.heap.size) (h:Below w.heap.size w W):upBB B row w W:=⟨h.os,h.tape,h.output,h.size,fun k hk _=>h.block k (Nat.lt_of_lt_of_le hk hD)⟩
theorem bb_of_below2 {B:Nat} (row:Option Nat) {w W:World} (h:Below B w W):upBB B row w W:=⟨h.os,h.tape,h.output,h.size,fun k hk _=>h.block k hk⟩
theorem bb_of_grown {B:Nat} {row:Option Nat} {w W:World} (hB:B≤w.heap.size) (h:w.grownBy W row):upBB B row w W:=⟨h.os,h.tape,h.output,h.size,fun k hk hne=>h.block k (Nat.lt_of_lt_of_le hk hB) hne⟩
theorem upBB.cell {B:Nat} {row:Option Nat} {w W:World} (h:upBB B row w W) {p:Addr} (hp:p.block<B) (hne:some p.block≠row):W.cell? p=w.cell? p:=World.cell?_of_block (h.block _ hp hne)
theorem grow_begin_bbL {P:Program} {ops:Array Oper} {Q:Exit→Act→World→Prop} (B:Nat) (row:Option Nat) (z:Nat) {id:Nat} {a:Act} {w:World} (hm:P.follows .mixedOrders=true)
  (h:wpAnyL (upBB B row) P .any ops Q z ops.size (Array.replicate ops.size false) a w.drew):(Code.region id ops true).wp P Q a w:=
 wp_region_any hm (wpAny_of_growL _ _ _ _ h)
theorem nilY (w:World):(w.alloc (.cells #[] 9)).ownsRow w.heap.size 9 1 (.slice (some ⟨w.heap.size,0,none⟩) 0 0) 0 []:=
 own_lit w #[] 9 0 (by unfold maxLen;omega) rfl
theorem strs_oneY (L:List (List UInt8)):∀u∈strs L,u.oneCell'=true:=by
 intro u hu
 obtain⟨x,_,rfl⟩:=List.mem_map.1 hu
 rfl
structure CopyL (w w2 wx:World) (SN:ByteArray) (A:Option Addr) (n c:Nat) (Av:Option Addr) (i cv:Nat) (zs:List Value) (M:List EA):Prop where
 box:Blk wx w.heap.size [.string SN,.slice A n c]
 res:Blk wx (w.heap.size+1) [.string ⟨#[]⟩,.slice none 0 0]
 out:Blk wx (w.heap.size+2) [.string SN,.slice Av i cv]
 row:RowA wx w2.heap.size 42 (.slice Av i cv) zs M
 grown:w2.grownBy wx (some (w.heap.size+2))
theorem CopyL.grow {w w2 wx w':World} {SN:ByteArray} {A:Option Addr} {n c:Nat} {Av:Option Addr} {i cv:Nat} {zs:List Value} {M:List EA} (h:CopyL w w2 wx SN A n c Av i cv zs M) (hb:Below wx.heap.size wx w'):CopyL w w2 w' SN A n c Av i cv zs M:=
 ⟨h.box.grow hb,h.res.grow hb,h.out.grow hb,h.row.below hb,⟨hb.os.trans h.grown.os,hb.tape.trans h.grown.tape,hb.output.trans h.grown.output,Nat.le_trans h.grown.size hb.size,fun k hk hne=>(hb.block k (Nat.lt_of_lt_of_le hk h.grown.size)).trans (h.grown.block k hk hne)⟩⟩
theorem RowA.set {w:World} {base:Nat} {E:TypeId} {v:Value} {zs:List Value} {M:List EA} (h:RowA w base E v zs M) {h0:Nat} (hB:h0<base) (i:Nat) (u:Value):RowA (w.setCell ⟨h0,i,none⟩ u) base E v zs M:=by
 have hg:=grown_setCell w h0 i u
 refine⟨h.own.kept hg (.inr fun e=>by have:=(h.own.lt _ e).1;omega),h.attrs.move (fun p hp=>World.cell?_of_block (hg.block _ hp.2.1 (fun e=>by have:=Option.some.inj e;have:=hp.1;omega))) fun b hb=>⟨hb.1,Nat.lt_of_lt_of_le hb.2.1 hg.size,hb.2.2⟩⟩
theorem CopyL.next {w w2 wd w7:World} {SN:ByteArray} {A:Option Addr} {n c:Nat} {Av A7:Option Addr} {i cv c7 j:Nat} {zs ys:List Value} {M M':List EA} (h:CopyL w w2 wd SN A n c Av i cv zs M) (hs:w2.heap.size=w.heap.size+3) (hb:Below w2.heap.size wd w7) (hR:RowA w7 w2.heap.size 42 (.slice A7 j c7) ys M'):
  CopyL w w2 (w7.setCell ⟨w.heap.size+2,1,none⟩ (.slice A7 j c7)) SN A n c A7 j c7 ys M':=by
 have hg:=grown_setCell w7 (w.heap.size+2) 1 (.slice A7 j c7)
 have ho:=(h.out.below (by omega) hb).set 1 (.slice A7 j c7) (by simp)
 refine⟨(h.box.below (by omega) hb).grown hg (fun e=>by have:=Option.some.inj e;omega),(h.res.below (by omega) hb).grown hg (fun e=>by have:=Option.some.inj e;omega),ho,hR.set (by omega) _ _,?_⟩
 exact⟨hg.os.trans (hb.os.trans h.grown.os),hg.tape.trans (hb.tape.trans h.grown.tape),hg.output.trans (hb.output.trans h.grown.output),Nat.le_trans h.grown.size (Nat.le_trans hb.size hg.size),fun k hk hne=>(hg.block k (Nat.lt_of_lt_of_le hk (Nat.le_trans h.grown.size hb.size)) hne).trans ((hb.block k hk).trans (h.grown.block k hk hne))⟩
theorem CopyL.keep {w w2 wx w':World} {SN:ByteArray} {A:Option Addr} {n c:Nat} {Av:Option Addr} {i cv:Nat} {zs:List Value} {M:List EA} (h:CopyL w w2 wx SN A n c Av i cv zs M) (hb0:Below w.heap.size w w2) (hs:w2.heap.size=w.heap.size+3) (hb:Below wx.heap.size wx w')
  {g o:Nat} {a:EA} {U:Option Addr} {cu:Nat} (ha:EaAt w w.heap.size g o a U cu) (hg:g<w.heap.size):EaAt w' w.heap.size g o a U cu:=by
 have hB:Below w.heap.size w w':=by
  refine hb0.trans ⟨hb.os.trans h.grown.os,hb.tape.trans h.grown.tape,hb.output.trans h.grown.output,Nat.le_trans h.grown.size hb.size,fun k hk=>?_⟩
  exact (hb.block k (by have:=h.grown.size;omega)).trans (h.grown.block k (by omega) (fun e=>by have:=Option.some.inj e;omega))
 exact ha.below hg hB
theorem Hs2w {w w1 w2:World} {o:Obj} (hb:Below w.heap.size w w2) (hw:w1.alloc o=w2) (hs:w1.heap.size=w.heap.size+2):w2.heap.size=w.heap.size+3:=by rw[←hw];simp[hs]
theorem CopyL.told {w w1 w2 wx w':World} {SN:ByteArray} {A:Option Addr} {n c:Nat} {Av:Option Addr} {i cv:Nat} {zs:List Value} {L:List EA} {o:Obj} (h:CopyL w w2 wx SN A n c Av i cv zs L) (hn:i=L.length) (hb:Below w.heap.size w w2) (hs1:w1.heap.size=w.heap.size+2) (hw:w1.alloc o=w2)
  (hg:wx.grownBy w' (some (w.heap.size+1))):∃A' c' ys,Ending.returned (.agg #[.string SN,.slice Av i cv])=.returned (.agg #[.string SN,.slice A' L.length c'])∧L.length≤c'∧c'≤maxLen∧HasP w' (NewB w.heap.size w'.heap.size) 2 A' L.length ys∧EAsP w' (NewB w.heap.size w'.heap.size) ys L∧Below w.heap.size w w':=by
 have hs:=Hs2w hb hw hs1
 subst hn
 obtain⟨A',c',e,hc,hH⟩:=own_formP h.row.own
 cases e
 have hm:=own_most h.row.own
 have hgs:=h.grown.size
 have hq:∀p:Addr,(w2.heap.size≤p.block∧p.block<wx.heap.size)→w'.cell? p=wx.cell? p:=fun p hp=>World.cell?_of_block (hg.block _ hp.2 (fun e=>by have:=Option.some.inj e;have:=hp.1;omega))
 refine⟨Av,cv,zs,rfl,hc,hm,hH.move hq fun b hb2=>⟨by omega,Nat.lt_of_lt_of_le hb2.2 hg.size⟩,h.row.attrs.move (fun p hp=>hq p ⟨hp.1,hp.2.1⟩) fun b hb2=>⟨by omega,Nat.lt_of_lt_of_le hb2.2.1 hg.size⟩,?_⟩
 refine hb.trans ⟨hg.os.trans h.grown.os,hg.tape.trans h.grown.tape,hg.output.trans h.grown.output,Nat.le_trans hgs hg.size,fun k hk=>?_⟩
 exact (hg.block k (by omega) (fun e=>by have:=Option.some.inj e;omega)).trans (h.grown.block k (by omega) (fun e=>by have:=Option.some.inj e;omega))
theorem rcopyE_any (nm:List UInt8) (L:List EA) (w:World) (A:Option Addr) (n c:Nat) (xs:List Value) (hA:Has w w.heap.size 2 A n xs) (hL:EAs w w.heap.size xs L) (hn:n≤1000000) (hvs:∀a∈L,a.2.length≤1000000):
  Calls Tryz.prog 57 #[.agg #[.string (txt nm),.slice A n c]] w (EntPost (nm,L) w):=by
 have hnl:=hA.eas_n hL
 have hb1:=below1 w (.cells #[.string (txt nm),.slice A n c] 33)
 have hX:Blk (w.alloc (.cells #[.string (txt nm),.slice A n c] 33)) w.heap.size [.string (txt nm),.slice A n c]:=Blk.new w [.string (txt nm),.slice A n c] 33
 obtain⟨w0,hw0⟩:∃w0,w.alloc (.cells #[.string (txt nm),.slice A n c] 33)=w0:=⟨_,rfl⟩
 have hs0:w0.heap.size=w.heap.size+1:=by rw[←hw0];simp
 rw[hw0] at hb1 hX
 have hb2:=below1 w0 (.cells #[.string ⟨#[]⟩,.slice none 0 0] 33)
 have hY:Blk (w0.alloc (.cells #[.string ⟨#[]⟩,.slice none 0 0] 33)) w0.heap.size [.string ⟨#[]⟩,.slice none 0 0]:=Blk.new w0 [.string ⟨#[]⟩,.slice none 0 0] 33
 obtain⟨w1,hw1⟩:∃w1,w0.alloc (.cells #[.string ⟨#[]⟩,.slice none 0 0] 33)=w1:=⟨_,rfl⟩
 have hs1:w1.heap.size=w.heap.size+2:=by rw[←hw1];simp[hs0]
 rw[hw1] at hb2 hY
 rw[hs0] at hY
 have hb3:=below1 w1 (.cells #[.string (txt nm),.slice none 0 0] 33)
 have hO:Blk (w1.alloc (.cells #[.string (txt nm),.slice none 0 0] 33)) w1.heap.size [.string (txt nm),.slice none 0 0]:=Blk.new w1 [.string (txt nm),.slice none 0 0] 33
 obtain⟨w2,hw2⟩:∃w2,w1.alloc (.cells #[.string (txt nm),.slice none 0 0] 33)=w2:=⟨_,rfl⟩
 have hs2:w2.heap.size=w.heap.size+3:=by rw[←hw2];simp[hs1]
 rw[hw2] at hb3 hO
 rw[hs1] at hO
 have hbb:Below w.heap.size w w2:=(hb1.trans (hb2.mono (by omega))).trans (hb3.mono (by omega))
 have hC:CopyL w w2 w2 (txt nm) A n c none 0 0 [] []:=⟨(hX.grow hb2).grow hb3,hY.grow hb3,hO,RowA.start (World.ownsRow_nil _ _ _ _),World.grownBy.refl _ _⟩
 have HC:=hide hC
 have HB:=hide hbb
 have HA:=hide hA
 have HL:=hide hL
 have HN:=hide hnl
 have HV:=hide hvs
 have Hw0:=hide hw0
 have Hw1:=hide hw1
 have Hw2:=hide hw2
 have Hs0:=hide hs0
 have Hs1:=hide hs1
 have y0:=hX.cells 0 _ rfl
 have Hsn:Hid (∃SN,txt nm=SN):=hide ⟨_,rfl⟩
 clear hb1 hX hw0 hs0 hb2 hY hw1 hs1 hb3 hO hw2 hbb hC hA hL hnl hvs
 suffices H:Calls Tryz.prog 57 #[.agg #[.string (txt nm),.slice A n c]] w fun e w'=>Hid (EntPost (nm,L) w e w') from H.mono fun e w' h=>h.out
 obtain⟨SN,hSN⟩:=Hsn.out
 rw[hSN] at HC Hw0 Hw2 y0 ⊢
 have HSN:=hide hSN
 clear hSN Hsn
 go_enter Tryz.func57,Tryz.ntmps57
 go_wp2_with fail
 go_upto_region 1 with fail
 rw[Hw0.out,Hw1.out]
 try rw[Hs0.out]
 go_upto_region 2 with fail
 rw[Hw2.out]
 try rw[Hs1.out]
 have p1:=HC.out.box.cells 1 _ rfl
 go_wp2
 go_loopg [11] n (fun q s11 wx=>∃(i:Nat) (Av:Option Addr) (cv:Nat) (zs:List Value),i+q=n∧s11=.int .i64 (i:Int)∧Hid (CopyL w w2 wx SN A n c Av i cv zs (L.take i)))
 case atStart=>exact⟨0,none,0,[],by omega,rfl,HC⟩
 case round=>
  obtain⟨i,Av,cv,zs,hig,rfl,HCl⟩:=hrel
  clear p1
  cases gk with
  | zero=>
   obtain rfl:i=n:=by omega
   have hiz:¬((i:Int)<(i:Int)):=by omega
   have h9:=HCl.out
   rw[List.take_of_length_le (by rw[←HN.out];exact Nat.le_refl _)] at h9
   have x0:=h9.out.cells 0 _ rfl
   have x1:=h9.out.cells 1 _ rfl
   have H9:=hide h9
   clear h9 HCl HC
   go_wp2_with (refine storeB wr rfl 33 (.tmp 2) (.tmp 35) rfl (w.heap.size+1) 0 _ [.string SN,.slice Av i cv] rfl rfl H9.out.res (by simp) (by kernel_rfl) (by simp[Value.oneCell']) ?_)
   have hgs:=grown_setCells (w.heap.size+1) [.string SN,.slice Av i cv] 0 wr
   have hBz:=H9.out.res.sets 0 [.string SN,.slice Av i cv] (by simp) [.string SN,.slice Av i cv] (by simp)
   have hPost0:=H9.out.told HN.out HB.out Hs1.out Hw2.out hgs
   have hPost:Hid (EntPost (nm,L) w (.returned (.agg #[.string SN,.slice Av i cv])) (wr.setCells (w.heap.size+1) 0 [.string SN,.slice Av i cv])):=hide ⟨by
    show ∃A c ys,_=Ending.returned (.agg #[.string (txt nm),.slice A L.length c])∧_
    rw[HSN.out]
    exact hPost0⟩
   clear hPost0
   have HBz:=hide hBz
   clear hgs hBz x0 x1 H9
   generalize wr.setCells (w.heap.size+1) 0 [.string SN,.slice Av i cv]=wz at *
   refine bodyPost_ret (v:=.agg #[.string SN,.slice Av i cv]) ?_ rfl ?_
   ·exact results_cell1 rfl _ wz (w.heap.size+1) [.string SN,.slice Av i cv] _ rfl HBz.out.range Tryz.underlying33 rfl (by kernel_rfl)
   ·exact hPost
  | succ r=>
   have hi:i<n:=by omega
   have hiz:(i:Int)<(n:Int):=by omega
   obtain⟨a,ha⟩:∃a,L[i]?=some a:=⟨_,List.getElem?_eq_getElem (by rw[←HN.out];exact hi)⟩
   obtain⟨g,o,hAe,hg,hat⟩:=HA.out.ea HL.out (fun h=>by rw[h] at ha;simp at ha)
   subst hAe
   obtain⟨U,cu,hat⟩:=hat i a ha
   have hk6:=HV.out a (List.mem_of_getElem? ha)
   have hs2:=Hs2w HB.out Hw2.out Hs1.out
   have hlt:i<L.length:=by rw[←HN.out];exact hi
   have Htk:Hid (L.take (i+1)=L.take i++[a]):=hide (by rw[List.take_add_one,ha];rfl)
   have htl:(L.take i).length=i:=by rw[List.length_take];omega
   have hcl:=HCl.out
   have hatr:EaAt wr.drew w.heap.size g (o+i*2) a U cu:=hcl.keep HB.out hs2 (Below.refl _ _).drew hat hg
   obtain⟨TA,hTA⟩:∃TA,txt a.1=TA:=⟨_,rfl⟩
   obtain⟨k,hk⟩:∃k,a.2.length=k:=⟨_,rfl⟩
   have Hk:=hide (And.intro hTA hk)
   rw[hk] at hk6
   have Hd:Hid (wr.drew.cell? ⟨g,o+i*2,none⟩=some (.string TA)∧wr.drew.cell? ⟨g,o+i*2+1,none⟩=some (.slice U k cu)):=hide ⟨by rw[←hTA];exact hatr.e0,by rw[←hk];exact hatr.e1⟩
   have hwr:w.heap.size≤wr.drew.heap.size:=Nat.le_trans HB.out.size hcl.grown.size
   have HVa0:Hid (Has wr.drew wr.drew.heap.size 1 U k (strs a.2)):=hide (by rw[←hk];exact hatr.has.upto hwr)
   clear hat hatr hcl ha hTA hk HC
   go_wp2_with fail
   refine grow_begin_bbL wr.drew.heap.size (Value.slice Av i cv).ownBlock 20 (by kernel_rfl) ?_
   have hdr:Below wr.heap.size wr wr.drew:=(Below.refl _ _).drew
   have HCd:=hide (HCl.out.grow hdr)
   have HRd:=hide (HCl.out.row.below hdr)
   have HOd:=hide (HCd.out.out)
   have hsz:w2.heap.size≤wr.drew.heap.size:=HCl.out.grown.size
   have hno:∀b,b<w2.heap.size→some b≠(Value.slice Av i cv).ownBlock:=fun b hb e=>by
    have:=(HCl.out.row.own.lt b e.symm).1
    omega
   have X0:Hid (∀W,upBB wr.drew.heap.size (Value.slice Av i cv).ownBlock wr.drew W→W.cell? ⟨w.heap.size+2,1,none⟩=some (.slice Av i cv)∧W.cell? ⟨w.heap.size,1,none⟩=some (.slice (some ⟨g,o,none⟩) n c)∧W.cell? ⟨g,o+i*2,none⟩=some (.string TA)∧W.cell? ⟨g,o+i*2+1,none⟩=some (.slice U k cu)):=hide fun W hW=>by
    have hg9:g<w.heap.size:=hg
    have hcd:=HCd.out
    refine⟨(hW.cell (p:=⟨w.heap.size+2,1,none⟩) (show w.heap.size+2<_ by omega) (hno (w.heap.size+2) (by omega))).trans (hcd.out.cells 1 _ rfl),(hW.cell (p:=⟨w.heap.size,1,none⟩) (show w.heap.size<_ by omega) (hno w.heap.size (by omega))).trans (hcd.box.cells 1 _ rfl),?_,?_⟩
    ·exact (hW.cell (p:=⟨g,o+i*2,none⟩) (show g<_ by omega) (hno g (by omega))).trans Hd.out.1
    ·exact (hW.cell (p:=⟨g,o+i*2+1,none⟩) (show g<_ by omega) (hno g (by omega))).trans Hd.out.2
   have HVal:=hide (HVa0.out)
   clear hdr hno HCl Hd HVa0
   generalize wr.drew=wd at *
   refine grow_takeL 0 (some 14) (v:=?va0) rfl rfl (by kernel_rfl) (by kernel_rfl) (by kernel_rfl) (fun _ _ _ h=>h) (by kernel_rfl) (by rfl) (fun W hW=>?ya0) ?_
   case ya0=>
    go_simp<;>with_reducible rfl
   try simp only[Act.put,List.setIfInBounds_toArray,List.set_cons_zero,List.set_cons_succ]
   refine grow_takeL 1 (some 15) (v:=?va1) rfl rfl (by kernel_rfl) (by kernel_rfl) (by kernel_rfl) (fun _ _ _ h=>h) (by kernel_rfl) (by rfl) (fun W hW=>?ya1) ?_
   case ya1=>
    have k0:=(X0.out W hW).1
    go_simp<;>with_reducible rfl
   try simp only[Act.put,List.setIfInBounds_toArray,List.set_cons_zero,List.set_cons_succ]
   refine grow_takeL 2 (some 16) (v:=?va2) rfl rfl (by kernel_rfl) (by kernel_rfl) (by kernel_rfl) (fun _ _ _ h=>h) (by kernel_rfl) (by rfl) (fun W hW=>?ya2) ?_
   case ya2=>
    go_simp<;>with_reducible rfl
   try simp only[Act.put,List.setIfInBounds_toArray,List.set_cons_zero,List.set_cons_succ]
   refine grow_takeL 3 (some 17) (v:=?va3) rfl rfl (by kernel_rfl) (by kernel_rfl) (by kernel_rfl) (fun _ _ _ h=>h) (by kernel_rfl) (by rfl) (fun W hW=>?ya3) ?_
   case ya3=>
    have k0:=(X0.out W hW).2.1
    go_simp<;>with_reducible rfl
   try simp only[Act.put,List.setIfInBounds_toArray,List.set_cons_zero,List.set_cons_succ]
   refine grow_takeL 4 (some 18) (v:=?va4) rfl rfl (by kernel_rfl) (by kernel_rfl) (by kernel_rfl) (fun _ _ _ h=>h) (by kernel_rfl) (by rfl) (fun W hW=>?ya4) ?_
   case ya4=>
    go_simp<;>with_reducible rfl
   try simp only[Act.put,List.setIfInBounds_toArray,List.set_cons_zero,List.set_cons_succ]
   refine grow_takeL 5 (some 19) (v:=?va5) rfl rfl (by kernel_rfl) (by kernel_rfl) (by kernel_rfl) (fun _ _ _ h=>h) (by kernel_rfl) (by rfl) (fun W hW=>?ya5) ?_
   case ya5=>
    go_simp<;>with_reducible rfl
   try simp only[Act.put,List.setIfInBounds_toArray,List.set_cons_zero,List.set_cons_succ]
   refine grow_takeL 6 (some 20) (v:=?va6) rfl rfl (by kernel_rfl) (by kernel_rfl) (by kernel_rfl) (fun _ _ _ h=>h) (by kernel_rfl) (by rfl) (fun W hW=>?ya6) ?_
   case ya6=>
    go_simp<;>with_reducible rfl
   try simp only[Act.put,List.setIfInBounds_toArray,List.set_cons_zero,List.set_cons_succ]
   refine grow_takeL 7 (some 21) (v:=?va7) rfl rfl (by kernel_rfl) (by kernel_rfl) (by kernel_rfl) (fun _ _ _ h=>h) (by kernel_rfl) (by rfl) (fun W hW=>?ya7) ?_
   case ya7=>
    have k0:=(X0.out W hW).2.2.1
    go_simp<;>with_reducible rfl
   try simp only[Act.put,List.setIfInBounds_toArray,List.set_cons_zero,List.set_cons_succ]
   refine grow_takeL 9 (some 23) (v:=?va9) rfl rfl (by kernel_rfl) (by kernel_rfl) (by kernel_rfl) (fun _ _ _ h=>h) (by kernel_rfl) (by rfl) (fun W hW=>?ya9) ?_
   case ya9=>
    go_simp<;>with_reducible rfl
   try simp only[Act.put,List.setIfInBounds_toArray,List.set_cons_zero,List.set_cons_succ]
   refine grow_takeL 10 (some 24) (v:=?va10) rfl rfl (by kernel_rfl) (by kernel_rfl) (by kernel_rfl) (fun _ _ _ h=>h) (by kernel_rfl) (by rfl) (fun W hW=>?ya10) ?_
   case ya10=>
    have k0:=(X0.out W hW).2.1
    go_simp<;>with_reducible rfl
   try simp only[Act.put,List.setIfInBounds_toArray,List.set_cons_zero,List.set_cons_succ]
   refine grow_takeL 11 (some 25) (v:=?va11) rfl rfl (by kernel_rfl) (by kernel_rfl) (by kernel_rfl) (fun _ _ _ h=>h) (by kernel_rfl) (by rfl) (fun W hW=>?ya11) ?_
   case ya11=>
    go_simp<;>with_reducible rfl
   try simp only[Act.put,List.setIfInBounds_toArray,List.set_cons_zero,List.set_cons_succ]
   refine grow_takeL 12 (some 26) (v:=?va12) rfl rfl (by kernel_rfl) (by kernel_rfl) (by kernel_rfl) (fun _ _ _ h=>h) (by kernel_rfl) (by rfl) (fun W hW=>?ya12) ?_
   case ya12=>
    go_simp<;>with_reducible rfl
   try simp only[Act.put,List.setIfInBounds_toArray,List.set_cons_zero,List.set_cons_succ]
   refine grow_takeL 13 (some 27) (v:=?va13) rfl rfl (by kernel_rfl) (by kernel_rfl) (by kernel_rfl) (fun _ _ _ h=>h) (by kernel_rfl) (by rfl) (fun W hW=>?ya13) ?_
   case ya13=>
    go_simp<;>with_reducible rfl
   try simp only[Act.put,List.setIfInBounds_toArray,List.set_cons_zero,List.set_cons_succ]
   refine grow_takeL 14 (some 28) (v:=?va14) rfl rfl (by kernel_rfl) (by kernel_rfl) (by kernel_rfl) (fun _ _ _ h=>h) (by kernel_rfl) (by rfl) (fun W hW=>?ya14) ?_
   case ya14=>
    have k0:=(X0.out W hW).2.2.2
    go_simp<;>with_reducible rfl
   try simp only[Act.put,List.setIfInBounds_toArray,List.set_cons_zero,List.set_cons_succ]
   refine grow_onlyL 8 rfl (by kernel_rfl) (fun K hK=>?_)
   go_simp
   have hba:=below1 wd (.cells #[] 9)
   refine hK.out _ _ (fun _=>bb_of_below _ (Nat.le_refl _) hba) ?_
   have hnil:=nilY wd
   have hs1:=hba.size
   clear hK K
   try simp only[Act.put,List.setIfInBounds_toArray,List.set_cons_zero,List.set_cons_succ]
   refine grow_onlyL 15 rfl (by kernel_rfl) (fun K hK=>?_)
   refine stepE _ 40 9 _ 1 16 Tryz.underlying40 infoS rfl (by omega) (by omega) (some 29) rfl rfl (.tmp 22) (.tmp 28) rfl wd.heap.size _ 0 [] rfl hnil wd.heap.size U k _ (strs a.2) rfl ((HVal.out).below hba) (strs_oneY a.2) (by omega) hs1 ?_
   intro v5 w5 hown5 hb5 hg5 ht5
   refine hK.out _ _ (fun _=>bb_of_below2 _ hb5) ?_
   obtain⟨A5,c5,rfl,hc5,hP5⟩:=own_formP hown5
   have hm5:=own_most hown5
   have H5:=hide (And.intro hc5 (And.intro hm5 (And.intro hP5 (hba.trans hb5))))
   simp only[Nat.zero_add,List.nil_append] at H5 ⊢
   clear hK K hown5 hb5 hg5 ht5 hc5 hP5 hm5 hnil hs1 hba
   try simp only[Act.put,List.setIfInBounds_toArray,List.set_cons_zero,List.set_cons_succ]
   refine grow_takeL 16 (some 30) (v:=?va16) rfl rfl (by kernel_rfl) (by kernel_rfl) (by kernel_rfl) (fun _ _ _ h=>h) (by kernel_rfl) (by rfl) (fun W hW=>?ya16) ?_
   case ya16=>
    go_simp<;>with_reducible rfl
   try simp only[Act.put,List.setIfInBounds_toArray,List.set_cons_zero,List.set_cons_succ]
   refine grow_onlyL 17 rfl (by kernel_rfl) (fun K hK=>?_)
   go_simp
   have hbc:=below1 w5 (.cells #[.string TA,.slice A5 k c5] 42)
   refine hK.out _ _ (fun _=>bb_of_below _ H5.out.2.2.2.size hbc) ?_
   have hlit:=litY w5 (.string TA) (.slice A5 k c5) 42 rfl rfl
   have hown6:=own_below (own_below HRd.out.own H5.out.2.2.2) hbc
   have hs6:w2.heap.size≤(w5.alloc (.cells #[.string TA,.slice A5 k c5] 42)).heap.size:=Nat.le_trans hsz (Nat.le_trans H5.out.2.2.2.size hbc.size)
   have h1c:∀u∈([.string TA,.slice A5 k c5]:List Value),u.oneCell'=true:=by simp[Value.oneCell']
   clear hK K
   try simp only[Act.put,List.setIfInBounds_toArray,List.set_cons_zero,List.set_cons_succ]
   refine grow_onlyL 18 rfl (by kernel_rfl) (fun K hK=>?_)
   refine stepE _ 31 42 _ 2 40 Tryz.underlying31 infoEA rfl (by omega) (by omega) (some 32) rfl rfl (.tmp 15) (.tmp 31) rfl w2.heap.size _ _ zs rfl hown6 _ _ 1 1 [.string TA,.slice A5 k c5] rfl (Has.own hlit) h1c (by rw[htl];omega) hs6 ?_
   intro v7 w7 hown7 hb7 hg7 ht7
   refine hK.out _ _ (fun _=>bb_of_grown (Nat.le_trans H5.out.2.2.2.size hbc.size) hg7) ?_
   have HR7:Hid (RowA w7 w2.heap.size 42 v7 (zs++[.string TA,.slice A5 k c5]) (L.take (i+1))):=hide (by
    rw[Htk.out]
    obtain⟨hta,hkk⟩:=Hk.out
    subst hta hkk
    have hR:=HRd.out.more (a:=a) hsz H5.out.2.2.2 H5.out.1 H5.out.2.1 H5.out.2.2.1 _ hown7 hg7 ht7
    exact hR)
   have HB7:=hide ((H5.out.2.2.2.mono hsz).trans ((hbc.mono (Nat.le_trans hsz H5.out.2.2.2.size)).trans hb7))
   rw[htl] at hown7
   obtain⟨A7,c7,rfl,_,_⟩:=own_form hown7
   clear hK K hown7 hb7 hg7 ht7 hown6 hs6 h1c hlit hbc H5
   try simp only[Act.put,List.setIfInBounds_toArray,List.set_cons_zero,List.set_cons_succ]
   have HO7:=hide (HOd.out.below (by omega) HB7.out)
   refine grow_takeL 19 (some 33) (v:=?va19) rfl rfl (by kernel_rfl) (by kernel_rfl) (by kernel_rfl) (fun _ _ _ h=>h) (by kernel_rfl) (by rfl) (fun W hW=>?ya19) ?_
   case ya19=>
    go_simp<;>with_reducible rfl
   try simp only[Act.put,List.setIfInBounds_toArray,List.set_cons_zero,List.set_cons_succ]
   refine grow_onlyL 20 rfl (by kernel_rfl) (fun K hK=>?_)
   have cm:=(HO7.out).cells 1 _ rfl
   have fm:=(HO7.out).fz 1
   go_simp
   refine hK.out _ _ (fun h=>absurd rfl h) ?_
   clear hK K cm fm
   try simp only[Act.put,List.setIfInBounds_toArray,List.set_cons_zero,List.set_cons_succ]
   refine grow_doneL (by kernel_rfl) ?_ _
   have HC9:=hide (HCd.out.next hs2 HB7.out HR7.out)
   clear HO7 HB7 HR7 HCd HRd HOd HVal hsz
   go_wp2
   go_roundg r
   case measure=>omega
   case rel=>exact⟨i+1,_,_,_,by omega,by go_num,HC9⟩
theorem rcopyall_any (L:List EN) (w:World) (A:Option Addr) (n c:Nat) (xs:List Value) (hA:Has w w.heap.size 2 A n xs) (hL:ENs w w.heap.size xs L) (hn:n≤1000000) (hwe:∀e∈L,WeeN e):
  Calls Tryz.prog 37 #[.slice A n c] w (EntsPost L w):=by
 have hnl:=hA.ens_n hL
 have hCp:∀e∈L,∀(w:World) (U:Option Addr) (cu:Nat) (ys:List Value),Has w w.heap.size 2 U e.2.length ys→EAs w w.heap.size ys e.2→Calls Tryz.prog 57 #[.agg #[.string (txt e.1),.slice U e.2.length cu]] w (EntPost e w):=fun e he w U cu ys hA hL=>
  rcopyE_any e.1 e.2 w U _ cu ys hA hL (hwe e he).2.1 (fun a ha=>((hwe e he).2.2 a ha).1)
 have HC:=hide hCp
 have HA:=hide hA
 have HL:=hide hL
 have HN:=hide hnl
 clear hCp hA hL hnl hwe
 suffices H:Calls Tryz.prog 37 #[.slice A n c] w fun e w'=>∃v,e=.returned v∧(∃zs,RowN w' w.heap.size 33 v zs L)∧Below w.heap.size w w' from H.mono fun e w' ⟨v,h1,⟨zs,h2⟩,h3⟩=>by
  subst h1
  exact h2.told h3
 go_enter Tryz.func37,Tryz.ntmps37
 go_wp2
 go_loopg [3,7] n (fun k s3 s7 wx=>∃(i:Nat) (zs:List Value),i+k=n∧s7=.int .i64 (i:Int)∧Hid (RowN wx w.heap.size 33 s3 zs (L.take i))∧Hid (Below w.heap.size w wx))
 case atStart=>exact⟨0,[],by omega,rfl,hide (RowN.start (World.ownsRow_nil _ _ _ _)),hide (Below.refl _ _)⟩
 case round=>
  obtain⟨i,zs,hig,rfl,hro,hbr⟩:=hrel
  cases gk with
  | zero=>
   obtain rfl:i=n:=by omega
   have hiz:¬((i:Int)<(i:Int)):=by omega
   have ho:=hro.out
   rw[List.take_of_length_le (by rw[←HN.out];exact Nat.le_refl _)] at ho
   have Ho:=hide ho
   clear HA HL HC HN hro ho
   go_wp2
   go_ret
   exact⟨_,rfl,⟨zs,Ho.out⟩,hbr.out⟩
  | succ r=>
   have hi:i<n:=by omega
   have hiz:(i:Int)<(n:Int):=by omega
   obtain⟨e,he⟩:∃e,L[i]?=some e:=⟨_,List.getElem?_eq_getElem (by rw[←HN.out];exact hi)⟩
   have hem:=List.mem_of_getElem? he
   obtain⟨g,o,hAe,hg,hat⟩:=HA.out.en HL.out (fun h=>by rw[h] at he;simp at he)
   subst hAe
   obtain⟨U,cu,ys,hat⟩:=hat i e he
   have hat:=hat.below hg hbr.out
   have e0:=hat.e0
   have e1:=hat.e1
   have Hcall:=hide (HC.out e hem wr U cu ys (hat.has.upto hbr.out.size) (hat.attrs.upto hbr.out.size))
   have hlen:(L.take i).length≤1000000:=by rw[List.length_take];omega
   have Htk:Hid (L.take (i+1)=L.take i++[e]):=hide (by rw[List.take_add_one,he];rfl)
   have Hk:Hid (∃TE k,txt e.1=TE∧e.2.length=k):=hide ⟨_,_,rfl,rfl⟩
   obtain⟨TE,k,hTE,hk⟩:=Hk.out
   rw[hTE] at e0
   rw[hk] at e1
   have Hcall2:Hid (Calls Tryz.prog 57 #[.agg #[.string TE,.slice U k cu]] wr (EntPost e wr)):=hide (by rw[←hTE,←hk];exact Hcall.out)
   have HTk:=hide (And.intro hTE hk)
   clear hat he hem hTE hk Hk Hcall
   go_wp2_with (go_at_call 57;fail)
   refine Hcall2.out.mono ?_
   rintro e9 w3 hpost
   obtain⟨A3,c3,ys3,rfl,hc3,hm3,hh3,he3,hb3⟩:=hpost.out
   rw[HTk.out.1,HTk.out.2]
   have HV3:=hide (And.intro hc3 (And.intro hm3 (And.intro hh3 (And.intro he3 hb3))))
   have hbc:=below1 w3 (.cells #[.string TE,.slice A3 k c3] 33)
   have hlit:=litY w3 (.string TE) (.slice A3 k c3) 33 rfl rfl
   have h1c:∀u∈[Value.string TE,Value.slice A3 k c3],u.oneCell'=true:=by simp[Value.oneCell']
   have hown6:=own_below (own_below hro.out.own hb3) hbc
   have hs6:w.heap.size≤(w3.alloc (.cells #[.string TE,.slice A3 k c3] 33)).heap.size:=Nat.le_trans (Nat.le_trans hbr.out.size hb3.size) hbc.size
   have Hbc:=hide hbc
   clear hpost hc3 hm3 hh3 he3 hb3 hbc Hcall2 e0 e1
   go_wp2_with (at_builtin;go_must (refine appN _ 22 33 _ 2 40 Tryz.underlying22 infoEN rfl (by omega) (by omega) rfl (.tmp 10) (.tmp 16) rfl w.heap.size _ _ zs rfl hown6 _ _ 1 1 [.string TE,.slice A3 k c3] rfl (Has.own hlit) h1c (by omega) hs6 ?_))
   intro v7 w7 hown7 hb7 hg7 ht7
   have HR7:Hid (RowN w7 w.heap.size 33 v7 (zs++[.string TE,.slice A3 k c3]) (L.take (i+1))):=hide (by
    rw[Htk.out]
    obtain⟨ht,hk⟩:=HTk.out
    subst ht hk
    exact hro.out.more hbr.out.size HV3.out.2.2.2.2 HV3.out.1 HV3.out.2.1 Hbc.out HV3.out.2.2.1 HV3.out.2.2.2.1 (by rw[List.length_take];exact hown7) hg7 (ht7.imp id fun h=>h.trans (by simp)))
   have HB7:=hide ((hbr.out.trans (HV3.out.2.2.2.2.mono hbr.out.size)).trans ((Hbc.out.mono (Nat.le_trans hbr.out.size HV3.out.2.2.2.2.size)).trans hb7))
   clear hown7 hb7 hg7 ht7 HV3 hlit h1c hown6 hs6 hlen Hbc
   go_wp2
   go_roundg r
   case measure=>omega
   case rel=>exact⟨i+1,_,by omega,by go_num,HR7,HB7⟩
end Go.Proofs.YtjjepcnijmlliaaGreatDoor
namespace Go.Proofs.YtjjepcnijmlliaaGreatDoor
open Go.RowKit
set_option linter.unusedVariables false
set_option linter.unusedSimpArgs false
def aliT:List UInt8:=[97,108,105,97,115,101,100,79,98,106,101,99,116,78,97,109,101]
def aliC:List UInt8:=[97,108,105,97,115]
open Classical in
noncomputable def aliasE (L:List EA):List UInt8 × Bool:=
 match valuesE L aliT with
 | v::_=>if HasE L clsT aliC then ((valV aliT v).1,(valV aliT v).2==0) else ([],false)
 | []=>([],false)
theorem ralias_any (nm:List UInt8) (L:List EA) (w:World) (A:Option Addr) (n c:Nat) (xs:List Value) (hA:Has w w.heap.size 2 A n xs) (hL:EAs w w.heap.size xs L) (hn:n≤1000000)
  (hvs:∀a∈L,a.2.length≤1000000∧∀u∈a.2,u.length≤1000000) (hT:TM w):
  Calls Tryz.prog 36 #[.agg #[.string (txt nm),.slice A n c]] w fun e w'=>e=.returned (.tuple #[.string (txt (aliasE L).1),.bool (aliasE L).2])∧Below w.heap.size w w':=by
 have hb1:=below1 w (.cells #[.string (txt nm),.slice A n c] 33)
 have hX:=BoxE.new w (txt nm) A n c 33
 obtain⟨w1,hw1⟩:∃w1,w.alloc (.cells #[.string (txt nm),.slice A n c] 33)=w1:=⟨_,rfl⟩
 rw[hw1] at hb1 hX
 have hVa:=fun w hA hL=>rvals_any nm L aliT w A n c xs hA hL hn (by decide) (fun a ha=>(hvs a ha).1)
 have hHa:=fun w hA hL hT=>rhas_any nm L clsT aliC w A n c xs hA hL hn (by decide) (by decide) hvs hT
 have hlen:∀u∈valuesE L aliT,u.length≤1000000:=by
  unfold valuesE
  split
  ·simp
  ·rcases pick_mem L (typ aliT).1 with h | ⟨a,ha,h⟩
   ·rw [h];simp
   ·rw [h];exact (hvs a ha).2
 have hva:txt aliT=(⟨#[97,108,105,97,115,101,100,79,98,106,101,99,116,78,97,109,101]⟩:ByteArray):=rfl
 have hc1:txt clsT=(⟨#[111,98,106,101,99,116,67,108,97,115,115]⟩:ByteArray):=rfl
 have hc2:txt aliC=(⟨#[97,108,105,97,115]⟩:ByteArray):=rfl
 have hVl:=fun v (hv:v∈valuesE L aliT) w hT=>rvalue_big aliT v (by decide) (hlen v hv) w hT
 rw[hva] at hVa hVl
 rw[hc1,hc2] at hHa
 have hdef:aliasE L=match valuesE L aliT with
  | v::_=>@ite _ (HasE L clsT aliC) (Classical.propDecidable _) ((valV aliT v).1,(valV aliT v).2==0) ([],false)
  | []=>([],false):=rfl
 rw[hdef]
 generalize valuesE L aliT=R at *
 obtain⟨b,hb⟩:∃b,Tr (HasE L clsT aliC)=b:=⟨_,rfl⟩
 rw[hb] at hHa
 have HA:=hide ((hA.below hb1).upto hb1.size)
 have HL:=hide (hL.grow hb1)
 have HT:=hide (hT.below hb1)
 have HX:=hide hX
 have HB:=hide hb1
 have HVa:=hide hVa
 have HHa:=hide hHa
 have HVl:=hide hVl
 have Hw1:=hide hw1
 clear hb1 hX hw1 hVa hHa hVl hlen hva hc1 hc2 hdef hA hL hT hvs
 generalize txt nm=SN at *
 have main:∀(S:ByteArray) (bb:Bool),(R=[]→S=⟨#[]⟩∧bb=false)→(b=false→S=⟨#[]⟩∧bb=false)→(∀v r,R=v::r→b=true→S=txt (valV aliT v).1∧bb=((valV aliT v).2==0))→
   Calls Tryz.prog 36 #[.agg #[.string SN,.slice A n c]] w fun e w'=>e=.returned (.tuple #[.string S,.bool bb])∧Below w.heap.size w w':=by
  intro S bb h1 h2 h3
  have H1:=hide h1
  have H2:=hide h2
  have H3:=hide h3
  clear h1 h2 h3 hb
  go_enter Tryz.func36,Tryz.ntmps36
  go_upto_region 1 with fail
  rw[Hw1.out]
  have x0:=HX.out.c0
  have x1:=HX.out.c1
  go_wp2_with (go_at_call 45;fail)
  refine (HVa.out _ HA.out HL.out).mono ?_
  rintro e w2 hpost
  obtain⟨v2,rfl,hown2,hb2⟩:=hpost.out
  have HX2:=hide (HX.out.grow hb2)
  have HA2:=hide ((HA.out.below hb2).upto hb2.size)
  have HL2:=hide (HL.out.grow hb2)
  have HT2:=hide (HT.out.below hb2)
  have HB2:=hide (HB.out.trans (hb2.mono HB.out.size))
  obtain⟨A2,c2,rfl,hc2,hh2⟩:=own_form hown2
  have HR2:=hide hh2
  clear hpost hown2 hb2 HX HA HL HT HB HVa x0 x1 Hw1 hc2 hh2
  have x0:=HX2.out.c0
  have x1:=HX2.out.c1
  go_wp2_with (go_at_call 64;fail)
  refine (HHa.out _ HA2.out HL2.out HT2.out).mono ?_
  rintro e w3 ⟨rfl,hb3⟩
  have HT3:=hide (HT2.out.below hb3)
  have HB3:=hide (HB2.out.trans (hb3.mono HB2.out.size))
  have HR3:=hide ((HR2.out.below hb3).upto hb3.size)
  clear hb3 HX2 HA2 HL2 HT2 HB2 HHa x0 x1 HR2
  cases b with
  | false=>
   obtain⟨rfl,rfl⟩:=H2.out rfl
   clear H1 H2 H3 HR3 HVl
   go_wp2
   go_ret2
   exact⟨rfl,HB3.out⟩
  | true=>
   cases R with
   | nil=>
    obtain⟨rfl,rfl⟩:=H1.out rfl
    clear H1 H2 H3 HR3 HVl
    simp only[List.length_nil]
    go_wp2
    go_ret2
    exact⟨rfl,HB3.out⟩
   | cons v r=>
    obtain⟨rfl,rfl⟩:=H3.out v r rfl rfl
    obtain⟨g,o,hAe,hg,hat⟩:=HR3.out.texts (by simp)
    subst hAe
    have d0:=hat 0 v rfl
    rw[Nat.add_zero] at d0
    have Hcall:=hide (HVl.out v (by simp))
    have hk:(v::r).length=r.length+1:=rfl
    rw[hk]
    generalize r.length=k at *
    have hz:((((k+1:Nat):Int))==0)=false:=beq_false_of_ne (by omega)
    have hz2:¬(((k+1:Nat):Int))=0:=by omega
    have hlt:(0:Int)<((k+1:Nat):Int):=by omega
    generalize txt v=SV at *
    obtain⟨y,hy⟩:∃y,(valV aliT v).2=y:=⟨_,rfl⟩
    obtain⟨NV,hNV⟩:∃NV,txt (valV aliT v).1=NV:=⟨_,rfl⟩
    rw[hy,hNV] at Hcall
    have Hy:=hide hy
    have HNV:=hide hNV
    clear H1 H2 H3 HR3 HVl hat hk hy hNV
    go_wp2_with (go_at_call 65;fail)
    refine (Hcall.out _ HT3.out).mono ?_
    rintro e w4 ⟨rfl,hb4⟩
    have HB4:=hide (HB3.out.trans (hb4.mono HB3.out.size))
    clear hb4 HB3 Hcall
    go_wp2
    go_ret2
    exact⟨by rw[HNV.out,Hy.out];rfl,HB4.out⟩
 cases R with
 | nil=>exact main _ _ (fun _=>⟨rfl,rfl⟩) (fun _=>⟨rfl,rfl⟩) (fun v r h=>by cases h)
 | cons v r=>
  by_cases hh:HasE L clsT aliC
  ·simp only[if_pos hh]
   exact main _ _ (fun h=>by cases h) (fun h=>by rw[Tr_yes hh] at hb;rw[←hb] at h;cases h) (fun v' r' h _=>by cases h;exact⟨rfl,rfl⟩)
  ·simp only[if_neg hh]
   exact main _ _ (fun h=>by cases h) (fun _=>⟨rfl,rfl⟩) (fun v' r' _ h=>by rw[Tr_no hh] at hb;rw[←hb] at h;cases h)
end Go.Proofs.YtjjepcnijmlliaaGreatDoor
namespace Go.Proofs.YtjjepcnijmlliaaGreatDoor
open Go.RowKit
set_option linter.unusedVariables false
set_option linter.unusedSimpArgs false
structure TreeOk (L:List EN):Prop where
 formed:∀e∈L,FormedE e.1 e.2
 above:∀e∈L,(parentV e.1).1≠[]→∃f∈L,f.1=(parentV e.1).1
structure TreePost (L:List EN) (w:World) (e:Ending) (w':World):Prop where
 out:∃p y,e=.returned (.tuple #[p,.int .i64 y])∧((p=.pointer none∧y=2)∨(y=0∧TreeOk L∧∃q A c ys,p=.pointer (some ⟨q,0,none⟩)∧q<w'.heap.size∧w'.cell? ⟨q,0,none⟩=some (.slice A (sortN L).length c)∧(sortN L).length≤c∧c≤maxLen∧Has w' w'.heap.size 2 A (sortN L).length ys∧ENs w' w'.heap.size ys (sortN L)))∧Below w.heap.size w w'
structure VE (w0 w:World) (A:Option Addr) (n:Nat) (xs:List Value) (L:List EN):Prop where
 base:Below w0.heap.size w0 w
 tm:TM w
 has:Has w w.heap.size 2 A n xs
 ents:ENs w w.heap.size xs L
theorem VE.grow {w0 w w':World} {A:Option Addr} {n:Nat} {xs:List Value} {L:List EN} (h:VE w0 w A n xs L) (hb:Below w.heap.size w w'):VE w0 w' A n xs L:=
 ⟨h.base.trans (hb.mono h.base.size),h.tm.below hb,(h.has.below hb).upto hb.size,h.ents.grow hb⟩
theorem atN_some {L:List EN} {nm:List UInt8} (h:0≤atN L nm):∃(k:Nat) (e:EN),L[k]?=some e∧e.1=(normT nm).1∧atN L nm=(k:Int):=by
 unfold atN at h ⊢
 split
 ·rename_i h0
  rw[if_pos h0] at h
  obtain⟨k,e,h1,h2,h3⟩:=findN_some 0 h
  exact⟨k,e,h1,h2,by rw[h3];simp⟩
 ·rename_i h0
  rw[if_neg h0] at h
  omega
theorem tree_no (L:List EN) (w w':World) (hb:Below w.heap.size w w'):TreePost L w (.returned (.tuple #[.pointer none,.int .i64 2])) w':=⟨⟨_,_,rfl,Or.inl ⟨rfl,rfl⟩,hb⟩⟩
theorem rof_any (L:List EN) (w:World) (A:Option Addr) (n c:Nat) (xs:List Value) (hA:Has w w.heap.size 2 A n xs) (hL:ENs w w.heap.size xs L) (hn:n≤100000) (hwe:∀e∈L,WeeN e) (hty:TypesN L) (hT:TM w):
  Calls Tryz.prog 19 #[.slice A n c] w (TreePost L w):=by
 have hnl:=hA.ens_n hL
 have hC:VE w w A n xs L:=⟨Below.refl _ _,hT,hA,hL⟩
 have hFo:∀e∈L,∀(w:World) (U:Option Addr) (cu:Nat) (ys:List Value),Has w w.heap.size 2 U e.2.length ys→EAs w w.heap.size ys e.2→TM w→Calls Tryz.prog 24 #[.agg #[.string (txt e.1),.slice U e.2.length cu]] w fun e' w'=>e'=.returned (.bool (Tr (FormedE e.1 e.2)))∧Below w.heap.size w w':=fun e he w U cu ys hA hL hT=>by
  obtain⟨h1,h2,h3⟩:=hwe e he
  exact rformedE_any e.1 e.2 w U _ cu ys hA hL h2 h1 (fun a ha=>⟨by have:=hty e he a ha;omega,h3 a ha⟩) hT
 have hAl:∀e∈L,∀(w:World) (U:Option Addr) (cu:Nat) (ys:List Value),Has w w.heap.size 2 U e.2.length ys→EAs w w.heap.size ys e.2→TM w→Calls Tryz.prog 36 #[.agg #[.string (txt e.1),.slice U e.2.length cu]] w fun e' w'=>e'=.returned (.tuple #[.string (txt (aliasE e.2).1),.bool (aliasE e.2).2])∧Below w.heap.size w w':=fun e he w U cu ys hA hL hT=>by
  obtain⟨h1,h2,h3⟩:=hwe e he
  exact ralias_any e.1 e.2 w U _ cu ys hA hL h2 h3 hT
 have hAt:∀(nm:List UInt8),nm.length≤1000000→∀w,Has w w.heap.size 2 A n xs→ENs w w.heap.size xs L→TM w→Calls Tryz.prog 17 #[.slice A n c,.string (txt nm)] w fun e w'=>e=.returned (.int .i64 (atN L nm))∧Below w.heap.size w w':=fun nm h w hA hL hT=>rat_any L nm w A n c xs hA hL (by omega) h hT
 have hPa:∀e∈L,∀w,TM w→Calls Tryz.prog 20 #[.string (txt e.1)] w fun e' w'=>e'=.returned (.tuple #[.string (txt (parentV e.1).1),.bool (parentV e.1).2])∧Below w.heap.size w w':=fun e he w hT=>rparent_any e.1 (hwe e he).1 w hT
 have hSo:=fun w hA hL hT=>sorted_any L w A n c xs hA hL hn (fun e he=>(hwe e he).1) hT
 have hCo:∀(w:World) (A':Option Addr) (c':Nat) (ys:List Value),Has w w.heap.size 2 A' (sortN L).length ys→ENs w w.heap.size ys (sortN L)→Calls Tryz.prog 37 #[.slice A' (sortN L).length c'] w (EntsPost (sortN L) w):=fun w A' c' ys hA hL=>
  rcopyall_any (sortN L) w A' _ c' ys hA hL (by have:=sortN_len L;omega) (fun e he=>hwe e (sortN_mem he))
 have hwn:∀e∈L,e.1.length≤1000000:=fun e he=>(hwe e he).1
 have HC:=hide hC
 have HFo:=hide hFo
 have HAl:=hide hAl
 have HAt:=hide hAt
 have HPa:=hide hPa
 have HSo:=hide hSo
 have HCo:=hide hCo
 have HN:=hide hnl
 have HW:=hide hwn
 clear hC hFo hAl hAt hPa hSo hCo hnl hwn hA hL hwe hty hT
 suffices H:Calls Tryz.prog 19 #[.slice A n c] w fun e w'=>Hid (TreePost L w e w') from H.mono fun e w' h=>h.out
 by_cases h400:400<n
 ·have z:(400:Int)<(n:Int):=by omega
  clear HC HFo HAl HAt HPa HSo HCo HN HW
  go_enter Tryz.func19,Tryz.ntmps19
  go_wp2
  go_ret2
  exact hide (tree_no L w _ (Below.refl _ _))
 ·have z:¬(400:Int)<(n:Int):=by omega
  go_enter Tryz.func19,Tryz.ntmps19
  go_wp2
  go_loopg [16] n (fun k s16 wx=>∃i:Nat,i+k=n∧s16=.int .i64 (i:Int)∧Hid (∀e∈L.take i,FormedE e.1 e.2)∧Hid (Below w.heap.size w wx))
  case atStart=>exact⟨0,by omega,rfl,hide fun e he=>(by simp at he),hide (Below.refl _ _)⟩
  case round=>
   obtain⟨i,hig,rfl,hpre,hbr⟩:=hrel
   cases gk with
   | zero=>
    obtain rfl:i=n:=by omega
    have hiz:¬((i:Int)<(i:Int)):=by omega
    have HFm:Hid (∀e∈L,FormedE e.1 e.2):=hide (by
     have:=hpre.out
     rwa [List.take_of_length_le (by rw[←HN.out];exact Nat.le_refl _)] at this)
    have HC2:=hide (HC.out.grow hbr.out)
    obtain⟨w2,rfl⟩:∃w2,w2=wr:=⟨wr,rfl⟩
    clear hpre HFo HC
    go_wp2
    go_loopg [39] i (fun k s39 wx=>∃j:Nat,j+k=i∧s39=.int .i64 (j:Int)∧Hid (∀e∈L.take j,(parentV e.1).1≠[]→∃f∈L,f.1=(parentV e.1).1)∧Hid (Below w2.heap.size w2 wx))
    case atStart=>exact⟨0,by omega,rfl,hide fun e he=>(by simp at he),hide (Below.refl _ _)⟩
    case round=>
     obtain⟨j,hjg,rfl,hpre,hbj⟩:=hrel
     cases gk with
     | zero=>
      obtain rfl:j=i:=by omega
      have hjz:¬((j:Int)<(j:Int)):=by omega
      have HOk:Hid (TreeOk L):=hide ⟨HFm.out,by
       have:=hpre.out
       rwa [List.take_of_length_le (by rw[←HN.out];exact Nat.le_refl _)] at this⟩
      have HC3:=hide (HC2.out.grow hbj.out)
      have HX:Hid (∃ks,(sortN L).length=ks):=hide ⟨_,rfl⟩
      clear hpre HAl HAt HPa HC2 HFm hbj
      go_wp2_with (go_at_call 38;fail)
      refine (HSo.out _ HC3.out.has HC3.out.ents HC3.out.tm).mono ?_
      rintro e w4 hpost
      obtain⟨A4,c4,ys4,rfl,hc4,hm4,hh4,he4,hb4⟩:=hpost.out
      have HC4:=hide (HC3.out.grow hb4)
      have HE4:=hide (And.intro hh4 he4)
      obtain⟨ks,hks⟩:=HX.out
      rw[hks] at HCo HE4 ⊢
      have Hks:=hide hks
      clear hpost hc4 hm4 hh4 he4 hb4 HSo HC3 HX hks
      go_wp2_with (go_at_call 37;fail)
      refine (HCo.out _ _ _ _ HE4.out.1 HE4.out.2).mono ?_
      rintro e w5 hpost
      obtain⟨A5,c5,ys5,rfl,hc5,hm5,hh5,he5,hb5⟩:=hpost.read
      have HC5:=hide (HC4.out.grow hb5)
      rw[Hks.out] at hh5 hc5 ⊢
      have hba:=below1 w5 (.cells #[.slice A5 ks c5] 48)
      have hX5:=Blk.new w5 [.slice A5 ks c5] 48
      have HP:Hid (TreePost L w (.returned (.tuple #[.pointer (some ⟨w5.heap.size,0,none⟩),.int .i64 0])) (w5.alloc (.cells #[.slice A5 ks c5] 48))):=hide ⟨⟨_,_,rfl,Or.inr ⟨rfl,HOk.out,w5.heap.size,A5,c5,ys5,rfl,hX5.lt,by rw[Hks.out];exact hX5.cells 0 _ rfl,by rw[Hks.out];exact hc5,hm5,by rw[Hks.out];exact (hh5.below hba).upto hba.size,he5.grow hba⟩,(HC5.out.grow hba).base⟩⟩
      clear hpost hc5 hm5 hh5 he5 hb5 HC4 HE4 HCo HC5 hba hX5 HOk
      go_wp2
      go_ret2
      exact HP
     | succ k2=>
      have hj:j<i:=by omega
      have hjz:(j:Int)<(i:Int):=by omega
      obtain⟨e,he⟩:∃e,L[j]?=some e:=⟨_,List.getElem?_eq_getElem (by rw[←HN.out];exact hj)⟩
      have hem:=List.mem_of_getElem? he
      obtain⟨g,o,hAe,hg,hat⟩:=HC2.out.has.en HC2.out.ents (fun h=>by rw[h] at he;simp at he)
      subst hAe
      obtain⟨U,cu,ys,hat0⟩:=hat j e he
      have hatr:=hat0.below hg hbj.out
      have e0:=hatr.e0
      have htk:L.take (j+1)=L.take j++[e]:=by rw[List.take_add_one,he];rfl
      have HCr:=hide (HC2.out.grow hbj.out)
      have Hpar:=hide (HPa.out e hem)
      have hro:normT (parentV e.1).1=((parentV e.1).1,0):=rootor_next (HFm.out e hem).loose.norm
      have hps:=parent_short e.1
      have Hcat:=hide (HAt.out (parentV e.1).1 (by omega))
      obtain⟨p,hp⟩:∃p,(parentV e.1).1=p:=⟨_,rfl⟩
      rw[hp] at Hpar Hcat hro
      have Hnext:Hid ((p≠[]→∃f∈L,f.1=p)→∀e∈L.take (j+1),(parentV e.1).1≠[]→∃f∈L,f.1=(parentV e.1).1):=hide fun h x hx=>by
       rw[htk] at hx
       rcases List.mem_append.1 hx with hx | hx
       ·exact hpre.out x hx
       ·obtain rfl:=List.mem_singleton.1 hx
        rw[hp]
        exact h
      have q1:((txt p).toList==[])=(p==[]):=toeq _ _
      have Hro:=hide hro
      have Hat:=hide hat
      obtain⟨TP,hTP⟩:∃TP,txt p=TP:=⟨_,rfl⟩
      rw[hTP] at Hpar Hcat q1
      generalize (parentV e.1).2=pb at *
      generalize txt e.1=TE at *
      clear hpre hat hat0 hatr he htk hps hp hro hTP HPa HAt
      go_wp2_with (go_at_call 20;fail)
      refine (Hpar.out _ HCr.out.tm).mono ?_
      rintro e' w5 ⟨rfl,hb5⟩
      have hbj5:=hbj.out.trans (hb5.mono hbj.out.size)
      have Hbj5:=hide hbj5
      have HC5:=hide (HCr.out.grow hb5)
      clear hb5 hbj5 Hpar e0 hbj HCr
      by_cases hp0:p=[]
      ·have e1:(p==[])=true:=by rw[hp0];rfl
       rw[e1] at q1
       have Hn2:=hide (Hnext.out fun h=>absurd hp0 h)
       clear Hnext Hcat Hro e1 hp0 HC5 Hat
       go_wp2
       go_roundg k2
       case measure=>omega
       case rel=>exact⟨j+1,by omega,by go_num,Hn2,Hbj5⟩
      ·have e1:(p==[])=false:=by simpa using hp0
       rw[e1] at q1
       go_wp2_with (go_at_call 17;fail)
       refine (Hcat.out _ HC5.out.has HC5.out.ents HC5.out.tm).mono ?_
       rintro e' w6 ⟨rfl,hb6⟩
       have hbj6:=Hbj5.out.trans (hb6.mono Hbj5.out.size)
       have Hbj6:=hide hbj6
       have HC6:=hide (HC5.out.grow hb6)
       clear hb6 HC5 Hcat Hbj5
       by_cases hneg:atN L p<0
       ·generalize atN L p=ai at *
        clear Hnext Hro HCo HSo HAl Hat e1 hp0 q1
        go_wp2
        go_ret2
        exact hide (tree_no L w _ HC6.out.base)
       ·obtain ⟨kk,f,hkk,hf1,hke⟩:=atN_some (show 0≤atN L p by omega)
        have hkn:kk<i:=by rw[HN.out];exact (List.getElem?_eq_some_iff.1 hkk).1
        have hkz:(kk:Int)<(i:Int):=by omega
        have hkz0:¬((kk:Int)<0):=by omega
        rw[hke]
        rw[Hro.out] at hf1
        have Hn2:=hide (Hnext.out fun _=>⟨f,List.mem_of_getElem? hkk,hf1⟩)
        obtain⟨U2,cu2,ys2,hat2⟩:=Hat.out kk f hkk
        have hat6:=hat2.below hg hbj6
        have d0:=hat6.e0
        have d1:=hat6.e1
        have Hal:=hide (HAl.out f (List.mem_of_getElem? hkk) w6 U2 cu2 ys2 (hat6.has.upto hbj6.size) (hat6.attrs.upto hbj6.size) HC6.out.tm)
        generalize txt f.1=TF at *
        generalize f.2.length=kf at *
        generalize txt (aliasE f.2).1=TA at *
        obtain⟨al,hal⟩:∃al,(aliasE f.2).2=al:=⟨_,rfl⟩
        rw[hal] at Hal
        clear Hnext Hro hkk hf1 hke hat2 hat6 hneg hbj6 e1 hp0 hal Hat
        go_wp2_with (go_at_call 36;fail)
        refine Hal.out.mono ?_
        rintro e' w7 ⟨rfl,hb7⟩
        have Hbj7:=hide (Hbj6.out.trans (hb7.mono Hbj6.out.size))
        have HC7:=hide (HC6.out.grow hb7)
        clear hb7 HC6 Hal Hbj6 d0 d1
        cases al with
        | true=>
         clear Hn2 HCo HSo HAl
         go_wp2
         go_ret2
         exact hide (tree_no L w _ HC7.out.base)
        | false=>
         clear HC7
         go_wp2
         go_roundg k2
         case measure=>omega
         case rel=>exact⟨j+1,by omega,by go_num,Hn2,Hbj7⟩
   | succ k=>
    have hi:i<n:=by omega
    have hiz:(i:Int)<(n:Int):=by omega
    obtain⟨e,he⟩:∃e,L[i]?=some e:=⟨_,List.getElem?_eq_getElem (by rw[←HN.out];exact hi)⟩
    have hem:=List.mem_of_getElem? he
    obtain⟨g,o,hAe,hg,hat⟩:=HC.out.has.en HC.out.ents (fun h=>by rw[h] at he;simp at he)
    subst hAe
    obtain⟨U,cu,ys,hat⟩:=hat i e he
    have hatr:=hat.below hg hbr.out
    have e0:=hatr.e0
    have e1:=hatr.e1
    have hCr:=HC.out.grow hbr.out
    have hfo:=HFo.out e hem wr U cu ys (hatr.has.upto hbr.out.size) (hatr.attrs.upto hbr.out.size) hCr.tm
    have Hcat:=hide (HAt.out e.1 (HW.out e hem))
    have htk:L.take (i+1)=L.take i++[e]:=by rw[List.take_add_one,he];rfl
    have HCr:=hide hCr
    by_cases hf:FormedE e.1 e.2
    ·rw [Tr_yes hf] at hfo
     have Hfo:=hide hfo
     have Hn2:Hid (∀e∈L.take (i+1),FormedE e.1 e.2):=hide fun x hx=>by
      rw[htk] at hx
      rcases List.mem_append.1 hx with hx | hx
      ·exact hpre.out x hx
      ·obtain rfl:=List.mem_singleton.1 hx
       exact hf
     have Hat:=hide hat
     obtain⟨TE,hTE⟩:∃TE,txt e.1=TE:=⟨_,rfl⟩
     rw[hTE] at Hfo Hcat e0
     have HTE:=hide hTE
     generalize e.2.length=ke at *
     generalize atN L e.1=ai at *
     clear hpre hfo hatr hat hf htk he hem hCr hTE HPa HAl HSo HCo
     go_wp2_with (go_at_call 24;fail)
     refine Hfo.out.mono ?_
     rintro e' w5 ⟨rfl,hb5⟩
     have hbr5:=hbr.out.trans (hb5.mono hbr.out.size)
     have HC5:=hide (HCr.out.grow hb5)
     have d0:=(Hat.out.below hg hbr5).e0
     rw[HTE.out] at d0
     have Hbr5:=hide hbr5
     clear hb5 hbr5 Hfo e0 e1 hbr HCr
     go_wp2_with (go_at_call 17;fail)
     refine (Hcat.out _ HC5.out.has HC5.out.ents HC5.out.tm).mono ?_
     rintro e' w6 ⟨rfl,hb6⟩
     have HB6:=hide (HC5.out.grow hb6).base
     have Hbr6:=hide (Hbr5.out.trans (hb6.mono Hbr5.out.size))
     clear hb6 HC5 Hcat Hbr5 d0 Hat HTE
     by_cases hai:ai=(i:Int)
     ·have q0:(ai==(i:Int))=true:=by rw[hai];simp
      have q1:(ai !=(i:Int))=false:=by unfold bne;rw[q0];rfl
      clear hai
      go_wp2
      go_roundg k
      case measure=>omega
      case rel=>exact⟨i+1,by omega,by go_num,Hn2,Hbr6⟩
     ·have q0:(ai==(i:Int))=false:=beq_false_of_ne hai
      have q1:(ai !=(i:Int))=true:=by unfold bne;rw[q0];rfl
      clear hai Hn2
      go_wp2
      go_ret2
      exact hide (tree_no L w _ HB6.out)
    ·rw [Tr_no hf] at hfo
     have Hfo:=hide hfo
     generalize txt e.1=TE at *
     generalize e.2.length=ke at *
     clear hpre hfo hatr hat hf htk he hem hCr HPa HAl HSo HCo Hcat
     go_wp2_with (go_at_call 24;fail)
     refine Hfo.out.mono ?_
     rintro e' w5 ⟨rfl,hb5⟩
     have HB5:=hide (HCr.out.grow hb5).base
     clear hb5 Hfo e0 e1 hbr HCr
     go_wp2
     go_ret2
     exact hide (tree_no L w _ HB5.out)
end Go.Proofs.YtjjepcnijmlliaaGreatDoor
