/- Several texts in one: EAwake, ENamed, ELoose, ERForm, ESmall, ESame. By an AI agent. -/
import Derived.Test.YtjjepcnijmlliaaGreatDoorVX
import Derived.Test.YtjjepcnijmlliaaGreatDoorEX
import Derived.Deep.CutRange
import Derived.Deep.CutBlock
import Derived.BigQuiet
set_option maxRecDepth 100000
set_option maxHeartbeats 64000000
namespace Go.Proofs.YtjjepcnijmlliaaGreatDoor
open Go.RowKit
set_option linter.unusedVariables false
def awE:List EA:=[([100,99],[[120]]),(clsT,[[111]])]
theorem val_dcx:valV [100,99] [120]=([120],0):=by
 unfold valV
 rw[if_pos (by decide),norm_word _ _ (by decide) (by decide) (by decide) (by decide)]
 decide
theorem val_clso:valV clsT [111]=([111],0):=by
 unfold valV
 rw[if_pos (by decide),norm_word _ _ (by decide) (by decide) (by decide) (by decide)]
 decide
theorem alone_one (n v:List UInt8):AloneV n [v]:=by
 intro i u hu
 obtain⟨hi,_⟩:=List.getElem?_eq_some_iff.1 hu
 obtain rfl:i=0:=by simpa using hi
 rintro ⟨x,hx,_⟩
 cases hx
theorem formed_awE:FormedE [100,99,61,120] awE:=by
 have hdc:(typ [100,99]).1=[100,99]∧(typ [100,99]).2≠0:=by decide
 have hcl:(typ clsT).1=clsT∧(typ clsT).2≠0:=by decide
 refine⟨⟨?_,by decide,⟨by decide,fun i a b ha hb=>?_,fun a ha=>?_⟩⟩,?_,⟨_,_,name_dcx,fun q hq=>?_⟩⟩
 ·rw [norm_yes' parts_dcx];rfl
 ·match i,ha,hb with
  | 0,ha,hb=>
   obtain rfl:=Option.some.inj ha
   obtain rfl:=Option.some.inj hb
   decide
  | 1,_,hb=>cases hb
  | n+2,ha,_=>cases ha
 ·rcases List.mem_cons.1 ha with rfl | ha
  ·refine ⟨by decide,hdc.1,by decide,by decide,fun v hv=>?_,alone_one _ _⟩
   obtain rfl:=List.mem_singleton.1 hv
   exact congrArg Prod.snd val_dcx
  ·obtain rfl:=List.mem_singleton.1 ha
   refine⟨by decide,hcl.1,by decide,by decide,fun v hv=>?_,alone_one _ _⟩
   obtain rfl:=List.mem_singleton.1 hv
   exact congrArg Prod.snd val_clso
 ·unfold valuesE
  rw[if_neg hcl.2,hcl.1]
  unfold awE pickE
  rw[if_neg (by decide)]
  unfold pickE
  rw[if_pos rfl]
  decide
 ·obtain rfl:=List.mem_singleton.1 hq
  refine⟨[120],?_,?_⟩
  ·unfold valuesE
   rw[if_neg hdc.2,hdc.1]
   unfold awE pickE
   rw[if_pos rfl]
   simp
  ·exact ⟨congrArg Prod.snd val_dcx,congrArg Prod.snd val_dcx,rfl⟩
end Go.Proofs.YtjjepcnijmlliaaGreatDoor
namespace Go.Proofs.YtjjepcnijmlliaaGreatDoor
open Go.RowKit
set_option linter.unusedVariables false
set_option linter.unusedSimpArgs false
theorem rnamed_any (nm:List UInt8) (L:List EA) (w:World) (A:Option Addr) (n c:Nat) (xs:List Value) (hA:Has w w.heap.size 2 A n xs) (hL:EAs w w.heap.size xs L) (hn:n≤1000000)
  (hnm:nm.length≤1000000) (hvs:∀a∈L,a.2.length≤1000000∧∀u∈a.2,u.length≤1000000) (hT:TM w):
  Calls Tryz.prog 46 #[.agg #[.string (txt nm),.slice A n c]] w fun e w'=>e=.returned (.bool (Tr (NamedR nm L)))∧Below w.heap.size w w':=by
 have hb1:=below1 w (.cells #[.string (txt nm),.slice A n c] 33)
 have hX:=BoxE.new w (txt nm) A n c 33
 have hP:=fun w hT=>rname_any nm hnm w hT
 have HA:=hide ((hA.below hb1).upto hb1.size)
 have HL:=hide (hL.grow hb1)
 have HT:=hide (hT.below hb1)
 have HB:=hide hb1
 have HX:=hide hX
 have x0:=hX.c0
 cases hV:nameV nm with
 | mk o e=>
 cases o with
 | none=>
  rw[Tr_no (show ¬NamedR nm L from fun ⟨p,r,h,_⟩=>by rw[hV] at h;cases h)]
  rw[hV] at hP
  have he:=name_err hV
  have q0:(e==0)=false:=by rcases he with rfl | rfl<;>rfl
  have q1:(e !=0)=true:=by rcases he with rfl | rfl<;>rfl
  have HP:=hide hP
  generalize txt nm=SN at *
  clear hP hV he hb1 hX hA hL hT hnm hvs HA HL
  go_enter Tryz.func46,Tryz.ntmps46
  go_wp2_with (go_at_call 67;fail)
  refine (HP.out _ HT.out).mono ?_
  rintro ee w2 hpost
  obtain⟨Ap,cp,vs,rfl,_,_,hb2⟩:=hpost.out
  have HB2:=hide (HB.out.trans (hb2.mono HB.out.size))
  clear hpost hb2 HB HT HP x0 HX
  go_wp2
  go_ret
  exact⟨rfl,HB2.out⟩
 | some P=>
  obtain⟨rfl,hok⟩:=name_ok hV
  rw[hV] at hP
  cases P with
  | nil=>
   rw[Tr_no (show ¬NamedR nm L from fun ⟨p,r,h,_⟩=>by rw[hV] at h;simp at h)]
   have HP:=hide hP
   generalize txt nm=SN at *
   clear hP hV hb1 hX hA hL hT hnm hvs HA HL hok
   go_enter Tryz.func46,Tryz.ntmps46
   go_wp2_with (go_at_call 67;fail)
   refine (HP.out _ HT.out).mono ?_
   rintro ee w2 hpost
   obtain⟨Ap,cp,vs,rfl,_,_,hb2⟩:=hpost.out
   have HB2:=hide (HB.out.trans (hb2.mono HB.out.size))
   clear hpost hb2 HB HT HP x0 HX
   go_wp2
   go_ret
   exact⟨rfl,HB2.out⟩
  | cons p r0=>
   have hpo:=hok.each p (by simp)
   obtain⟨R,hR⟩:∃R,Tr (NamedR nm L)=R:=⟨_,rfl⟩
   rw[hR]
   have HR:Hid ((∀q∈p,HasE L q.1 q.2)↔R=true):=hide (by
    rw[←hR,Tr_iff]
    constructor
    ·intro h
     exact⟨p,r0,hV,h⟩
    ·rintro ⟨p',r',h,h2⟩
     rw[hV] at h
     injection h with h _
     injection h with h
     injection h with h _
     subst h
     exact h2)
   have HC:=hide (fun q (hq:q∈p) w hA hL hT=>rhas_any nm L q.1 q.2 w A n c xs hA hL hn (by have:=(hpo.each q hq).small;omega) (by have:=(hpo.each q hq).small;omega) hvs hT)
   have HP:=hide hP
   have hp3:=hpo.le
   have hlen:0<(p::r0).length:=by simp
   obtain⟨m,hm⟩:∃m,(p::r0).length=m:=⟨_,rfl⟩
   rw[hm] at hlen
   have hm0:((m:Int)==0)=false:=beq_false_of_ne (by omega)
   have hmz:(0:Int)<(m:Int):=by omega
   have Hm:=hide hm
   obtain⟨k,hk⟩:∃k,p.length=k:=⟨_,rfl⟩
   have Hk:=hide hk
   rw[hk] at hp3
   clear hP hV hb1 hX hA hL hT hnm hvs hR hok hpo hm hk
   generalize txt nm=SN at *
   go_enter Tryz.func46,Tryz.ntmps46
   go_wp2_with (go_at_call 67;fail)
   refine (HP.out _ HT.out).mono ?_
   rintro ee w2 hpost
   obtain⟨Ap,cp,vs,rfl,hvs2,hrw,hb2⟩:=hpost.out
   simp only[Option.getD_some] at hvs2 hrw ⊢
   rw[Hm.out] at hvs2 ⊢
   obtain⟨g,o,rfl,hg,hcell⟩:=hvs2.lies (by have:=hvs2.1;omega)
   obtain⟨Aq,cq,hv0,hHp⟩:=hrw.each 0 p rfl
   have y00:=hcell 0 _ hv0
   rw[Nat.add_zero,Hk.out] at y00
   rw[Hk.out] at hHp
   have HB2:=hide (HB.out.trans (hb2.mono HB.out.size))
   have HT2:=hide (HT.out.below hb2)
   have HA2:=hide ((HA.out.below hb2).upto hb2.size)
   have HL2:=hide (HL.out.grow hb2)
   have HX2:=hide (HX.out.grow hb2)
   have HHp:=hide hHp
   clear hpost hb2 HB HT HP x0 HX HA HL hvs2 hrw hcell hv0 hHp
   go_wp2
   go_loopg [23] k (fun r s23 wx=>∃i:Nat,i+r=k∧s23=.int .i64 (i:Int)∧Hid (∀q∈p.take i,HasE L q.1 q.2)∧Below w2.heap.size w2 wx)
   case atStart=>exact⟨0,by omega,rfl,hide fun q hq=>(by simp at hq),Below.refl _ _⟩
   case round=>
    obtain⟨i,hig,rfl,hpre,hbr⟩:=hrel
    have hgr:g<wr.heap.size:=Nat.lt_of_lt_of_le hg hbr.size
    cases gk with
    | zero=>
     obtain rfl:k=i:=by omega
     have hiz:¬((k:Int)<(k:Int)):=by omega
     have hR1:Hid (R=true):=hide (HR.out.1 (by
      have:=hpre.out
      rwa [List.take_of_length_le (by rw[Hk.out];exact Nat.le_refl _)] at this))
     have HE:=hide (HB2.out.trans (hbr.mono HB2.out.size))
     clear hpre HA2 HL2 HT2 HX2 HR HC HHp hbr y00
     go_wp2
     go_ret
     exact⟨by rw[hR1.out];rfl,HE.out⟩
    | succ r=>
     have hi:i<k:=by omega
     have hiz:(i:Int)<(k:Int):=by omega
     obtain⟨q,hq⟩:∃q,p[i]?=some q:=⟨_,List.getElem?_eq_getElem (by rw[Hk.out];exact hi)⟩
     obtain⟨g2,o2,rfl,hg2,hrd⟩:=HHp.out.reads (fun h=>by rw[h] at hq;simp at hq)
     have hgr2:g2<wr.heap.size:=Nat.lt_of_lt_of_le hg2 hbr.size
     have y0:=(hbr.cell (p:=⟨g,o,none⟩) hg).trans y00
     have y1:=(hbr.cell (p:=⟨g2,o2+i*2,none⟩) hg2).trans (hrd.fst i q hq)
     have y2:=(hbr.cell (p:=⟨g2,o2+i*2+1,none⟩) hg2).trans (hrd.snd i q hq)
     have HXr:=hide (HX2.out.below HX2.out.lt hbr)
     have hcall:=HC.out q (List.mem_of_getElem? hq)
     have htk:p.take (i+1)=p.take i++[q]:=by rw[List.take_add_one,hq];rfl
     obtain⟨bq,hbq⟩:∃b,Tr (HasE L q.1 q.2)=b:=⟨_,rfl⟩
     rw[hbq] at hcall
     cases bq with
     | true=>
      have hnext:Hid (∀x∈p.take (i+1),HasE L x.1 x.2):=hide (by
       rw[htk]
       intro x hx
       rcases List.mem_append.1 hx with h | h
       ·exact hpre.out x h
       ·obtain rfl:=List.mem_singleton.1 h
        exact Tr_iff.1 hbq)
      generalize txt q.1=S1 at *
      generalize txt q.2=S2 at *
      clear hrd hq hbq htk hpre HR HC
      go_wp2_with fail
      refine grow_begin (by kernel_rfl) ?_
      have hdr:Below wr.heap.size wr wr.drew:=(Below.refl _ _).drew
      have gd:g<wr.drew.heap.size:=hgr
      have gd2:g2<wr.drew.heap.size:=hgr2
      obtain⟨x5,x0,x1⟩:=HXr.out.grow hdr
      have z0:=(hdr.cell (p:=⟨g,o,none⟩) hgr).trans y0
      have z1:=(hdr.cell (p:=⟨g2,o2+i*2,none⟩) hgr2).trans y1
      have z2:=(hdr.cell (p:=⟨g2,o2+i*2+1,none⟩) hgr2).trans y2
      have HBd:=hide (hbr.trans (hdr.mono hbr.size))
      have HTd:=hide ((HT2.out.below hbr).below hdr)
      have HAd:=hide ((((HA2.out.below hbr).upto hbr.size).below hdr).upto hdr.size)
      have HLd:=hide ((HL2.out.grow hbr).grow hdr)
      clear hdr y0 y1 y2
      generalize wr.drew=wd at *
      refine grow_take 0 (some 26) (v:=?vn0) rfl rfl (by kernel_rfl) (by kernel_rfl) (by kernel_rfl) (fun _ _ _ h=>h) (by rfl) (fun W hW=>?yn0) ?_
      case yn0=>
       have h0:=(hW.cell (p:=⟨w.heap.size,0,none⟩) x5).trans x0
       have h1:=(hW.cell (p:=⟨w.heap.size,1,none⟩) x5).trans x1
       go_simp<;>with_reducible rfl
      simp only[Act.put,List.setIfInBounds_toArray,List.set_cons_zero,List.set_cons_succ]
      refine grow_take 1 (some 27) (v:=?vn1) rfl rfl (by kernel_rfl) (by kernel_rfl) (by kernel_rfl) (fun _ _ _ h=>h) (by rfl) (fun W hW=>?yn1) ?_
      case yn1=>
       go_simp<;>with_reducible rfl
      simp only[Act.put,List.setIfInBounds_toArray,List.set_cons_zero,List.set_cons_succ]
      refine grow_take 2 (some 28) (v:=?vn2) rfl rfl (by kernel_rfl) (by kernel_rfl) (by kernel_rfl) (fun _ _ _ h=>h) (by rfl) (fun W hW=>?yn2) ?_
      case yn2=>
       go_simp<;>with_reducible rfl
      simp only[Act.put,List.setIfInBounds_toArray,List.set_cons_zero,List.set_cons_succ]
      refine grow_take 3 (some 29) (v:=?vn3) rfl rfl (by kernel_rfl) (by kernel_rfl) (by kernel_rfl) (fun _ _ _ h=>h) (by rfl) (fun W hW=>?yn3) ?_
      case yn3=>
       have h0:=(hW.cell (p:=⟨g,o,none⟩) gd).trans z0
       go_simp<;>with_reducible rfl
      simp only[Act.put,List.setIfInBounds_toArray,List.set_cons_zero,List.set_cons_succ]
      refine grow_take 4 (some 30) (v:=?vn4) rfl rfl (by kernel_rfl) (by kernel_rfl) (by kernel_rfl) (fun _ _ _ h=>h) (by rfl) (fun W hW=>?yn4) ?_
      case yn4=>
       go_simp<;>with_reducible rfl
      simp only[Act.put,List.setIfInBounds_toArray,List.set_cons_zero,List.set_cons_succ]
      refine grow_take 5 (some 31) (v:=?vn5) rfl rfl (by kernel_rfl) (by kernel_rfl) (by kernel_rfl) (fun _ _ _ h=>h) (by rfl) (fun W hW=>?yn5) ?_
      case yn5=>
       go_simp<;>with_reducible rfl
      simp only[Act.put,List.setIfInBounds_toArray,List.set_cons_zero,List.set_cons_succ]
      refine grow_take 6 (some 32) (v:=?vn6) rfl rfl (by kernel_rfl) (by kernel_rfl) (by kernel_rfl) (fun _ _ _ h=>h) (by rfl) (fun W hW=>?yn6) ?_
      case yn6=>
       go_simp<;>with_reducible rfl
      simp only[Act.put,List.setIfInBounds_toArray,List.set_cons_zero,List.set_cons_succ]
      refine grow_take 7 (some 33) (v:=?vn7) rfl rfl (by kernel_rfl) (by kernel_rfl) (by kernel_rfl) (fun _ _ _ h=>h) (by rfl) (fun W hW=>?yn7) ?_
      case yn7=>
       have h0:=(hW.cell (p:=⟨g2,o2+i*2,none⟩) gd2).trans z1
       go_simp<;>with_reducible rfl
      simp only[Act.put,List.setIfInBounds_toArray,List.set_cons_zero,List.set_cons_succ]
      refine grow_take 8 (some 34) (v:=?vn8) rfl rfl (by kernel_rfl) (by kernel_rfl) (by kernel_rfl) (fun _ _ _ h=>h) (by rfl) (fun W hW=>?yn8) ?_
      case yn8=>
       go_simp<;>with_reducible rfl
      simp only[Act.put,List.setIfInBounds_toArray,List.set_cons_zero,List.set_cons_succ]
      refine grow_take 9 (some 35) (v:=?vn9) rfl rfl (by kernel_rfl) (by kernel_rfl) (by kernel_rfl) (fun _ _ _ h=>h) (by rfl) (fun W hW=>?yn9) ?_
      case yn9=>
       go_simp<;>with_reducible rfl
      simp only[Act.put,List.setIfInBounds_toArray,List.set_cons_zero,List.set_cons_succ]
      refine grow_take 10 (some 36) (v:=?vn10) rfl rfl (by kernel_rfl) (by kernel_rfl) (by kernel_rfl) (fun _ _ _ h=>h) (by rfl) (fun W hW=>?yn10) ?_
      case yn10=>
       have h0:=(hW.cell (p:=⟨g,o,none⟩) gd).trans z0
       go_simp<;>with_reducible rfl
      simp only[Act.put,List.setIfInBounds_toArray,List.set_cons_zero,List.set_cons_succ]
      refine grow_take 11 (some 37) (v:=?vn11) rfl rfl (by kernel_rfl) (by kernel_rfl) (by kernel_rfl) (fun _ _ _ h=>h) (by rfl) (fun W hW=>?yn11) ?_
      case yn11=>
       go_simp<;>with_reducible rfl
      simp only[Act.put,List.setIfInBounds_toArray,List.set_cons_zero,List.set_cons_succ]
      refine grow_take 12 (some 38) (v:=?vn12) rfl rfl (by kernel_rfl) (by kernel_rfl) (by kernel_rfl) (fun _ _ _ h=>h) (by rfl) (fun W hW=>?yn12) ?_
      case yn12=>
       go_simp<;>with_reducible rfl
      simp only[Act.put,List.setIfInBounds_toArray,List.set_cons_zero,List.set_cons_succ]
      refine grow_take 13 (some 39) (v:=?vn13) rfl rfl (by kernel_rfl) (by kernel_rfl) (by kernel_rfl) (fun _ _ _ h=>h) (by rfl) (fun W hW=>?yn13) ?_
      case yn13=>
       go_simp<;>with_reducible rfl
      simp only[Act.put,List.setIfInBounds_toArray,List.set_cons_zero,List.set_cons_succ]
      refine grow_take 14 (some 40) (v:=?vn14) rfl rfl (by kernel_rfl) (by kernel_rfl) (by kernel_rfl) (fun _ _ _ h=>h) (by rfl) (fun W hW=>?yn14) ?_
      case yn14=>
       have h0:=(hW.cell (p:=⟨g2,o2+i*2+1,none⟩) gd2).trans z2
       go_simp<;>with_reducible rfl
      simp only[Act.put,List.setIfInBounds_toArray,List.set_cons_zero,List.set_cons_succ]
      refine grow_only 15 rfl (by kernel_rfl) (fun K hK=>?_)
      go_simp
      refine (hcall _ HAd.out HLd.out HTd.out).mono ?_
      rintro e w5 ⟨rfl,hb5⟩
      refine hK.out _ _ hb5 ?_
      have HB5:=hide (HBd.out.trans (hb5.mono HBd.out.size))
      clear hK K hb5 HBd HTd HAd HLd hcall
      try simp only[Act.put,List.setIfInBounds_toArray,List.set_cons_zero,List.set_cons_succ]
      refine grow_take 16 (some 42) (v:=?vn16) rfl rfl (by kernel_rfl) (by kernel_rfl) (by kernel_rfl) (fun _ _ _ h=>h) (by rfl) (fun W hW=>?yn16) ?_
      case yn16=>
       go_simp<;>with_reducible rfl
      simp only[Act.put,List.setIfInBounds_toArray,List.set_cons_zero,List.set_cons_succ]
      refine grow_done (by kernel_rfl) ?_ _
      go_wp2
      go_roundg r
      case measure=>omega
      case rel=>exact⟨i+1,by omega,by go_num,hnext,HB5.out⟩
     | false=>
      have hR1:Hid (R=false):=hide (by
       cases hR:R with
       | false=>rfl
       | true=>
        have:=HR.out.2 hR q (List.mem_of_getElem? hq)
        rw[Tr_yes this] at hbq
        cases hbq)
      generalize txt q.1=S1 at *
      generalize txt q.2=S2 at *
      clear hrd hq hbq htk hpre HR HC
      go_wp2_with fail
      refine grow_begin (by kernel_rfl) ?_
      have hdr:Below wr.heap.size wr wr.drew:=(Below.refl _ _).drew
      have gd:g<wr.drew.heap.size:=hgr
      have gd2:g2<wr.drew.heap.size:=hgr2
      obtain⟨x5,x0,x1⟩:=HXr.out.grow hdr
      have z0:=(hdr.cell (p:=⟨g,o,none⟩) hgr).trans y0
      have z1:=(hdr.cell (p:=⟨g2,o2+i*2,none⟩) hgr2).trans y1
      have z2:=(hdr.cell (p:=⟨g2,o2+i*2+1,none⟩) hgr2).trans y2
      have HBd:=hide (hbr.trans (hdr.mono hbr.size))
      have HTd:=hide ((HT2.out.below hbr).below hdr)
      have HAd:=hide ((((HA2.out.below hbr).upto hbr.size).below hdr).upto hdr.size)
      have HLd:=hide ((HL2.out.grow hbr).grow hdr)
      clear hdr y0 y1 y2
      generalize wr.drew=wd at *
      refine grow_take 0 (some 26) (v:=?vm0) rfl rfl (by kernel_rfl) (by kernel_rfl) (by kernel_rfl) (fun _ _ _ h=>h) (by rfl) (fun W hW=>?ym0) ?_
      case ym0=>
       have h0:=(hW.cell (p:=⟨w.heap.size,0,none⟩) x5).trans x0
       have h1:=(hW.cell (p:=⟨w.heap.size,1,none⟩) x5).trans x1
       go_simp<;>with_reducible rfl
      simp only[Act.put,List.setIfInBounds_toArray,List.set_cons_zero,List.set_cons_succ]
      refine grow_take 1 (some 27) (v:=?vm1) rfl rfl (by kernel_rfl) (by kernel_rfl) (by kernel_rfl) (fun _ _ _ h=>h) (by rfl) (fun W hW=>?ym1) ?_
      case ym1=>
       go_simp<;>with_reducible rfl
      simp only[Act.put,List.setIfInBounds_toArray,List.set_cons_zero,List.set_cons_succ]
      refine grow_take 2 (some 28) (v:=?vm2) rfl rfl (by kernel_rfl) (by kernel_rfl) (by kernel_rfl) (fun _ _ _ h=>h) (by rfl) (fun W hW=>?ym2) ?_
      case ym2=>
       go_simp<;>with_reducible rfl
      simp only[Act.put,List.setIfInBounds_toArray,List.set_cons_zero,List.set_cons_succ]
      refine grow_take 3 (some 29) (v:=?vm3) rfl rfl (by kernel_rfl) (by kernel_rfl) (by kernel_rfl) (fun _ _ _ h=>h) (by rfl) (fun W hW=>?ym3) ?_
      case ym3=>
       have h0:=(hW.cell (p:=⟨g,o,none⟩) gd).trans z0
       go_simp<;>with_reducible rfl
      simp only[Act.put,List.setIfInBounds_toArray,List.set_cons_zero,List.set_cons_succ]
      refine grow_take 4 (some 30) (v:=?vm4) rfl rfl (by kernel_rfl) (by kernel_rfl) (by kernel_rfl) (fun _ _ _ h=>h) (by rfl) (fun W hW=>?ym4) ?_
      case ym4=>
       go_simp<;>with_reducible rfl
      simp only[Act.put,List.setIfInBounds_toArray,List.set_cons_zero,List.set_cons_succ]
      refine grow_take 5 (some 31) (v:=?vm5) rfl rfl (by kernel_rfl) (by kernel_rfl) (by kernel_rfl) (fun _ _ _ h=>h) (by rfl) (fun W hW=>?ym5) ?_
      case ym5=>
       go_simp<;>with_reducible rfl
      simp only[Act.put,List.setIfInBounds_toArray,List.set_cons_zero,List.set_cons_succ]
      refine grow_take 6 (some 32) (v:=?vm6) rfl rfl (by kernel_rfl) (by kernel_rfl) (by kernel_rfl) (fun _ _ _ h=>h) (by rfl) (fun W hW=>?ym6) ?_
      case ym6=>
       go_simp<;>with_reducible rfl
      simp only[Act.put,List.setIfInBounds_toArray,List.set_cons_zero,List.set_cons_succ]
      refine grow_take 7 (some 33) (v:=?vm7) rfl rfl (by kernel_rfl) (by kernel_rfl) (by kernel_rfl) (fun _ _ _ h=>h) (by rfl) (fun W hW=>?ym7) ?_
      case ym7=>
       have h0:=(hW.cell (p:=⟨g2,o2+i*2,none⟩) gd2).trans z1
       go_simp<;>with_reducible rfl
      simp only[Act.put,List.setIfInBounds_toArray,List.set_cons_zero,List.set_cons_succ]
      refine grow_take 8 (some 34) (v:=?vm8) rfl rfl (by kernel_rfl) (by kernel_rfl) (by kernel_rfl) (fun _ _ _ h=>h) (by rfl) (fun W hW=>?ym8) ?_
      case ym8=>
       go_simp<;>with_reducible rfl
      simp only[Act.put,List.setIfInBounds_toArray,List.set_cons_zero,List.set_cons_succ]
      refine grow_take 9 (some 35) (v:=?vm9) rfl rfl (by kernel_rfl) (by kernel_rfl) (by kernel_rfl) (fun _ _ _ h=>h) (by rfl) (fun W hW=>?ym9) ?_
      case ym9=>
       go_simp<;>with_reducible rfl
      simp only[Act.put,List.setIfInBounds_toArray,List.set_cons_zero,List.set_cons_succ]
      refine grow_take 10 (some 36) (v:=?vm10) rfl rfl (by kernel_rfl) (by kernel_rfl) (by kernel_rfl) (fun _ _ _ h=>h) (by rfl) (fun W hW=>?ym10) ?_
      case ym10=>
       have h0:=(hW.cell (p:=⟨g,o,none⟩) gd).trans z0
       go_simp<;>with_reducible rfl
      simp only[Act.put,List.setIfInBounds_toArray,List.set_cons_zero,List.set_cons_succ]
      refine grow_take 11 (some 37) (v:=?vm11) rfl rfl (by kernel_rfl) (by kernel_rfl) (by kernel_rfl) (fun _ _ _ h=>h) (by rfl) (fun W hW=>?ym11) ?_
      case ym11=>
       go_simp<;>with_reducible rfl
      simp only[Act.put,List.setIfInBounds_toArray,List.set_cons_zero,List.set_cons_succ]
      refine grow_take 12 (some 38) (v:=?vm12) rfl rfl (by kernel_rfl) (by kernel_rfl) (by kernel_rfl) (fun _ _ _ h=>h) (by rfl) (fun W hW=>?ym12) ?_
      case ym12=>
       go_simp<;>with_reducible rfl
      simp only[Act.put,List.setIfInBounds_toArray,List.set_cons_zero,List.set_cons_succ]
      refine grow_take 13 (some 39) (v:=?vm13) rfl rfl (by kernel_rfl) (by kernel_rfl) (by kernel_rfl) (fun _ _ _ h=>h) (by rfl) (fun W hW=>?ym13) ?_
      case ym13=>
       go_simp<;>with_reducible rfl
      simp only[Act.put,List.setIfInBounds_toArray,List.set_cons_zero,List.set_cons_succ]
      refine grow_take 14 (some 40) (v:=?vm14) rfl rfl (by kernel_rfl) (by kernel_rfl) (by kernel_rfl) (fun _ _ _ h=>h) (by rfl) (fun W hW=>?ym14) ?_
      case ym14=>
       have h0:=(hW.cell (p:=⟨g2,o2+i*2+1,none⟩) gd2).trans z2
       go_simp<;>with_reducible rfl
      simp only[Act.put,List.setIfInBounds_toArray,List.set_cons_zero,List.set_cons_succ]
      refine grow_only 15 rfl (by kernel_rfl) (fun K hK=>?_)
      go_simp
      refine (hcall _ HAd.out HLd.out HTd.out).mono ?_
      rintro e w5 ⟨rfl,hb5⟩
      refine hK.out _ _ hb5 ?_
      have HB5:=hide (HBd.out.trans (hb5.mono HBd.out.size))
      clear hK K hb5 HBd HTd HAd HLd hcall
      try simp only[Act.put,List.setIfInBounds_toArray,List.set_cons_zero,List.set_cons_succ]
      refine grow_take 16 (some 42) (v:=?vm16) rfl rfl (by kernel_rfl) (by kernel_rfl) (by kernel_rfl) (fun _ _ _ h=>h) (by rfl) (fun W hW=>?ym16) ?_
      case ym16=>
       go_simp<;>with_reducible rfl
      simp only[Act.put,List.setIfInBounds_toArray,List.set_cons_zero,List.set_cons_succ]
      refine grow_done (by kernel_rfl) ?_ _
      have HE:=hide (HB2.out.trans (HB5.out.mono HB2.out.size))
      clear HB2
      go_wp2
      go_ret
      exact⟨by rw[hR1.out];rfl,HE.out⟩
end Go.Proofs.YtjjepcnijmlliaaGreatDoor
namespace Go.Proofs.YtjjepcnijmlliaaGreatDoor
open Go.RowKit
set_option linter.unusedVariables false
set_option linter.unusedSimpArgs false
def HeadOk (L:List EA) (i:Nat) (a:EA):Prop:=(typ a.1).1≠[]∧(typ a.1).1=a.1∧(∀b,0<i→L[i-1]?=some b→b.1<a.1)∧1≤a.2.length∧a.2.length≤20∧AloneV a.1 a.2
theorem ok_at {L:List EA} {i:Nat} {a:EA} (ha:L[i]?=some a):OkAt L i↔HeadOk L i a∧∀v∈a.2,(valV a.1 v).2=0:=by
 constructor
 ·intro h
  obtain⟨h1,h2⟩:=h a ha
  exact⟨⟨by rw[h1.name];exact h1.ne,h1.name,h2,h1.lo,h1.hi,h1.alone⟩,h1.ok⟩
 ·rintro ⟨⟨h1,h2,h3,h4,h5,h6⟩,h7⟩ b hb
  rw[ha] at hb
  obtain rfl:=Option.some.inj hb
  exact⟨⟨by rw[←h2];exact h1,h2,h4,h5,h7,h6⟩,h3⟩
theorem rloose_any (nm:List UInt8) (L:List EA) (w:World) (A:Option Addr) (n c:Nat) (xs:List Value) (hA:Has w w.heap.size 2 A n xs) (hL:EAs w w.heap.size xs L) (hn:n≤1000000)
  (hnm:nm.length≤1000000) (hvs:∀a∈L,a.1.length≤281474976710656∧a.2.length≤1000000∧∀u∈a.2,u.length≤1000000) (hT:TM w):
  Calls Tryz.prog 44 #[.agg #[.string (txt nm),.slice A n c]] w fun e w'=>e=.returned (.bool (Tr (LooseE nm L)))∧Below w.heap.size w w':=by
 have hnl:=hA.eas_n hL
 have hb1:=below1 w (.cells #[.string (txt nm),.slice A n c] 33)
 have hX:=BoxE.new w (txt nm) A n c 33
 have hN:=fun w hT=>rnormal_text nm hnm w hT
 have HA:=hide ((hA.below hb1).upto hb1.size)
 have HL:=hide (hL.grow hb1)
 have HT:=hide (hT.below hb1)
 have HB:=hide hb1
 have HX:=hide hX
 have x0:=hX.c0
 by_cases h0:(normT nm).2=0
 ·rw [h0] at hN
  by_cases h1:(normT nm).1=nm
  ·have q1:((txt (normT nm).1).toList !=(txt nm).toList)=false:=by rw[h1];simp
   have q1':((txt (normT nm).1).toList==(txt nm).toList)=true:=by rw[h1];simp
   by_cases h2:nm=[]
   ·rw [Tr_no (show ¬LooseE nm L from fun h=>h.ne h2)]
    have q2:((txt (normT nm).1).toList==[])=true:=by rw[h1,toeq,h2];rfl
    have HN:=hide hN
    generalize txt (normT nm).1=NN at *
    generalize txt nm=SN at *
    clear hN h0 h1 h2 hb1 hX hA hL hT hnm hvs HA HL hnl
    go_enter Tryz.func44,Tryz.ntmps44
    go_wp2_with (go_at_call 23;fail)
    refine (HN.out _ HT.out).mono ?_
    rintro e w2 ⟨rfl,hb2⟩
    have HB2:=hide (HB.out.trans (hb2.mono HB.out.size))
    have y0:=(HX.out.grow hb2).c0
    clear hb2 HB HT HN x0 HX
    go_wp2
    go_ret
    exact⟨rfl,HB2.out⟩
   have q2:((txt (normT nm).1).toList==[])=false:=by rw[h1,toeq];simpa using h2
   by_cases h14:n≤14
   ·have z14:¬((14:Int)<(n:Int)):=by omega
    obtain⟨R,hR⟩:∃R,Tr (LooseE nm L)=R:=⟨_,rfl⟩
    rw[hR]
    have HR:Hid ((∀i,i<n→OkAt L i)↔R=true):=hide (by
     rw[←hR,Tr_iff,hnl]
     constructor
     ·intro h
      exact⟨Prod.ext h1 h0,h2,formed_at.2 ⟨by omega,h⟩⟩
     ·intro h
      exact (formed_at.1 h.attrs).2)
    have HN:=hide hN
    have HVs:=hide hvs
    have HNl:=hide hnl
    generalize txt (normT nm).1=NN at *
    generalize txt nm=SN at *
    clear hN h0 h1 h2 hb1 hX hA hL hT hnm hvs hR hnl
    go_enter Tryz.func44,Tryz.ntmps44
    go_wp2_with (go_at_call 23;fail)
    refine (HN.out _ HT.out).mono ?_
    rintro e w2 ⟨rfl,hb2⟩
    have HB2:=hide (HB.out.trans (hb2.mono HB.out.size))
    have HX2:=hide (HX.out.grow hb2)
    have HT2:=hide (HT.out.below hb2)
    have HA2:=hide ((HA.out.below hb2).upto hb2.size)
    have HL2:=hide (HL.out.grow hb2)
    have y0:=HX2.out.c0
    have y1:=HX2.out.c1
    clear hb2 HB HT HN x0 HX HA HL
    go_wp2
    go_loopg [39] n (fun r s39 wx=>∃i:Nat,i+r=n∧s39=.int .i64 (i:Int)∧Hid (∀j,j<i→OkAt L j)∧Hid (Below w2.heap.size w2 wx))
    case atStart=>exact⟨0,by omega,rfl,hide fun j hj=>by omega,hide (Below.refl _ _)⟩
    case round=>
     obtain⟨i,hig,rfl,hpre,hbr⟩:=hrel
     clear y0 y1
     cases gk with
     | zero=>
      obtain rfl:n=i:=by omega
      have hiz:¬((n:Int)<(n:Int)):=by omega
      have hR1:Hid (R=true):=hide (HR.out.1 hpre.out)
      have HE:=hide (HB2.out.trans (hbr.out.mono HB2.out.size))
      clear hpre HA2 HL2 HT2 HX2 HR HVs HNl hbr
      go_wp2
      go_ret
      exact⟨by rw[hR1.out];rfl,HE.out⟩
     | succ r=>
      have hi:i<n:=by omega
      have hiz:(i:Int)<(n:Int):=by omega
      obtain⟨a,ha⟩:∃a,L[i]?=some a:=⟨_,List.getElem?_eq_getElem (by rw[←HNl.out];exact hi)⟩
      obtain⟨g,o,hAe,hg,hat⟩:=HA2.out.ea HL2.out (fun h=>by rw[h] at ha;simp at ha)
      subst hAe
      obtain⟨V,cv,hai⟩:=hat i a ha
      have hai:=hai.below hg hbr.out
      have e0:=hai.e0
      have e1:=hai.e1
      have y1:=(HX2.out.below HX2.out.lt hbr.out).c1
      have hvi:=HVs.out a (List.mem_of_getElem? ha)
      have hTy:=fun w=>rtype_any (txt a.1) (by rw[txt_size];omega) w
      simp only[txt_toList] at hTy
      have HTy:=hide hTy
      obtain⟨k,hk⟩:∃k,a.2.length=k:=⟨_,rfl⟩
      rw[hk] at e1
      have hkk:k≤1000000:=by rw[←hk];exact hvi.2.1
      have hba:=below1 wr (.cells #[.string (txt a.1),.slice V k cv] 42)
      have hXa:=BoxE.new wr (txt a.1) V k cv 42
      have hV1:=(hai.has.upto hbr.out.size).below hba
      have hV1:=hV1.upto hba.size
      rw[hk] at hV1
      have HBa:=hide (hbr.out.trans (hba.mono hbr.out.size))
      have HXa:=hide hXa
      have HV1:=hide hV1
      have u0:=hXa.c0
      have hcap:=hai.cap
      have hmost:=hai.most
      rw[hk] at hcap
      have HAl:=hide (fun (ht:(typ a.1).1=a.1) w hA hT=>ralone_any a.1 a.2 w V k cv hA hkk hcap hmost (typ_short ht) hvi.2.2 hT)
      have HVal:=hide (fun (ht:(typ a.1).1=a.1) u (hu:u∈a.2) w hT=>rvalue_big a.1 u (typ_short ht) (hvi.2.2 u hu) w hT)
      have hdec:=ok_at ha
      obtain⟨bad,hbad⟩:∃b,Tr (¬HeadOk L i a)=b:=⟨_,rfl⟩
      have Hbad:=hide hbad
      have Hdec:=hide hdec
      have Hha:=hide ha
      have Hk:=hide hk
      have Hhat:=hide hat
      have Hpr:=hide hpre.out
      have hbw:=hide hbr.out
      clear hTy hai hba hXa hV1 hdec hbad ha hat hvi hpre hbr hcap hmost hk
      generalize hTAe:txt a.1=TA at *
      have HTA:=hide hTAe
      clear hTAe
      go_wp2_with (go_at_call 72;fail)
      refine (HTy.out _).mono ?_
      rintro e w3 ⟨rfl,hb3⟩
      have HXa3:=hide (HXa.out.grow hb3)
      have HB3:=hide (HBa.out.trans (hb3.mono HBa.out.size))
      have HV3:=hide ((HV1.out.below hb3).upto hb3.size)
      have HT3:=hide (HT2.out.below HB3.out)
      have Hlt:Hid (wr.heap.size<w3.heap.size):=hide HXa3.out.lt
      clear hb3 HXa HBa HV1 HTy u0 e0 e1 y1
      obtain⟨p,hp⟩:∃p,wr.heap.size=p:=⟨_,rfl⟩
      rw[hp] at HXa3 Hlt ⊢
      clear hp
      go_upto_region 9 with fail
      generalize hTNe:txt (typ a.1).1=TN at *
      have HTN:=hide hTNe
      clear hTNe
      go_cut [94] from 53 to 93 (fun s94 wx=>s94=.bool bad∧Hid (Below w3.heap.size w3 wx))
      case first=>
       have v0:=HXa3.out.c0
       have v1:=HXa3.out.c1
       have y1:=(HX2.out.below HX2.out.lt HB3.out).c1
       have hbd:=Hbad.out
       by_cases t0:(typ a.1).1=[]
       ·have s0:(TN.toList==[])=true:=by rw[←HTN.out,t0,toeq];rfl
        obtain rfl:bad=true:=by rw[←hbd];exact Tr_yes fun h=>h.1 t0
        clear Hbad Hdec Hha Hk Hhat Hpr HAl HVal HR HVs HNl hbd t0
        go_wp2_with fail
        go_meet
        case rel=>exact⟨rfl,hide (Below.refl _ _)⟩
       have s0:(TN.toList==[])=false:=by rw[←HTN.out,toeq];simpa using t0
       by_cases t1:(typ a.1).1=a.1
       ·have hTN:TN=TA:=by rw[←HTN.out,t1];exact HTA.out
        have s1:(TN.toList==TA.toList)=true:=by rw[hTN];simp
        have s1':(TN.toList !=TA.toList)=false:=by rw[hTN];simp
        have Hna:=hide hTN
        clear hTN
        by_cases ti:i=0
        ·subst ti
         by_cases t3:1≤k
         ·have z3:¬(k:Int)<1:=by omega
          by_cases t4:k≤20
          ·have z4:¬(20:Int)<(k:Int):=by omega
           by_cases t5:AloneV a.1 a.2
           ·obtain rfl:bad=false:=by rw[←hbd];exact Tr_no fun h=>h ⟨t0,t1,fun b h0=>absurd h0 (by omega),by rw[Hk.out];exact t3,by rw[Hk.out];exact t4,t5⟩
            have hal:=HAl.out t1
            rw[Tr_yes t5] at hal
            rw[←Hna.out] at hal
            have Hal:=hide hal
            clear Hbad Hdec Hha Hk Hhat Hpr HAl HVal HR HVs HNl hbd hal t0 t1 t5
            go_wp2_with (go_at_call 73;fail)
            refine (Hal.out _ HV3.out HT3.out).mono ?_
            rintro e w4 ⟨rfl,hb4⟩
            have HB4:=hide hb4
            clear hb4
            go_wp2_with fail
            go_meet
            case rel=>exact⟨rfl,HB4⟩
           ·obtain rfl:bad=true:=by rw[←hbd];exact Tr_yes fun h=>t5 h.2.2.2.2.2
            have hal:=HAl.out t1
            rw[Tr_no t5] at hal
            rw[←Hna.out] at hal
            have Hal:=hide hal
            clear Hbad Hdec Hha Hk Hhat Hpr HAl HVal HR HVs HNl hbd hal t0 t1 t5
            go_wp2_with (go_at_call 73;fail)
            refine (Hal.out _ HV3.out HT3.out).mono ?_
            rintro e w4 ⟨rfl,hb4⟩
            have HB4:=hide hb4
            clear hb4
            go_wp2_with fail
            go_meet
            case rel=>exact⟨rfl,HB4⟩
          ·have z4:(20:Int)<(k:Int):=by omega
           obtain rfl:bad=true:=by rw[←hbd];exact Tr_yes fun h=>t4 (by rw[←Hk.out];exact h.2.2.2.2.1)
           clear Hbad Hdec Hha Hk Hhat Hpr HAl HVal HR HVs HNl hbd t0 t1
           go_wp2_with fail
           go_meet
           case rel=>exact⟨rfl,hide (Below.refl _ _)⟩
         ·have z3:(k:Int)<1:=by omega
          obtain rfl:bad=true:=by rw[←hbd];exact Tr_yes fun h=>t3 (by rw[←Hk.out];exact h.2.2.2.1)
          clear Hbad Hdec Hha Hk Hhat Hpr HAl HVal HR HVs HNl hbd t0 t1
          go_wp2_with fail
          go_meet
          case rel=>exact⟨rfl,hide (Below.refl _ _)⟩
        ·obtain ⟨j,rfl⟩:∃j,i=j+1:=⟨i-1,by omega⟩
         obtain⟨b,hb⟩:∃b,L[j]?=some b:=⟨_,List.getElem?_eq_getElem (by rw[←HNl.out];omega)⟩
         obtain⟨Vb,cb,hbt⟩:=Hhat.out j b hb
         have d1:=(HB3.out.cell (p:=⟨g,o+j*2,none⟩) hg).trans hbt.e0
         clear hbt
         have hjn:(j:Int)<(n:Int):=by omega
         have hj0:(0:Int)<(j:Int)+1:=by omega
         by_cases hlt:b.1<a.1
         ·have hbl:Op.bytesLess (txt b.1).toList TN.toList=true:=by rw[Hna.out,←HTA.out,txt_bytes,txt_bytes];exact less_yes hlt
          have hrise:∀b',0<j+1→L[j+1-1]?=some b'→b'.1<a.1:=fun b' _ hb'=>by
           rw[Nat.add_sub_cancel,hb] at hb'
           obtain rfl:=Option.some.inj hb'
           exact hlt
          generalize txt b.1=TB at *
          by_cases t3:1≤k
          ·have z3:¬(k:Int)<1:=by omega
           by_cases t4:k≤20
           ·have z4:¬(20:Int)<(k:Int):=by omega
            by_cases t5:AloneV a.1 a.2
            ·obtain rfl:bad=false:=by rw[←hbd];exact Tr_no fun h=>h ⟨t0,t1,hrise,by rw[Hk.out];exact t3,by rw[Hk.out];exact t4,t5⟩
             have hal:=HAl.out t1
             rw[Tr_yes t5] at hal
             rw[←Hna.out] at hal
             have Hal:=hide hal
             clear Hbad Hdec Hha Hk Hhat Hpr HAl HVal HR HVs HNl hbd hal t0 t1 t5 hrise hlt hb
             go_wp2_with (go_at_call 73;fail)
             refine (Hal.out _ HV3.out HT3.out).mono ?_
             rintro e w4 ⟨rfl,hb4⟩
             have HB4:=hide hb4
             clear hb4
             go_wp2_with fail
             go_meet
             case rel=>exact⟨rfl,HB4⟩
            ·obtain rfl:bad=true:=by rw[←hbd];exact Tr_yes fun h=>t5 h.2.2.2.2.2
             have hal:=HAl.out t1
             rw[Tr_no t5] at hal
             rw[←Hna.out] at hal
             have Hal:=hide hal
             clear Hbad Hdec Hha Hk Hhat Hpr HAl HVal HR HVs HNl hbd hal t0 t1 t5 hrise hlt hb
             go_wp2_with (go_at_call 73;fail)
             refine (Hal.out _ HV3.out HT3.out).mono ?_
             rintro e w4 ⟨rfl,hb4⟩
             have HB4:=hide hb4
             clear hb4
             go_wp2_with fail
             go_meet
             case rel=>exact⟨rfl,HB4⟩
           ·have z4:(20:Int)<(k:Int):=by omega
            obtain rfl:bad=true:=by rw[←hbd];exact Tr_yes fun h=>t4 (by rw[←Hk.out];exact h.2.2.2.2.1)
            clear Hbad Hdec Hha Hk Hhat Hpr HAl HVal HR HVs HNl hbd t0 t1 hrise hlt hb
            go_wp2_with fail
            go_meet
            case rel=>exact⟨rfl,hide (Below.refl _ _)⟩
          ·have z3:(k:Int)<1:=by omega
           obtain rfl:bad=true:=by rw[←hbd];exact Tr_yes fun h=>t3 (by rw[←Hk.out];exact h.2.2.2.1)
           clear Hbad Hdec Hha Hk Hhat Hpr HAl HVal HR HVs HNl hbd t0 t1 hrise hlt hb
           go_wp2_with fail
           go_meet
           case rel=>exact⟨rfl,hide (Below.refl _ _)⟩
         ·have hbl:Op.bytesLess (txt b.1).toList TN.toList=false:=by rw[Hna.out,←HTA.out,txt_bytes,txt_bytes];exact less_no hlt
          generalize txt b.1=TB at *
          obtain rfl:bad=true:=by rw[←hbd];exact Tr_yes fun h=>hlt (h.2.2.1 b (by omega) (by rw[Nat.add_sub_cancel];exact hb))
          clear Hbad Hdec Hha Hk Hhat Hpr HAl HVal HR HVs HNl hbd t0 t1 hlt hb
          go_wp2_with fail
          go_meet
          case rel=>exact⟨rfl,hide (Below.refl _ _)⟩
       ·have s1:(TN.toList==TA.toList)=false:=by rw[←HTN.out,←HTA.out];exact str_ne t1
        have s1':(TN.toList !=TA.toList)=true:=by unfold bne;rw[s1];rfl
        obtain rfl:bad=true:=by rw[←hbd];exact Tr_yes fun h=>t1 h.2.1
        clear Hbad Hdec Hha Hk Hhat Hpr HAl HVal HR HVs HNl hbd t0 t1
        go_wp2_with fail
        go_meet
        case rel=>exact⟨rfl,hide (Below.refl _ _)⟩
      case rest=>
       obtain⟨rfl,Hcw⟩:=hcut
       have HXc:=hide (HXa3.out.grow Hcw.out)
       have HBc:=hide (HB3.out.trans (Hcw.out.mono HB3.out.size))
       have HVc:=hide ((HV3.out.below Hcw.out).upto Hcw.out.size)
       have HTc:=hide (HT3.out.below Hcw.out)
       clear HXa3 HV3 HT3 HAl HB3 Hcw Hlt
       cases bad with
       | true=>
        have hh:=Tr_iff.1 Hbad.out
        have hR1:Hid (R=false):=hide (by
         cases hR:R with
         | false=>rfl
         | true=>exact absurd ((Hdec.out.1 (HR.out.2 hR i hi)).1) hh)
        have HE:=hide (HB2.out.trans (HBc.out.mono HB2.out.size))
        clear hh Hbad Hdec Hha Hk Hhat Hpr HVal HR HVs HNl HXc HVc HTc HBc HA2 HL2 HT2 HX2
        go_wp2
        go_ret
        exact⟨by rw[hR1.out];rfl,HE.out⟩
       | false=>
        have hh:HeadOk L i a:=Classical.byContradiction fun h=>by
         have:=Hbad.out
         rw[Tr_yes h] at this
         cases this
        have hTN:TN=TA:=by rw[←HTN.out,hh.2.1];exact HTA.out
        rw[hTN]
        have Hhd:=hide hh
        have v1:=HXc.out.c1
        clear hh hTN Hbad
        go_wp2
        go_loopg [98] k (fun r2 s98 wx=>∃j:Nat,j+r2=k∧s98=.int .i64 (j:Int)∧Hid (∀v∈a.2.take j,(valV a.1 v).2=0)∧Hid (Below wc.heap.size wc wx))
        case atStart=>exact⟨0,by omega,rfl,hide fun v hv=>(by simp at hv),hide (Below.refl _ _)⟩
        case round=>
         obtain⟨j,hjg,rfl,hpj,hbj⟩:=hrel
         have v2:=(HXc.out.below HXc.out.lt hbj.out).c1
         clear v1
         cases gk with
         | zero=>
          obtain rfl:k=j:=by omega
          have hjz:¬((k:Int)<(k:Int)):=by omega
          have hok:∀v∈a.2,(valV a.1 v).2=0:=by
           have:=hpj.out
           rwa [List.take_of_length_le (by rw[Hk.out];exact Nat.le_refl _)] at this
          have hnext:Hid (∀q,q<i+1→OkAt L q):=hide (by
           intro q hq
           rcases Nat.lt_or_ge q i with h | h
           ·exact Hpr.out q h
           ·obtain rfl:q=i:=by omega
            exact Hdec.out.2 ⟨Hhd.out,hok⟩)
          have HE:=hide (HBc.out.trans (hbj.out.mono HBc.out.size))
          clear hok hpj hbj Hhd Hdec Hha Hk Hhat Hpr HVal HXc HVc HTc HBc v2
          go_wp2
          go_roundg r
          case measure=>omega
          case rel=>exact⟨i+1,by omega,by go_num,hnext,HE⟩
         | succ r2=>
          have hj:j<k:=by omega
          have hjz:(j:Int)<(k:Int):=by omega
          obtain⟨v,hv⟩:∃v,a.2[j]?=some v:=⟨_,List.getElem?_eq_getElem (by rw[Hk.out];exact hj)⟩
          obtain⟨g3,o3,hVe,hg3,hat3⟩:=HVc.out.texts (fun h=>by rw[h] at hv;simp at hv)
          subst hVe
          have f0:=(hbj.out.cell (p:=⟨g3,o3+j,none⟩) hg3).trans (hat3 j v hv)
          have hcall:=HVal.out Hhd.out.2.1 v (List.mem_of_getElem? hv)
          obtain⟨y,hy⟩:∃y,(valV a.1 v).2=y:=⟨_,rfl⟩
          rw[hy] at hcall
          have Hcall:=hide hcall
          have HTj:=hide (HTc.out.below hbj.out)
          by_cases hy0:y=0
          ·subst hy0
           have hnj:Hid (∀u∈a.2.take (j+1),(valV a.1 u).2=0):=hide (by
            rw[List.take_add_one,hv]
            intro u hu
            rcases List.mem_append.1 hu with h | h
            ·exact hpj.out u h
            ·obtain rfl:u=v:=by simpa using h
             exact hy)
           generalize txt v=SV at *
           generalize txt (valV a.1 v).1=NV at *
           clear hat3 hv hy hpj hcall
           go_wp2_with (go_at_call 65;fail)
           refine (Hcall.out _ HTj.out).mono ?_
           rintro e w5 ⟨rfl,hb5⟩
           have hbn:=hide (hbj.out.trans (hb5.mono hbj.out.size))
           clear Hcall HTj hb5 hbj f0 v2
           go_wp2
           go_roundg r2
           case measure=>omega
           case rel=>exact⟨j+1,by omega,by go_num,hnj,hbn⟩
          ·have s3:(y==0)=false:=beq_false_of_ne hy0
           have s3':(y !=0)=true:=by unfold bne;rw[s3];rfl
           have hR1:Hid (R=false):=hide (by
            cases hR:R with
            | false=>rfl
            | true=>exact absurd (((Hdec.out.1 (HR.out.2 hR i hi)).2 v (List.mem_of_getElem? hv)).symm.trans hy).symm hy0)
           generalize txt v=SV at *
           generalize txt (valV a.1 v).1=NV at *
           clear hat3 hv hy hpj hcall hy0
           go_wp2_with (go_at_call 65;fail)
           refine (Hcall.out _ HTj.out).mono ?_
           rintro e w5 ⟨rfl,hb5⟩
           have HE:=hide (HB2.out.trans ((HBc.out.trans ((hbj.out.trans (hb5.mono hbj.out.size)).mono HBc.out.size)).mono HB2.out.size))
           clear Hcall HTj hb5 hbj f0 v2 HXc HVc HTc HBc Hhd Hdec Hha Hk Hhat Hpr HVal HR HVs HNl HA2 HL2 HT2 HX2
           go_wp2
           go_ret
           exact⟨by rw[hR1.out];rfl,HE.out⟩
   ·have z14:((14:Int)<(n:Int)):=by omega
    rw[Tr_no (show ¬LooseE nm L from fun h=>h14 (by rw[hnl];exact h.attrs.le))]
    have HN:=hide hN
    generalize txt (normT nm).1=NN at *
    generalize txt nm=SN at *
    clear hN hb1 hX hA hL hT hnm hvs HA HL hnl
    go_enter Tryz.func44,Tryz.ntmps44
    go_wp2_with (go_at_call 23;fail)
    refine (HN.out _ HT.out).mono ?_
    rintro e w2 ⟨rfl,hb2⟩
    have HB2:=hide (HB.out.trans (hb2.mono HB.out.size))
    have y0:=(HX.out.grow hb2).c0
    have y1:=(HX.out.grow hb2).c1
    clear hb2 HB HT HN x0 HX
    go_wp2
    go_ret
    exact⟨rfl,HB2.out⟩
  ·have q1:=str_ne h1
   have q1':((txt (normT nm).1).toList !=(txt nm).toList)=true:=by unfold bne;rw[q1];rfl
   rw[Tr_no (show ¬LooseE nm L from fun h=>h1 (by rw[h.norm]))]
   have HN:=hide hN
   generalize txt (normT nm).1=NN at *
   generalize txt nm=SN at *
   clear hN hb1 hX hA hL hT hnm hvs HA HL hnl
   go_enter Tryz.func44,Tryz.ntmps44
   go_wp2_with (go_at_call 23;fail)
   refine (HN.out _ HT.out).mono ?_
   rintro e w2 ⟨rfl,hb2⟩
   have HB2:=hide (HB.out.trans (hb2.mono HB.out.size))
   have y0:=(HX.out.grow hb2).c0
   have y1:=(HX.out.grow hb2).c1
   clear hb2 HB HT HN x0 HX
   go_wp2
   go_ret
   exact⟨rfl,HB2.out⟩
 ·have q0:((normT nm).2==0)=false:=beq_false_of_ne h0
  have q0':((normT nm).2 !=0)=true:=by unfold bne;rw[q0];rfl
  rw[Tr_no (show ¬LooseE nm L from fun h=>h0 (by rw[h.norm]))]
  have HN:=hide hN
  generalize txt (normT nm).1=NN at *
  generalize (normT nm).2=ye at *
  generalize txt nm=SN at *
  clear hN hb1 hX hA hL hT hnm hvs HA HL hnl
  go_enter Tryz.func44,Tryz.ntmps44
  go_wp2_with (go_at_call 23;fail)
  refine (HN.out _ HT.out).mono ?_
  rintro e w2 ⟨rfl,hb2⟩
  have HB2:=hide (HB.out.trans (hb2.mono HB.out.size))
  have y0:=(HX.out.grow hb2).c0
  have y1:=(HX.out.grow hb2).c1
  clear hb2 HB HT HN x0 HX
  go_wp2
  go_ret
  exact⟨rfl,HB2.out⟩
end Go.Proofs.YtjjepcnijmlliaaGreatDoor
namespace Go.Proofs.YtjjepcnijmlliaaGreatDoor
open Go.RowKit
set_option linter.unusedVariables false
set_option linter.unusedSimpArgs false
theorem rformedE_any (nm:List UInt8) (L:List EA) (w:World) (A:Option Addr) (n c:Nat) (xs:List Value) (hA:Has w w.heap.size 2 A n xs) (hL:EAs w w.heap.size xs L) (hn:n≤1000000)
  (hnm:nm.length≤1000000) (hvs:∀a∈L,a.1.length≤281474976710656∧a.2.length≤1000000∧∀u∈a.2,u.length≤1000000) (hT:TM w):
  Calls Tryz.prog 24 #[.agg #[.string (txt nm),.slice A n c]] w fun e w'=>e=.returned (.bool (Tr (FormedE nm L)))∧Below w.heap.size w w':=by
 have hb1:=below1 w (.cells #[.string (txt nm),.slice A n c] 33)
 have hX:=BoxE.new w (txt nm) A n c 33
 have hLo:=fun w hA hL hT=>rloose_any nm L w A n c xs hA hL hn hnm hvs hT
 have hVa:=fun w hA hL=>rvals_any nm L clsT w A n c xs hA hL hn (by decide) (fun a ha=>(hvs a ha).2.1)
 have hNa:=fun w hA hL hT=>rnamed_any nm L w A n c xs hA hL hn hnm (fun a ha=>(hvs a ha).2) hT
 have HA:=hide ((hA.below hb1).upto hb1.size)
 have HL:=hide (hL.grow hb1)
 have HT:=hide (hT.below hb1)
 have HB:=hide hb1
 have HX:=hide hX
 have x0:=hX.c0
 have x1:=hX.c1
 have hcls:txt clsT=(⟨#[111,98,106,101,99,116,67,108,97,115,115]⟩:ByteArray):=rfl
 rw[hcls] at hVa
 by_cases h1:LooseE nm L
 ·rw [Tr_yes h1] at hLo
  obtain⟨R,hR⟩:∃R,valuesE L clsT=R:=⟨_,rfl⟩
  rw[hR] at hVa
  by_cases h2:R=[]
  ·rw [Tr_no (show ¬FormedE nm L from fun h=>h.cls (hR.trans h2))]
   subst h2
   have HLo:=hide hLo
   have HVa:=hide hVa
   clear hLo hVa hNa hb1 hX hA hL hT hnm hvs h1 hR
   generalize txt nm=SN at *
   go_enter Tryz.func24,Tryz.ntmps24
   go_wp2_with (go_at_call 44;fail)
   refine (HLo.out _ HA.out HL.out HT.out).mono ?_
   rintro e w2 ⟨rfl,hb2⟩
   have HX2:=hide (HX.out.grow hb2)
   have HB2:=hide (HB.out.trans (hb2.mono HB.out.size))
   have HT2:=hide (HT.out.below hb2)
   have HA2:=hide ((HA.out.below hb2).upto hb2.size)
   have HL2:=hide (HL.out.grow hb2)
   have y0:=HX2.out.c0
   have y1:=HX2.out.c1
   clear hb2 HB HT HX HA HL HLo x0 x1
   go_wp2_with (go_at_call 45;fail)
   refine (HVa.out _ HA2.out HL2.out).mono ?_
   rintro e w3 hpost
   obtain⟨v,rfl,hown,hb3⟩:=hpost.out
   obtain⟨A3,c3,rfl,_,_⟩:=own_form hown
   have HB3:=hide (HB2.out.trans (hb3.mono HB2.out.size))
   clear hpost hown hb3 HB2 HT2 HX2 HA2 HL2 HVa y0 y1
   go_wp2
   go_ret
   exact⟨rfl,HB3.out⟩
  ·have hpos:0<R.length:=List.length_pos_iff.2 h2
   obtain⟨b,hb⟩:∃b,Tr (NamedR nm L)=b:=⟨_,rfl⟩
   rw[hb] at hNa
   rw[show Tr (FormedE nm L)=b by
    rw[←hb]
    by_cases h3:NamedR nm L
    ·rw [Tr_yes h3,Tr_yes ⟨h1,by rw[hR];exact h2,h3⟩]
    ·rw [Tr_no h3,Tr_no fun h=>h3 h.named]]
   have HLo:=hide hLo
   have HVa:=hide hVa
   have HNa:=hide hNa
   obtain⟨m,hm⟩:∃m,R.length=m:=⟨_,rfl⟩
   rw[hm] at hpos
   have hz:(0:Int)<(m:Int):=by omega
   have Hm:=hide hm
   clear hLo hVa hNa hb1 hX hA hL hT hnm hvs h1 h2 hR hb hm
   generalize txt nm=SN at *
   go_enter Tryz.func24,Tryz.ntmps24
   go_wp2_with (go_at_call 44;fail)
   refine (HLo.out _ HA.out HL.out HT.out).mono ?_
   rintro e w2 ⟨rfl,hb2⟩
   have HX2:=hide (HX.out.grow hb2)
   have HB2:=hide (HB.out.trans (hb2.mono HB.out.size))
   have HT2:=hide (HT.out.below hb2)
   have HA2:=hide ((HA.out.below hb2).upto hb2.size)
   have HL2:=hide (HL.out.grow hb2)
   have y0:=HX2.out.c0
   have y1:=HX2.out.c1
   clear hb2 HB HT HX HA HL HLo x0 x1
   go_wp2_with (go_at_call 45;fail)
   refine (HVa.out _ HA2.out HL2.out).mono ?_
   rintro e w3 hpost
   obtain⟨v,rfl,hown,hb3⟩:=hpost.out
   rw[Hm.out] at hown
   obtain⟨A3,c3,rfl,_,_⟩:=own_form hown
   have HX3:=hide (HX2.out.grow hb3)
   have HB3:=hide (HB2.out.trans (hb3.mono HB2.out.size))
   have HT3:=hide (HT2.out.below hb3)
   have HA3:=hide ((HA2.out.below hb3).upto hb3.size)
   have HL3:=hide (HL2.out.grow hb3)
   have z0:=HX3.out.c0
   have z1:=HX3.out.c1
   clear hpost hown hb3 HB2 HT2 HX2 HA2 HL2 HVa y0 y1
   go_wp2_with (go_at_call 46;fail)
   refine (HNa.out _ HA3.out HL3.out HT3.out).mono ?_
   rintro e w4 ⟨rfl,hb4⟩
   have HB4:=hide (HB3.out.trans (hb4.mono HB3.out.size))
   clear hb4 HB3 HT3 HX3 HA3 HL3 HNa z0 z1
   go_wp2
   go_ret
   exact⟨rfl,HB4.out⟩
 ·rw [Tr_no h1] at hLo
  rw[Tr_no (show ¬FormedE nm L from fun h=>h1 h.loose)]
  have HLo:=hide hLo
  clear hLo hVa hNa hb1 hX hA hL hT hnm hvs h1
  generalize txt nm=SN at *
  go_enter Tryz.func24,Tryz.ntmps24
  go_wp2_with (go_at_call 44;fail)
  refine (HLo.out _ HA.out HL.out HT.out).mono ?_
  rintro e w2 ⟨rfl,hb2⟩
  have HB2:=hide (HB.out.trans (hb2.mono HB.out.size))
  clear hb2 HB HT HX HA HL HLo x0 x1
  go_wp2
  go_ret
  exact⟨rfl,HB2.out⟩
end Go.Proofs.YtjjepcnijmlliaaGreatDoor
namespace Go.Proofs.YtjjepcnijmlliaaGreatDoor
open Go.RowKit
set_option linter.unusedVariables false
set_option linter.unusedSimpArgs false
abbrev EN:=List UInt8 × List EA
structure ENs (w:World) (B:Nat) (xs:List Value) (L:List EN):Prop where
 len:xs.length=L.length*2
 each:∀(i:Nat) (e:EN),L[i]?=some e→∃A c ys,xs[i*2]?=some (.string (txt e.1))∧xs[i*2+1]?=some (.slice A e.2.length c)∧e.2.length≤c∧c≤maxLen∧Has w B 2 A e.2.length ys∧EAs w B ys e.2
theorem ENs.below {w w':World} {B:Nat} {xs:List Value} {L:List EN} (h:ENs w B xs L) (hb:Below B w w'):ENs w' B xs L:=
 ⟨h.len,fun i a ha=>by obtain⟨A,c,ys,h1,h2,k1,k2,h3,h4⟩:=h.each i a ha;exact⟨A,c,ys,h1,h2,k1,k2,h3.below hb,h4.below hb⟩⟩
theorem ENs.upto {w:World} {B B':Nat} {xs:List Value} {L:List EN} (h:ENs w B xs L) (hB:B≤B'):ENs w B' xs L:=
 ⟨h.len,fun i a ha=>by obtain⟨A,c,ys,h1,h2,k1,k2,h3,h4⟩:=h.each i a ha;exact⟨A,c,ys,h1,h2,k1,k2,h3.upto hB,h4.upto hB⟩⟩
theorem ENs.grow {w w':World} {xs:List Value} {L:List EN} (h:ENs w w.heap.size xs L) (hb:Below w.heap.size w w'):ENs w' w'.heap.size xs L:=(h.below hb).upto hb.size
structure EnAt (w:World) (B g o:Nat) (e:EN) (A:Option Addr) (c:Nat) (ys:List Value):Prop where
 e0:w.cell? ⟨g,o,none⟩=some (.string (txt e.1))
 e1:w.cell? ⟨g,o+1,none⟩=some (.slice A e.2.length c)
 cap:e.2.length≤c
 most:c≤maxLen
 has:Has w B 2 A e.2.length ys
 attrs:EAs w B ys e.2
theorem Has.en {w:World} {B n:Nat} {A:Option Addr} {xs:List Value} {L:List EN} (h:Has w B 2 A n xs) (hL:ENs w B xs L) (hn:L≠[]):
  ∃g o,A=some ⟨g,o,none⟩∧g<B∧∀(i:Nat) (e:EN),L[i]?=some e→∃V c ys,EnAt w B g (o+i*2) e V c ys:=by
 have hp:=List.length_pos_iff.2 hn
 obtain⟨g,o,rfl,hg,hc⟩:=h.lies (by rw[hL.len];omega)
 refine⟨g,o,rfl,hg,fun i a ha=>?_⟩
 obtain⟨V,c,ys,h1,h2,k1,k2,h3,h4⟩:=hL.each i a ha
 exact⟨V,c,ys,hc _ _ h1,by have:=hc _ _ h2;rwa [←Nat.add_assoc] at this,k1,k2,h3,h4⟩
theorem Has.ens_n {w:World} {B n:Nat} {A:Option Addr} {xs:List Value} {L:List EN} (h:Has w B 2 A n xs) (hL:ENs w B xs L):n=L.length:=by
 have h1:=h.1
 have h2:=hL.len
 omega
end Go.Proofs.YtjjepcnijmlliaaGreatDoor
namespace Go.Proofs.YtjjepcnijmlliaaGreatDoor
open Go.RowKit
set_option linter.unusedVariables false
set_option linter.unusedSimpArgs false
end Go.Proofs.YtjjepcnijmlliaaGreatDoor
