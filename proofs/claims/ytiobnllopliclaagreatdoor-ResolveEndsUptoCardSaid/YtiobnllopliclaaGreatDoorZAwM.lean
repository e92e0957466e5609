/- Names that the statements of layer 13 bring along: what awake asks, and aliases in a ring. By an AI agent. -/
import Derived.Test.YtiobnllopliclaaGreatDoorZMath
namespace Go.Proofs.YtiobnllopliclaaGreatDoor
open Go.RowKit
set_option linter.unusedVariables false
set_option linter.unusedSimpArgs false
theorem one_part {raw t v tx:List UInt8} (h1:(cuts 43 raw).length≤3) (h2:(cuts 43 raw).mapM rdPairT=some [(t,v)]) (h3:sortP [(t,v)]=[(t,v)]) (h4:(typ t).1=t) (h5:(typ t).2=1)
  (hv:1≤v.length∧v.length≤200) (h0:(0:UInt8) ∉ v) (hn:nt v≠[]) (hx:prP [(t,nt v)]=tx):∃p,parseP raw=some p∧ptx p=tx:=by
 refine⟨[(t,v)],?_,?_⟩
 ·rw [parse_some h1 h2,h3,if_pos]
  refine⟨by simp,by simp,fun a ha=>?_,List.pairwise_singleton _ _⟩
  obtain rfl:=List.mem_singleton.1 ha
  exact⟨h4,Or.inl h5,by rw[norm_word _ _ h5 hv h0 hn]⟩
 ·unfold ptx normP
  simp only[List.map_cons,List.map_nil]
  rw[norm_word _ _ h5 hv h0 hn]
  exact hx
theorem name1 {raw tx:List UInt8} (hl:raw.length≤1000) (hne:raw≠[]) (hc:cuts 44 raw=[raw]) (hp:∃p,parseP raw=some p∧ptx p=tx) (ht:tx.length≤1000):partsV raw=(some [tx],0):=by
 obtain⟨p,hp,hx⟩:=hp
 have hn:nameV raw=(some [p],0):=by
  unfold nameV
  rw[if_neg (by omega),if_neg hne,hc,if_neg (by simp),mapM_cons',hp]
  rfl
 unfold partsV
 rw[hn]
 simp only[List.map_cons,List.map_nil,hx]
 rw[if_neg (by simp only[joinC];omega)]
theorem name2 {raw r1 r2 t1 t2:List UInt8} (hl:raw.length≤1000) (hne:raw≠[]) (hc:cuts 44 raw=[r1,r2]) (hp:∃p,parseP r1=some p∧ptx p=t1) (hq:∃p,parseP r2=some p∧ptx p=t2) (ht:t1.length+t2.length≤900):partsV raw=(some [t1,t2],0):=by
 obtain⟨p,hp,hx⟩:=hp
 obtain⟨q,hq,hy⟩:=hq
 have hn:nameV raw=(some [p,q],0):=by
  unfold nameV
  rw[if_neg (by omega),if_neg hne,hc,if_neg (by simp),mapM_cons',hp]
  simp only[Option.bind_some]
  rw[mapM_cons',hq]
  rfl
 unfold partsV
 rw[hn]
 simp only[List.map_cons,List.map_nil,hx,hy]
 rw[if_neg (by simp only[joinC,List.length_append,List.length_cons];omega)]
theorem texts_okZ {n:List UInt8} {S:List (List UInt8)} (h:partsV n=(some S,0)):TextsOk S:=by
 cases pt n with
 | no e he h'=>rw[h] at h';cases h'
 | ok T ho h'=>
  rw[h] at h'
  cases h'
  exact ho
theorem val_cls {v:List UInt8} (hv:1≤v.length∧v.length≤200) (h0:(0:UInt8) ∉ v) (hn:nt v≠[]):valV clsT v=(nt v,0):=by
 unfold valV
 rw[if_pos (by decide),norm_word _ _ (by decide) hv h0 hn]
theorem alias_of {t x:List UInt8} (h1:1≤t.length∧t.length≤200) (hn:normT t=(x,0)):aliasE [(aliT,[t]),(clsT,[aliC])]=(x,true):=by
 have ta:(typ aliT).1=aliT∧¬(typ aliT).2=0:=by decide
 have tc:(typ clsT).1=clsT∧¬(typ clsT).2=0:=by decide
 have v1:valuesE [(aliT,[t]),(clsT,[aliC])] aliT=[t]:=by
  unfold valuesE
  rw[if_neg ta.2,ta.1]
  unfold pickE
  rw[if_pos rfl]
 have v2:valuesE [(aliT,[t]),(clsT,[aliC])] clsT=[aliC]:=by
  unfold valuesE
  rw[if_neg tc.2,tc.1]
  unfold pickE
  rw[if_neg (show ¬aliT=clsT by decide)]
  unfold pickE
  rw[if_pos rfl]
 have hv:valV clsT aliC=(nt aliC,0):=val_cls (by decide) (by decide) (by decide)
 have hh:HasE [(aliT,[t]),(clsT,[aliC])] clsT aliC:=by
  unfold HasE
  rw[v2]
  exact⟨aliC,by simp,by rw[hv],by rw[hv],rfl⟩
 have hw:valV aliT t=(x,0):=by
  unfold valV
  rw[if_neg (by decide),if_neg (by omega),if_pos (by rw[hn])]
  exact hn
 unfold aliasE
 rw[v1]
 simp only
 rw[if_pos hh,hw]
 rfl
theorem alias_nil:aliasE []=([],false):=by
 have v1:valuesE [] aliT=[]:=by
  unfold valuesE
  split<;>rfl
 unfold aliasE
 rw[v1]
def zAl:List UInt8:=[99,110,61,97,108]
def zOU:List UInt8:=[79,85,61,98]
def zOu:List UInt8:=[111,117,61,98]
def zX:List UInt8:=[99,110,61,120]
def zXO:List UInt8:=[99,110,61,120,44,111,117,61,98]
def zXA:List UInt8:=[67,78,61,120,44,99,110,61,97,108]
def zXa:List UInt8:=[99,110,61,120,44,99,110,61,97,108]
def awZ:List EN:=[(zAl,[(aliT,[zOU]),(clsT,[aliC])]),(zXO,[])]
theorem pt_al:∃p,parseP zAl=some p∧ptx p=zAl:=one_part (t:=[99,110]) (v:=[97,108]) (by decide) (by decide) (by decide) (by decide) (by decide) (by decide) (by decide) (by decide) (by decide)
theorem pt_OU:∃p,parseP zOU=some p∧ptx p=zOu:=one_part (t:=[111,117]) (v:=[98]) (by decide) (by decide) (by decide) (by decide) (by decide) (by decide) (by decide) (by decide) (by decide)
theorem pt_ou:∃p,parseP zOu=some p∧ptx p=zOu:=one_part (t:=[111,117]) (v:=[98]) (by decide) (by decide) (by decide) (by decide) (by decide) (by decide) (by decide) (by decide) (by decide)
theorem pt_x:∃p,parseP zX=some p∧ptx p=zX:=one_part (t:=[99,110]) (v:=[120]) (by decide) (by decide) (by decide) (by decide) (by decide) (by decide) (by decide) (by decide) (by decide)
theorem pt_X:∃p,parseP [67,78,61,120]=some p∧ptx p=zX:=one_part (t:=[99,110]) (v:=[120]) (by decide) (by decide) (by decide) (by decide) (by decide) (by decide) (by decide) (by decide) (by decide)
theorem ps_al:partsV zAl=(some [zAl],0):=name1 (by decide) (by decide) (by decide) pt_al (by decide)
theorem ps_OU:partsV zOU=(some [zOu],0):=name1 (by decide) (by decide) (by decide) pt_OU (by decide)
theorem ps_ou:partsV zOu=(some [zOu],0):=name1 (by decide) (by decide) (by decide) pt_ou (by decide)
theorem ps_XO:partsV zXO=(some [zX,zOu],0):=name2 (by decide) (by decide) (by decide) pt_x pt_ou (by decide)
theorem ps_XA:partsV zXA=(some [zX,zAl],0):=name2 (by decide) (by decide) (by decide) pt_X pt_al (by decide)
theorem ps_Xa:partsV zXa=(some [zX,zAl],0):=name2 (by decide) (by decide) (by decide) pt_x pt_al (by decide)
theorem nm_OU:normT zOU=(zOu,0):=by rw[norm_yes' ps_OU];rfl
theorem nm_XO:normT zXO=(zXO,0):=by rw[norm_yes' ps_XO];rfl
theorem nm_XA:normT zXA=(zXa,0):=by rw[norm_yes' ps_XA];rfl
theorem nm_Xa:normT zXa=(zXa,0):=by rw[norm_yes' ps_Xa];rfl
theorem ali_aw:aliasE [(aliT,[zOU]),(clsT,[aliC])]=(zOu,true):=alias_of (by decide) nm_OU
theorem step_aw1:stepV awZ zXa=(zXO,true,0):=by
 have hu:underV zXa zAl=true:=by unfold underV;rw[ps_Xa,ps_al];decide
 have hl:leadR zXa awZ=some (zAl,zOu):=by
  unfold leadR awZ
  simp only[List.foldl_cons,List.foldl_nil]
  have h1:nextR zXa none (zAl,[(aliT,[zOU]),(clsT,[aliC])])=some (zAl,zOu):=by
   unfold nextR candB lessB
   simp only[ali_aw,hu]
   rfl
  rw[h1]
  unfold nextR candB
  simp only[alias_nil]
  rfl
 have hm:moveV zXa zAl zOu=(zXO,0):=by
  rw[move_4 ps_Xa ps_al ps_ou,if_pos (by decide)]
  exact fit_yes (texts_okZ ps_XO)
 unfold stepV
 rw[nm_Xa,if_pos rfl]
 simp only
 rw[hl]
 simp only
 rw[hm,if_pos rfl]
theorem step_aw2:stepV awZ zXO=(zXO,false,0):=by
 have hu:underV zXO zAl=false:=by unfold underV;rw[ps_XO,ps_al];decide
 have hl:leadR zXO awZ=none:=by
  unfold leadR awZ
  simp only[List.foldl_cons,List.foldl_nil]
  have h1:nextR zXO none (zAl,[(aliT,[zOU]),(clsT,[aliC])])=none:=by
   unfold nextR candB lessB
   simp only[hu,Bool.and_false,Bool.false_and]
   rfl
  rw[h1]
  unfold nextR candB
  simp only[alias_nil]
  rfl
 unfold stepV
 rw[nm_XO,if_pos rfl]
 simp only
 rw[hl]
theorem find_aw:findV awZ zXA true=(zXO,true,0):=by
 have hw:wayV awZ zXa true=([zXa,zXO],zXO,0):=by
  unfold wayV
  rw[if_pos rfl,go_on (by rw[step_aw1]) (by rw[step_aw1]) (by rw[step_aw1];decide),step_aw1,go_stay (by rw[step_aw2]) (by rw[step_aw2];simp)]
  rfl
 rw[find_norm nm_XA,hw]
 simp only
 rw[if_pos trivial,if_pos (by decide)]
 rfl
def nmI (i:Nat):List UInt8:=[99,110,61,UInt8.ofNat (97+i)]
def ringA (t:List UInt8):List EA:=[(aliT,[t]),(clsT,[aliC])]
def ringL (k:Nat):List EN:=(List.range k).map fun i=>(nmI i,ringA (nmI ((i+1) % k)))
def preR (r:Bool):List (List UInt8):=if r=true then [zX] else []
def famR (r:Bool) (i:Nat):List UInt8:=if r=true then zX++44::nmI i else nmI i
theorem nmI_inj {i j:Nat} (hi:i<12) (hj:j<12) (h:nmI i=nmI j):i=j:=by
 have key:∀i j:Fin 12,nmI i=nmI j→i=j:=by decide
 exact congrArg Fin.val (key ⟨i,hi⟩ ⟨j,hj⟩ h)
theorem pt_nm {i:Nat} (hi:i<12):∃p,parseP (nmI i)=some p∧ptx p=nmI i:=by
 have k1:∀i:Fin 12,(cuts 43 (nmI i)).length≤3:=by decide
 have k2:∀i:Fin 12,(cuts 43 (nmI i)).mapM rdPairT=some [([99,110],[UInt8.ofNat (97+i)])]:=by decide
 have k3:∀i:Fin 12,sortP [([99,110],[UInt8.ofNat (97+i.val)])]=[([99,110],[UInt8.ofNat (97+i.val)])]:=by decide
 have k4:∀i:Fin 12,(0:UInt8) ∉ [UInt8.ofNat (97+i.val)]:=by decide
 have k5:∀i:Fin 12,nt [UInt8.ofNat (97+i.val)]≠[]:=by decide
 have k6:∀i:Fin 12,prP [([99,110],nt [UInt8.ofNat (97+i.val)])]=nmI i:=by decide
 exact one_part (t:=[99,110]) (v:=[UInt8.ofNat (97+i)]) (k1 ⟨i,hi⟩) (k2 ⟨i,hi⟩) (k3 ⟨i,hi⟩) (by decide) (by decide) (by simp) (k4 ⟨i,hi⟩) (k5 ⟨i,hi⟩) (k6 ⟨i,hi⟩)
theorem ps_nm {i:Nat} (hi:i<12):partsV (nmI i)=(some [nmI i],0):=by
 have k:∀i:Fin 12,cuts 44 (nmI i)=[nmI i]:=by decide
 exact name1 (by simp[nmI]) (by simp[nmI]) (k ⟨i,hi⟩) (pt_nm hi) (by simp[nmI])
theorem ps_fam {i:Nat} (hi:i<12) (r:Bool):partsV (famR r i)=(some (preR r++[nmI i]),0):=by
 cases r with
 | false=>exact ps_nm hi
 | true=>
  have k:∀i:Fin 12,cuts 44 (zX++44::nmI i)=[zX,nmI i]:=by decide
  change partsV (zX++44::nmI i)=(some [zX,nmI i],0)
  exact name2 (by simp[zX,nmI]) (by simp[zX]) (k ⟨i,hi⟩) pt_x (pt_nm hi) (by simp[zX,nmI])
theorem join_fam (i:Nat) (r:Bool):joinC (preR r++[nmI i])=famR r i:=by cases r<;>rfl
theorem nm_fam {i:Nat} (hi:i<12) (r:Bool):normT (famR r i)=(famR r i,0):=by rw[norm_yes' (ps_fam hi r),join_fam]
theorem und_fam {i j:Nat} (hi:i<12) (hj:j<12) (r:Bool):underV (famR r i) (nmI j)=true↔i=j:=by
 unfold underV
 rw[ps_fam hi r,ps_nm hj]
 show undB (preR r++[nmI i]) [nmI j]=true↔i=j
 constructor
 ·intro h
  obtain⟨_,h2⟩:=und_yes h
  have h3:(preR r++[nmI i]).drop ((preR r++[nmI i]).length - [nmI j].length)=[nmI i]:=by cases r<;>rfl
  rw[h3] at h2
  exact nmI_inj hi hj (List.cons.inj h2).1
 ·rintro rfl
  exact und_app _ _
theorem step_ring {k i:Nat} (hk:k≤12) (hi:i<k) (r:Bool):stepV (ringL k) (famR r i)=(famR r ((i+1) % k),true,0):=by
 have hk0:0<k:=by omega
 have hmod:∀j,(j+1) % k<12:=fun j=>Nat.lt_of_lt_of_le (Nat.mod_lt _ hk0) hk
 have ha:∀j,aliasE (ringA (nmI ((j+1) % k)))=(nmI ((j+1) % k),true):=fun j=>alias_of (by simp[nmI]) (nm_fam (hmod j) false)
 have hat:∀j e,(ringL k)[j]?=some e→j<k∧e=(nmI j,ringA (nmI ((j+1) % k))):=fun j e h=>by
  have hj:j<k:=by
   have:=(List.getElem?_eq_some_iff.1 h).1
   simpa[ringL] using this
  refine⟨hj,?_⟩
  unfold ringL at h
  rw[List.getElem?_map,List.getElem?_range hj] at h
  exact (Option.some.inj h).symm
 have hl:leadR (famR r i) (ringL k)=some (nmI i,nmI ((i+1) % k)):=by
  refine Best.one (leadR_best _ _) ⟨i,⟨(nmI i,ringA (nmI ((i+1) % k))),?_,?_,rfl,by rw[ha]⟩,fun j e hj hc=>?_⟩
  ·unfold ringL
   rw[List.getElem?_map,List.getElem?_range hi]
   rfl
  ·unfold candB
   simp only[ha]
   rw[(und_fam (by omega) (by omega) r).2 rfl]
   rfl
  ·obtain ⟨h1,rfl⟩:=hat j e hj
   have hu:=((Bool.and_eq_true _ _).mp hc).2
   have:=(und_fam (by omega) (by omega) r).1 hu
   subst this
   exact⟨Nat.le_refl _,fun _=>Nat.le_refl _⟩
 have hm:moveV (famR r i) (nmI i) (nmI ((i+1) % k))=(famR r ((i+1) % k),0):=by
  rw[move_4 (ps_fam (by omega) r) (ps_nm (by omega)) (ps_nm (hmod i)),if_pos (und_app _ _)]
  have h3:(preR r++[nmI i]).take ((preR r++[nmI i]).length - [nmI i].length)=preR r:=by cases r<;>rfl
  rw[h3,fit_yes (texts_okZ (ps_fam (hmod i) r)),join_fam]
 unfold stepV
 rw[nm_fam (by omega) r,if_pos rfl]
 simp only
 rw[hl]
 simp only
 rw[hm,if_pos rfl]
theorem go_fam {k:Nat} (hk:k≤12) (r:Bool):∀(m:Nat) (seen:List (List UInt8)) (i:Nat),i<k→goV (ringL k) m seen (famR r i)=([],[],36)
 | 0,seen,i,hi=>by rw[goV]
 | m+1,seen,i,hi=>by
  have hs:=step_ring hk hi r
  by_cases h3:16<seen.length∨(stepV (ringL k) (famR r i)).1∈seen
  ·exact go_ring (by rw[hs]) (by rw[hs]) h3
  ·rw [go_on (by rw[hs]) (by rw[hs]) h3,hs]
   exact go_fam hk r m _ _ (Nat.mod_lt _ (by omega))
theorem find_ring {k i:Nat} (hk:k≤12) (hi:i<k) (r:Bool):findV (ringL k) (famR r i) true=([],false,36):=by
 have hw:wayV (ringL k) (famR r i) true=([],[],36):=by
  unfold wayV
  rw[if_pos rfl]
  exact go_fam hk r _ _ _ hi
 rw[find_norm (nm_fam (by omega) r),hw]
 rfl
end Go.Proofs.YtiobnllopliclaaGreatDoor
