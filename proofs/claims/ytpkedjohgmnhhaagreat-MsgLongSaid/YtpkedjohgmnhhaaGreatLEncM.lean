/- A message that is laid is read as it was, if it is formed. By an AI agent. -/
import Derived.Test.YtpkedjohgmnhhaaGreatM05
import Derived.Test.YtpkedjohgmnhhaaGreatLDecode
set_option linter.unusedSimpArgs false
namespace Go.Proofs.YtpkedjohgmnhhaaGreat
open Go.RowKit
open Wr
set_option linter.unusedVariables false
def keptM (m:MT):MT:=
 if m.kind=0 then { id:=m.id,kind:=m.kind,ver:=m.ver,name:=m.name,pw:=m.pw,ctls:=m.ctls }
 else if m.kind=3 then { id:=m.id,kind:=m.kind,name:=m.name,scope:=m.scope,deref:=m.deref,size:=m.size,time:=m.time,tonly:=m.tonly,filt:=m.filt,attrs:=m.attrs,ctls:=m.ctls }
 else if m.kind=6 then { id:=m.id,kind:=m.kind,name:=m.name,chs:=m.chs,ctls:=m.ctls }
 else if m.kind=4∨m.kind=8 then { id:=m.id,kind:=m.kind,name:=m.name,lst:=m.lst,ctls:=m.ctls }
 else if m.kind=10 then { id:=m.id,kind:=m.kind,name:=m.name,ctls:=m.ctls }
 else if m.kind=12 then { id:=m.id,kind:=m.kind,name:=m.name,nrdn:=m.nrdn,delold:=m.delold,hassup:=m.hassup,sup:=if m.hassup then m.sup else [],ctls:=m.ctls }
 else if m.kind=14 then { id:=m.id,kind:=m.kind,name:=m.name,attr:=m.attr,value:=m.value,ctls:=m.ctls }
 else if m.kind=16 then { id:=m.id,kind:=m.kind,target:=m.target,ctls:=m.ctls }
 else if m.kind=1∨m.kind=5∨m.kind=7∨m.kind=9∨m.kind=11∨m.kind=13∨m.kind=15∨m.kind=24 then { id:=m.id,kind:=m.kind,code:=m.code,matched:=m.matched,text:=m.text,refs:=m.refs,ctls:=m.ctls }
 else if m.kind=19 then { id:=m.id,kind:=m.kind,refs:=m.refs,ctls:=m.ctls }
 else { id:=m.id,kind:=m.kind,ctls:=m.ctls }
def knownK (k:Int):Prop:=(0≤k∧k≤16)∨k=19∨k=24
def in31 (n:Int):Prop:=0≤n∧n≤2147483647
structure Bounds (m:MT):Prop where
 ints:in31 m.id∧in31 m.size∧in31 m.time∧in31 m.target∧in31 m.code
 ver:0≤m.ver∧m.ver≤127
 scope:0≤m.scope∧m.scope≤2
 deref:0≤m.deref∧m.deref≤3
 filt:m.kind=3→m.filt.formed=true
 refs0:m.kind=19→m.refs≠[]
 texts:m.name.length≤1000∧m.pw.length≤1000∧m.nrdn.length≤1000∧m.sup.length≤1000∧m.attr.length≤1000∧m.value.length≤1000∧m.matched.length≤1000∧m.text.length≤1000
 attrs:∀s∈m.attrs,s.length≤1000
 refs:∀s∈m.refs,s.length≤1000
 lst:∀a∈m.lst,okA a
 chs:∀c∈m.chs,okH c
 ctls:∀c∈m.ctls,okC c
structure FormedM (m:MT):Prop where
 known:knownK m.kind
 kept:keptM m=m
 ok:Bounds m
theorem then_enc {a b:Rd.MR} {m m1 m2:MT} {F G H:List Fd} (h1:a m F=some (m1,G)) (h2:b m1 G=some (m2,H)):Rd.thenR a b m F=some (m2,H):=by
 simp only[Rd.thenR,h1,h2]
theorem upd_enc {α:Type} {p:Rdr α} {u:MT→α→MT} {m:MT} {x:α} {F G:List Fd} (h:p F=some (x,G)):Rd.updR p u m F=some (u m x,G):=by
 simp only[Rd.updR,h,Option.map_some]
theorem attrF_tag (a:Atr):(attrF a).1.toNat % 32≠31:=by simp[attrF]
theorem changeF_tag (a:Int × Atr):(changeF a).1.toNat % 32≠31:=by simp[changeF]
theorem controlF_tag (a:Ct):(controlF a).1.toNat % 32≠31:=by simp[controlF]
theorem name_enc (m:MT) (s:List UInt8) (r:List Fd) (h:s.length≤1000):Rd.nameR m (textF s::r)=some ({ m with name:=s },r):=upd_enc (u:=fun m x=>{ m with name:=x }) (text_enc s r h)
theorem listA_enc (l:List Atr) (r:List Fd) (h:∀a∈l,okA a) (hl:(enc (l.map attrF)).length≤2147483647):Rd.listR 48 Rd.attrR ((0x30,enc (l.map attrF))::r)=some (l,r):=
 list_enc l r (fun x hx r=>attr_enc x r (h x hx) (Nat.le_trans (enc_mem (List.mem_map_of_mem hx)) hl)) (plain_map attrF_tag) hl
theorem listH_enc (l:List (Int × Atr)) (r:List Fd) (h:∀a∈l,okH a) (hl:(enc (l.map changeF)).length≤2147483647):Rd.listR 48 Rd.changeR ((0x30,enc (l.map changeF))::r)=some (l,r):=
 list_enc l r (fun x hx r=>change_enc x r (h x hx) (Nat.le_trans (enc_mem (List.mem_map_of_mem hx)) hl)) (plain_map changeF_tag) hl
theorem refs_enc (m:MT) (l:List (List UInt8)) (hm:m.refs=[]) (h:∀s∈l,s.length≤1000) (hl:(enc (refsF l)).length≤2147483647):Rd.refsR m (refsF l)=some ({ m with refs:=l },[]):=by
 unfold Rd.refsR refsF at *
 by_cases h0:l=[]
 ·subst h0
  simp only[if_true]
  rw[←hm]
 ·rw [if_neg h0] at hl ⊢
  have h1:=enc_cons_le hl
  rw[if_neg (by simp),some_enc l [] h0 (fun x hx r=>text_enc x r (h x hx)) (plain_map fun x=>by simp[textF]) h1.1]
  rfl
theorem oper_tag (k:Int) (h:knownK k):Rd.kindOf (operTag k)=k∧opV k=((operTag k).toNat:Int)∧(operTag k).toNat % 32≠31:=by
 have hk:k=0∨k=1∨k=2∨k=3∨k=4∨k=5∨k=6∨k=7∨k=8∨k=9∨k=10∨k=11∨k=12∨k=13∨k=14∨k=15∨k=16∨k=19∨k=24:=by
  unfold knownK at h;omega
 rcases hk with rfl | rfl | rfl | rfl | rfl | rfl | rfl | rfl | rfl | rfl | rfl | rfl | rfl | rfl | rfl | rfl | rfl | rfl | rfl<;>decide
theorem kept_zero {m:MT} (h:keptM m=m):(m.kind≠0→m.ver=0∧m.pw=[])∧(m.kind≠3→m.scope=0∧m.deref=0∧m.size=0∧m.time=0∧m.tonly=false∧m.filt=.mk 0 [] [] [] [] [] []∧m.attrs=[])∧
  (m.kind≠6→m.chs=[])∧(¬(m.kind=4∨m.kind=8)→m.lst=[])∧(¬(m.kind=0∨m.kind=3∨m.kind=6∨m.kind=4∨m.kind=8∨m.kind=10∨m.kind=12∨m.kind=14)→m.name=[])∧
  (m.kind≠12→m.nrdn=[]∧m.delold=false∧m.hassup=false∧m.sup=[])∧(m.hassup=false→m.sup=[])∧(m.kind≠14→m.attr=[]∧m.value=[])∧(m.kind≠16→m.target=0)∧
  (¬(m.kind=1∨m.kind=5∨m.kind=7∨m.kind=9∨m.kind=11∨m.kind=13∨m.kind=15∨m.kind=24)→m.code=0∧m.matched=[]∧m.text=[])∧
  (¬(m.kind=1∨m.kind=5∨m.kind=7∨m.kind=9∨m.kind=11∨m.kind=13∨m.kind=15∨m.kind=24∨m.kind=19)→m.refs=[]):=by
 unfold keptM at h
 rw[←h]
 by_cases h0:m.kind=0
 ·simp [h0]
 by_cases h3:m.kind=3
 ·simp [h3]
 by_cases h6:m.kind=6
 ·simp [h6]
 by_cases h4:m.kind=4∨m.kind=8
 ·rcases h4 with h4 | h4<;>simp[h4]
 by_cases h10:m.kind=10
 ·simp [h10]
 by_cases h12:m.kind=12
 ·simp [h12]
  intro a b
  rw[a] at b
  cases b
 by_cases h14:m.kind=14
 ·simp [h14]
 by_cases h16:m.kind=16
 ·simp [h16]
 by_cases h1:m.kind=1∨m.kind=5∨m.kind=7∨m.kind=9∨m.kind=11∨m.kind=13∨m.kind=15∨m.kind=24
 ·rcases h1 with h1 | h1 | h1 | h1 | h1 | h1 | h1 | h1<;>simp[h1]
 by_cases h19:m.kind=19
 ·simp [h19]
 simp[h0,h3,h6,h4,h10,h12,h14,h16,h1,h19]
abbrev ofK (i k:Int):MT:={ id:=i,kind:=k }
theorem formedR_enc (t:FT) (r:List Fd) (h:t.formed=true) (hl:(filterF t).2.length≤2147483647):Rd.formedR (filterF t::r)=some (t,r):=by
 have hf:=h
 simp[FT.formed] at h
 unfold Rd.formedR
 rw[filter_enc t 20 r (by simp[h]) (by omega) hl]
 simp only[hf,if_true]
theorem sup_enc (m m1:MT) (h0:m1.hassup=false∧m1.sup=[]) (h:m.sup.length≤1000) (hs:m.hassup=false→m.sup=[]):Rd.supR m1 (supF m)=some ({ m1 with hassup:=m.hassup,sup:=m.sup },[]):=by
 unfold Rd.supR supF
 cases hh:m.hassup with
 | true=>simp only[if_true];rw[if_neg (by simp),tagged_enc 0x80 _ _ h];rfl
 | false=>
  simp only[Bool.false_eq_true,if_false,if_true]
  rw[hs hh]
  obtain⟨a,b⟩:=h0
  rw[←a,←b]
abbrev noCt (m:MT):MT:={ m with ctls:=[] }
theorem noCt_eq {m x:MT} (h:x=m):noCt x=noCt m:=congrArg noCt h
theorem some_eq {m x:MT} {o:Option (MT × List Fd)} (h:o=some (x,[])) (e:x=m):o=some (m,[]):=by rw[h,e]
theorem contentE_unbind (m:MT) (h:FormedM m) (hk:m.kind=2) (hl:(enc (contentF m)).length≤2147483647):Rd.contentR (ofK m.id 2) (contentF m)=some (noCt m,[]):=by
 have hb:=h.ok
 have hkept:=h.kept
 unfold keptM at hkept
 simp only[hk] at hkept
 have e:Rd.contentR (ofK m.id 2)=Rd.doneR (ofK m.id 2):=rfl
 have ec:contentF m=[]:=by unfold contentF;simp only[hk];rfl
 rw[ec] at hl
 rw[e,ec]
 have hh:=(rfl:Rd.doneR (ofK m.id 2) []=some (ofK m.id 2,[]))
 exact some_eq hh (noCt_eq hkept)
theorem contentE_bind (m:MT) (h:FormedM m) (hk:m.kind=0) (hl:(enc (contentF m)).length≤2147483647):Rd.contentR (ofK m.id 0) (contentF m)=some (noCt m,[]):=by
 have hb:=h.ok
 have hkept:=h.kept
 unfold keptM at hkept
 simp only[hk] at hkept
 have e:Rd.contentR (ofK m.id 0)=Rd.bindR (ofK m.id 0):=rfl
 have ec:contentF m=[numF 2 m.ver,textF m.name,(0x80,m.pw)]:=by unfold contentF;simp only[hk];rfl
 rw[ec] at hl
 rw[e,ec]
 have hh:=then_enc (then_enc (upd_enc (m:=ofK m.id 0) (u:=fun (m:MT) (x:Int)=>({ m with ver:=x }:MT)) (num_enc 2 m.ver 127 [textF m.name,(0x80,m.pw)] hb.ver.1 hb.ver.2 (by omega))) (name_enc _ m.name [(0x80,m.pw)] hb.texts.1)) (upd_enc (u:=fun (m:MT) (x:List UInt8)=>({ m with pw:=x }:MT)) (tagged_enc 0x80 m.pw [] hb.texts.2.1))
 exact some_eq hh (noCt_eq hkept)
theorem contentE_search (m:MT) (h:FormedM m) (hk:m.kind=3) (hl:(enc (contentF m)).length≤2147483647):Rd.contentR (ofK m.id 3) (contentF m)=some (noCt m,[]):=by
 have hb:=h.ok
 have hkept:=h.kept
 unfold keptM at hkept
 simp only[hk] at hkept
 have e:Rd.contentR (ofK m.id 3)=Rd.searchR (ofK m.id 3):=rfl
 have ec:contentF m=[textF m.name,numF 0x0a m.scope,numF 0x0a m.deref,numF 2 m.size,numF 2 m.time,flagF m.tonly,filterF m.filt,(0x30,enc (m.attrs.map textF))]:=by unfold contentF;simp only[hk];rfl
 rw[ec] at hl
 rw[e,ec]
 have hf:=Nat.le_trans (enc_mem (f:=filterF m.filt) (by simp)) hl
 have ha:=Nat.le_trans (enc_mem (f:=(0x30,enc (m.attrs.map textF))) (by simp)) hl
 have hh:=then_enc (then_enc (then_enc (then_enc (then_enc (then_enc (then_enc (name_enc (ofK m.id 3) m.name [numF 0x0a m.scope,numF 0x0a m.deref,numF 2 m.size,numF 2 m.time,flagF m.tonly,filterF m.filt,(0x30,enc (m.attrs.map textF))] hb.texts.1)
  (upd_enc (u:=fun (m:MT) (x:Int)=>({ m with scope:=x }:MT)) (num_enc 0x0a m.scope 2 _ hb.scope.1 hb.scope.2 (by omega))))
  (upd_enc (u:=fun (m:MT) (x:Int)=>({ m with deref:=x }:MT)) (num_enc 0x0a m.deref 3 _ hb.deref.1 hb.deref.2 (by omega))))
  (upd_enc (u:=fun (m:MT) (x:Int)=>({ m with size:=x }:MT)) (num_enc 2 m.size 2147483647 _ hb.ints.2.1.1 hb.ints.2.1.2 (by omega))))
  (upd_enc (u:=fun (m:MT) (x:Int)=>({ m with time:=x }:MT)) (num_enc 2 m.time 2147483647 _ hb.ints.2.2.1.1 hb.ints.2.2.1.2 (by omega))))
  (upd_enc (u:=fun (m:MT) (x:Bool)=>({ m with tonly:=x }:MT)) (flag_enc m.tonly _)))
  (upd_enc (u:=fun (m:MT) (x:FT)=>({ m with filt:=x }:MT)) (formedR_enc m.filt _ (hb.filt hk) hf)))
  (upd_enc (u:=fun (m:MT) (x:List (List UInt8))=>({ m with attrs:=x }:MT)) (texts_enc m.attrs [] hb.attrs ha))
 exact some_eq hh (noCt_eq hkept)
theorem contentE_modify (m:MT) (h:FormedM m) (hk:m.kind=6) (hl:(enc (contentF m)).length≤2147483647):Rd.contentR (ofK m.id 6) (contentF m)=some (noCt m,[]):=by
 have hb:=h.ok
 have hkept:=h.kept
 unfold keptM at hkept
 simp only[hk] at hkept
 have e:Rd.contentR (ofK m.id 6)=Rd.modifyR (ofK m.id 6):=rfl
 have ec:contentF m=[textF m.name,(0x30,enc (m.chs.map changeF))]:=by unfold contentF;simp only[hk];rfl
 rw[ec] at hl
 rw[e,ec]
 have ha:=Nat.le_trans (enc_mem (f:=(0x30,enc (m.chs.map changeF))) (by simp)) hl
 have hh:=then_enc (name_enc (ofK m.id 6) m.name [(0x30,enc (m.chs.map changeF))] hb.texts.1) (upd_enc (u:=fun (m:MT) (x:List (Int × Atr))=>({ m with chs:=x }:MT)) (listH_enc m.chs [] hb.chs ha))
 exact some_eq hh (noCt_eq hkept)
theorem contentE_add (m:MT) (h:FormedM m) (hk:m.kind=8) (hl:(enc (contentF m)).length≤2147483647):Rd.contentR (ofK m.id 8) (contentF m)=some (noCt m,[]):=by
 have hb:=h.ok
 have hkept:=h.kept
 unfold keptM at hkept
 simp only[hk] at hkept
 have e:Rd.contentR (ofK m.id 8)=Rd.addR (ofK m.id 8):=rfl
 have ec:contentF m=[textF m.name,(0x30,enc (m.lst.map attrF))]:=by unfold contentF;simp only[hk];rfl
 rw[ec] at hl
 rw[e,ec]
 have ha:=Nat.le_trans (enc_mem (f:=(0x30,enc (m.lst.map attrF))) (by simp)) hl
 have hh:=then_enc (name_enc (ofK m.id 8) m.name [(0x30,enc (m.lst.map attrF))] hb.texts.1) (upd_enc (u:=fun (m:MT) (x:List Atr)=>({ m with lst:=x }:MT)) (listA_enc m.lst [] hb.lst ha))
 exact some_eq hh (noCt_eq hkept)
theorem contentE_entry (m:MT) (h:FormedM m) (hk:m.kind=4) (hl:(enc (contentF m)).length≤2147483647):Rd.contentR (ofK m.id 4) (contentF m)=some (noCt m,[]):=by
 have hb:=h.ok
 have hkept:=h.kept
 unfold keptM at hkept
 simp only[hk] at hkept
 have e:Rd.contentR (ofK m.id 4)=Rd.addR (ofK m.id 4):=rfl
 have ec:contentF m=[textF m.name,(0x30,enc (m.lst.map attrF))]:=by unfold contentF;simp only[hk];rfl
 rw[ec] at hl
 rw[e,ec]
 have ha:=Nat.le_trans (enc_mem (f:=(0x30,enc (m.lst.map attrF))) (by simp)) hl
 have hh:=then_enc (name_enc (ofK m.id 4) m.name [(0x30,enc (m.lst.map attrF))] hb.texts.1) (upd_enc (u:=fun (m:MT) (x:List Atr)=>({ m with lst:=x }:MT)) (listA_enc m.lst [] hb.lst ha))
 exact some_eq hh (noCt_eq hkept)
theorem contentE_modName (m:MT) (h:FormedM m) (hk:m.kind=12) (hl:(enc (contentF m)).length≤2147483647):Rd.contentR (ofK m.id 12) (contentF m)=some (noCt m,[]):=by
 have hb:=h.ok
 have hkept:=h.kept
 unfold keptM at hkept
 simp only[hk] at hkept
 have e:Rd.contentR (ofK m.id 12)=Rd.modNameR (ofK m.id 12):=rfl
 have ec:contentF m=textF m.name::textF m.nrdn::flagF m.delold::supF m:=by unfold contentF;simp only[hk];rfl
 rw[ec] at hl
 rw[e,ec]
 have hsup:(if m.hassup then m.sup else [])=m.sup:=by
  cases hh:m.hassup with
  | true=>rfl
  | false=>rw[(kept_zero h.kept).2.2.2.2.2.2.1 hh];rfl
 simp only[hsup] at hkept
 have hh:=then_enc (then_enc (then_enc (name_enc (ofK m.id 12) m.name (textF m.nrdn::flagF m.delold::supF m) hb.texts.1)
  (upd_enc (u:=fun (m:MT) (x:List UInt8)=>({ m with nrdn:=x }:MT)) (text_enc m.nrdn _ hb.texts.2.2.1))) (upd_enc (u:=fun (m:MT) (x:Bool)=>({ m with delold:=x }:MT)) (flag_enc m.delold _))) (sup_enc m _ ⟨rfl,rfl⟩ hb.texts.2.2.2.1 (kept_zero h.kept).2.2.2.2.2.2.1)
 exact some_eq hh (noCt_eq hkept)
theorem contentE_compare (m:MT) (h:FormedM m) (hk:m.kind=14) (hl:(enc (contentF m)).length≤2147483647):Rd.contentR (ofK m.id 14) (contentF m)=some (noCt m,[]):=by
 have hb:=h.ok
 have hkept:=h.kept
 unfold keptM at hkept
 simp only[hk] at hkept
 have e:Rd.contentR (ofK m.id 14)=Rd.compareR (ofK m.id 14):=rfl
 have ec:contentF m=[textF m.name,(0x30,enc [textF m.attr,textF m.value])]:=by unfold contentF;simp only[hk];rfl
 rw[ec] at hl
 rw[e,ec]
 have ha:=Nat.le_trans (enc_mem (f:=(0x30,enc [textF m.attr,textF m.value])) (by simp)) hl
 have hh:=then_enc (name_enc (ofK m.id 14) m.name [(0x30,enc [textF m.attr,textF m.value])] hb.texts.1) (upd_enc (u:=fun (m:MT) (x:List UInt8 × List UInt8)=>({ m with attr:=x.1,value:=x.2 }:MT))
  (inner_enc (t:=48) (r:=[]) (plain_cons (by simp[textF]) (plain_cons (by simp[textF]) plain_nil)) ha (and_enc (f:=Prod.mk) (text_enc m.attr [textF m.value] hb.texts.2.2.2.2.1) (text_enc m.value [] hb.texts.2.2.2.2.2.1))))
 exact some_eq hh (noCt_eq hkept)
theorem contentE_result1 (m:MT) (h:FormedM m) (hk:m.kind=1) (hl:(enc (contentF m)).length≤2147483647):Rd.contentR (ofK m.id 1) (contentF m)=some (noCt m,[]):=by
 have hb:=h.ok
 have hkept:=h.kept
 unfold keptM at hkept
 simp only[hk] at hkept
 have e:Rd.contentR (ofK m.id 1)=Rd.resultR (ofK m.id 1):=rfl
 have ec:contentF m=numF 0x0a m.code::textF m.matched::textF m.text::refsF m.refs:=by unfold contentF;simp only[hk];rfl
 rw[ec] at hl
 rw[e,ec]
 have ha:=(enc_cons_le (enc_cons_le (enc_cons_le hl).2).2).2
 have hh:=then_enc (then_enc (then_enc (upd_enc (m:=ofK m.id 1) (u:=fun (m:MT) (x:Int)=>({ m with code:=x }:MT)) (num_enc 0x0a m.code 2147483647 (textF m.matched::textF m.text::refsF m.refs) hb.ints.2.2.2.2.1 hb.ints.2.2.2.2.2 (by omega)))
  (upd_enc (u:=fun (m:MT) (x:List UInt8)=>({ m with matched:=x }:MT)) (text_enc m.matched _ hb.texts.2.2.2.2.2.2.1))) (upd_enc (u:=fun (m:MT) (x:List UInt8)=>({ m with text:=x }:MT)) (text_enc m.text _ hb.texts.2.2.2.2.2.2.2))) (refs_enc _ m.refs rfl hb.refs ha)
 exact some_eq hh (noCt_eq hkept)
theorem contentE_result5 (m:MT) (h:FormedM m) (hk:m.kind=5) (hl:(enc (contentF m)).length≤2147483647):Rd.contentR (ofK m.id 5) (contentF m)=some (noCt m,[]):=by
 have hb:=h.ok
 have hkept:=h.kept
 unfold keptM at hkept
 simp only[hk] at hkept
 have e:Rd.contentR (ofK m.id 5)=Rd.resultR (ofK m.id 5):=rfl
 have ec:contentF m=numF 0x0a m.code::textF m.matched::textF m.text::refsF m.refs:=by unfold contentF;simp only[hk];rfl
 rw[ec] at hl
 rw[e,ec]
 have ha:=(enc_cons_le (enc_cons_le (enc_cons_le hl).2).2).2
 have hh:=then_enc (then_enc (then_enc (upd_enc (m:=ofK m.id 5) (u:=fun (m:MT) (x:Int)=>({ m with code:=x }:MT)) (num_enc 0x0a m.code 2147483647 (textF m.matched::textF m.text::refsF m.refs) hb.ints.2.2.2.2.1 hb.ints.2.2.2.2.2 (by omega)))
  (upd_enc (u:=fun (m:MT) (x:List UInt8)=>({ m with matched:=x }:MT)) (text_enc m.matched _ hb.texts.2.2.2.2.2.2.1))) (upd_enc (u:=fun (m:MT) (x:List UInt8)=>({ m with text:=x }:MT)) (text_enc m.text _ hb.texts.2.2.2.2.2.2.2))) (refs_enc _ m.refs rfl hb.refs ha)
 exact some_eq hh (noCt_eq hkept)
theorem contentE_result7 (m:MT) (h:FormedM m) (hk:m.kind=7) (hl:(enc (contentF m)).length≤2147483647):Rd.contentR (ofK m.id 7) (contentF m)=some (noCt m,[]):=by
 have hb:=h.ok
 have hkept:=h.kept
 unfold keptM at hkept
 simp only[hk] at hkept
 have e:Rd.contentR (ofK m.id 7)=Rd.resultR (ofK m.id 7):=rfl
 have ec:contentF m=numF 0x0a m.code::textF m.matched::textF m.text::refsF m.refs:=by unfold contentF;simp only[hk];rfl
 rw[ec] at hl
 rw[e,ec]
 have ha:=(enc_cons_le (enc_cons_le (enc_cons_le hl).2).2).2
 have hh:=then_enc (then_enc (then_enc (upd_enc (m:=ofK m.id 7) (u:=fun (m:MT) (x:Int)=>({ m with code:=x }:MT)) (num_enc 0x0a m.code 2147483647 (textF m.matched::textF m.text::refsF m.refs) hb.ints.2.2.2.2.1 hb.ints.2.2.2.2.2 (by omega)))
  (upd_enc (u:=fun (m:MT) (x:List UInt8)=>({ m with matched:=x }:MT)) (text_enc m.matched _ hb.texts.2.2.2.2.2.2.1))) (upd_enc (u:=fun (m:MT) (x:List UInt8)=>({ m with text:=x }:MT)) (text_enc m.text _ hb.texts.2.2.2.2.2.2.2))) (refs_enc _ m.refs rfl hb.refs ha)
 exact some_eq hh (noCt_eq hkept)
theorem contentE_result9 (m:MT) (h:FormedM m) (hk:m.kind=9) (hl:(enc (contentF m)).length≤2147483647):Rd.contentR (ofK m.id 9) (contentF m)=some (noCt m,[]):=by
 have hb:=h.ok
 have hkept:=h.kept
 unfold keptM at hkept
 simp only[hk] at hkept
 have e:Rd.contentR (ofK m.id 9)=Rd.resultR (ofK m.id 9):=rfl
 have ec:contentF m=numF 0x0a m.code::textF m.matched::textF m.text::refsF m.refs:=by unfold contentF;simp only[hk];rfl
 rw[ec] at hl
 rw[e,ec]
 have ha:=(enc_cons_le (enc_cons_le (enc_cons_le hl).2).2).2
 have hh:=then_enc (then_enc (then_enc (upd_enc (m:=ofK m.id 9) (u:=fun (m:MT) (x:Int)=>({ m with code:=x }:MT)) (num_enc 0x0a m.code 2147483647 (textF m.matched::textF m.text::refsF m.refs) hb.ints.2.2.2.2.1 hb.ints.2.2.2.2.2 (by omega)))
  (upd_enc (u:=fun (m:MT) (x:List UInt8)=>({ m with matched:=x }:MT)) (text_enc m.matched _ hb.texts.2.2.2.2.2.2.1))) (upd_enc (u:=fun (m:MT) (x:List UInt8)=>({ m with text:=x }:MT)) (text_enc m.text _ hb.texts.2.2.2.2.2.2.2))) (refs_enc _ m.refs rfl hb.refs ha)
 exact some_eq hh (noCt_eq hkept)
theorem contentE_result11 (m:MT) (h:FormedM m) (hk:m.kind=11) (hl:(enc (contentF m)).length≤2147483647):Rd.contentR (ofK m.id 11) (contentF m)=some (noCt m,[]):=by
 have hb:=h.ok
 have hkept:=h.kept
 unfold keptM at hkept
 simp only[hk] at hkept
 have e:Rd.contentR (ofK m.id 11)=Rd.resultR (ofK m.id 11):=rfl
 have ec:contentF m=numF 0x0a m.code::textF m.matched::textF m.text::refsF m.refs:=by unfold contentF;simp only[hk];rfl
 rw[ec] at hl
 rw[e,ec]
 have ha:=(enc_cons_le (enc_cons_le (enc_cons_le hl).2).2).2
 have hh:=then_enc (then_enc (then_enc (upd_enc (m:=ofK m.id 11) (u:=fun (m:MT) (x:Int)=>({ m with code:=x }:MT)) (num_enc 0x0a m.code 2147483647 (textF m.matched::textF m.text::refsF m.refs) hb.ints.2.2.2.2.1 hb.ints.2.2.2.2.2 (by omega)))
  (upd_enc (u:=fun (m:MT) (x:List UInt8)=>({ m with matched:=x }:MT)) (text_enc m.matched _ hb.texts.2.2.2.2.2.2.1))) (upd_enc (u:=fun (m:MT) (x:List UInt8)=>({ m with text:=x }:MT)) (text_enc m.text _ hb.texts.2.2.2.2.2.2.2))) (refs_enc _ m.refs rfl hb.refs ha)
 exact some_eq hh (noCt_eq hkept)
theorem contentE_result13 (m:MT) (h:FormedM m) (hk:m.kind=13) (hl:(enc (contentF m)).length≤2147483647):Rd.contentR (ofK m.id 13) (contentF m)=some (noCt m,[]):=by
 have hb:=h.ok
 have hkept:=h.kept
 unfold keptM at hkept
 simp only[hk] at hkept
 have e:Rd.contentR (ofK m.id 13)=Rd.resultR (ofK m.id 13):=rfl
 have ec:contentF m=numF 0x0a m.code::textF m.matched::textF m.text::refsF m.refs:=by unfold contentF;simp only[hk];rfl
 rw[ec] at hl
 rw[e,ec]
 have ha:=(enc_cons_le (enc_cons_le (enc_cons_le hl).2).2).2
 have hh:=then_enc (then_enc (then_enc (upd_enc (m:=ofK m.id 13) (u:=fun (m:MT) (x:Int)=>({ m with code:=x }:MT)) (num_enc 0x0a m.code 2147483647 (textF m.matched::textF m.text::refsF m.refs) hb.ints.2.2.2.2.1 hb.ints.2.2.2.2.2 (by omega)))
  (upd_enc (u:=fun (m:MT) (x:List UInt8)=>({ m with matched:=x }:MT)) (text_enc m.matched _ hb.texts.2.2.2.2.2.2.1))) (upd_enc (u:=fun (m:MT) (x:List UInt8)=>({ m with text:=x }:MT)) (text_enc m.text _ hb.texts.2.2.2.2.2.2.2))) (refs_enc _ m.refs rfl hb.refs ha)
 exact some_eq hh (noCt_eq hkept)
theorem contentE_result15 (m:MT) (h:FormedM m) (hk:m.kind=15) (hl:(enc (contentF m)).length≤2147483647):Rd.contentR (ofK m.id 15) (contentF m)=some (noCt m,[]):=by
 have hb:=h.ok
 have hkept:=h.kept
 unfold keptM at hkept
 simp only[hk] at hkept
 have e:Rd.contentR (ofK m.id 15)=Rd.resultR (ofK m.id 15):=rfl
 have ec:contentF m=numF 0x0a m.code::textF m.matched::textF m.text::refsF m.refs:=by unfold contentF;simp only[hk];rfl
 rw[ec] at hl
 rw[e,ec]
 have ha:=(enc_cons_le (enc_cons_le (enc_cons_le hl).2).2).2
 have hh:=then_enc (then_enc (then_enc (upd_enc (m:=ofK m.id 15) (u:=fun (m:MT) (x:Int)=>({ m with code:=x }:MT)) (num_enc 0x0a m.code 2147483647 (textF m.matched::textF m.text::refsF m.refs) hb.ints.2.2.2.2.1 hb.ints.2.2.2.2.2 (by omega)))
  (upd_enc (u:=fun (m:MT) (x:List UInt8)=>({ m with matched:=x }:MT)) (text_enc m.matched _ hb.texts.2.2.2.2.2.2.1))) (upd_enc (u:=fun (m:MT) (x:List UInt8)=>({ m with text:=x }:MT)) (text_enc m.text _ hb.texts.2.2.2.2.2.2.2))) (refs_enc _ m.refs rfl hb.refs ha)
 exact some_eq hh (noCt_eq hkept)
theorem contentE_result24 (m:MT) (h:FormedM m) (hk:m.kind=24) (hl:(enc (contentF m)).length≤2147483647):Rd.contentR (ofK m.id 24) (contentF m)=some (noCt m,[]):=by
 have hb:=h.ok
 have hkept:=h.kept
 unfold keptM at hkept
 simp only[hk] at hkept
 have e:Rd.contentR (ofK m.id 24)=Rd.resultR (ofK m.id 24):=rfl
 have ec:contentF m=numF 0x0a m.code::textF m.matched::textF m.text::refsF m.refs:=by unfold contentF;simp only[hk];rfl
 rw[ec] at hl
 rw[e,ec]
 have ha:=(enc_cons_le (enc_cons_le (enc_cons_le hl).2).2).2
 have hh:=then_enc (then_enc (then_enc (upd_enc (m:=ofK m.id 24) (u:=fun (m:MT) (x:Int)=>({ m with code:=x }:MT)) (num_enc 0x0a m.code 2147483647 (textF m.matched::textF m.text::refsF m.refs) hb.ints.2.2.2.2.1 hb.ints.2.2.2.2.2 (by omega)))
  (upd_enc (u:=fun (m:MT) (x:List UInt8)=>({ m with matched:=x }:MT)) (text_enc m.matched _ hb.texts.2.2.2.2.2.2.1))) (upd_enc (u:=fun (m:MT) (x:List UInt8)=>({ m with text:=x }:MT)) (text_enc m.text _ hb.texts.2.2.2.2.2.2.2))) (refs_enc _ m.refs rfl hb.refs ha)
 exact some_eq hh (noCt_eq hkept)
theorem oper_plain (m:MT) (hf:m.kind=3→m.filt.formed=true):Plain (contentF m):=by
 unfold contentF
 have p1:∀s,(textF s).1.toNat % 32≠31:=fun s=>by simp[textF]
 have p3:∀b,(flagF b).1.toNat % 32≠31:=fun s=>by simp[flagF]
 have n2:∀n,(numF 2 n).1.toNat % 32≠31:=fun n=>by simp[numF]
 have n10:∀n,(numF 0x0a n).1.toNat % 32≠31:=fun n=>by simp[numF]
 have l48:∀c,((0x30,c):Fd).1.toNat % 32≠31:=fun c=>by simp
 split
 ·exact plain_nil
 split
 ·exact plain_cons (n2 _) (plain_cons (p1 _) (plain_cons (by simp) plain_nil))
 split
 ·rename_i h3
  refine plain_cons (p1 _) (plain_cons (n10 _) (plain_cons (n10 _) (plain_cons (n2 _) (plain_cons (n2 _) (plain_cons (p3 _) (plain_cons ?_ (plain_cons (l48 _) plain_nil)))))))
  have h:=hf h3
  simp only[FT.formed,Bool.and_eq_true] at h
  refine filterF_plain m.filt ?_
  obtain⟨_,h⟩:=h
  cases hm:m.filt with
  | mk=>
   rw[hm] at h
   simp only[FT.all,Bool.and_eq_true] at h
   exact h.1
 split
 ·exact plain_cons (p1 _) (plain_cons (l48 _) plain_nil)
 split
 ·exact plain_cons (p1 _) (plain_cons (l48 _) plain_nil)
 split
 ·refine plain_app (plain_cons (p1 _) (plain_cons (p1 _) (plain_cons (p3 _) plain_nil))) ?_
  unfold supF
  split
  ·exact plain_cons (by simp) plain_nil
  ·exact plain_nil
 split
 ·exact plain_cons (p1 _) (plain_cons (l48 _) plain_nil)
 split
 ·exact plain_map p1
 ·refine plain_app (plain_cons (n10 _) (plain_cons (p1 _) (plain_cons (p1 _) plain_nil))) ?_
  unfold refsF
  split
  ·exact plain_nil
  ·exact plain_cons (by simp) plain_nil
theorem contentE (m:MT) (h:FormedM m) (hk:m.kind≠10∧m.kind≠16∧m.kind≠19) (hl:(enc (contentF m)).length≤2147483647):Rd.contentR (ofK m.id m.kind) (contentF m)=some (noCt m,[]):=by
 have hn:=h.known
 unfold knownK at hn
 have hc:m.kind=0∨m.kind=1∨m.kind=2∨m.kind=3∨m.kind=4∨m.kind=5∨m.kind=6∨m.kind=7∨m.kind=8∨m.kind=9∨m.kind=11∨m.kind=12∨m.kind=13∨m.kind=14∨m.kind=15∨m.kind=24:=by omega
 rcases hc with k | k | k | k | k | k | k | k | k | k | k | k | k | k | k | k
 ·rw [k];exact contentE_bind m h k hl
 ·rw [k];exact contentE_result1 m h k hl
 ·rw [k];exact contentE_unbind m h k hl
 ·rw [k];exact contentE_search m h k hl
 ·rw [k];exact contentE_entry m h k hl
 ·rw [k];exact contentE_result5 m h k hl
 ·rw [k];exact contentE_modify m h k hl
 ·rw [k];exact contentE_result7 m h k hl
 ·rw [k];exact contentE_add m h k hl
 ·rw [k];exact contentE_result9 m h k hl
 ·rw [k];exact contentE_result11 m h k hl
 ·rw [k];exact contentE_modName m h k hl
 ·rw [k];exact contentE_result13 m h k hl
 ·rw [k];exact contentE_compare m h k hl
 ·rw [k];exact contentE_result15 m h k hl
 ·rw [k];exact contentE_result24 m h k hl
theorem operE (m:MT) (r:List Fd) (h:FormedM m) (hl:(operF m).2.length≤2147483647):Rd.operR (ofK m.id 0) (operF m::r)=some (noCt m,r):=by
 obtain⟨h1,h2,h3⟩:=oper_tag m.kind h.known
 have hb:=h.ok
 have hkept:=h.kept
 unfold keptM at hkept
 unfold operF at hl ⊢
 unfold Rd.operR
 simp only[h1]
 rw[if_pos h2]
 by_cases h10:m.kind=10
 ·rw [if_pos h10]
  simp only[h10] at hkept ⊢
  have hh:=upd_enc (u:=fun (m:MT) (x:List UInt8)=>({ m with name:=x }:MT)) (m:=ofK m.id 10) (tagged_enc (operTag 10) m.name r hb.texts.1)
  exact hh.trans (congrArg (fun x=>some (x,r)) (noCt_eq hkept))
 ·rw [if_neg h10] at hl ⊢
  by_cases h16:m.kind=16
  ·rw [if_pos h16]
   simp only[h16] at hkept ⊢
   have hh:=upd_enc (u:=fun (m:MT) (x:Int)=>({ m with target:=x }:MT)) (m:=ofK m.id 16) (num_enc (operTag 16) m.target 2147483647 r hb.ints.2.2.2.1.1 hb.ints.2.2.2.1.2 (by omega))
   exact hh.trans (congrArg (fun x=>some (x,r)) (noCt_eq hkept))
  ·rw [if_neg h16] at hl ⊢
   by_cases h19:m.kind=19
   ·rw [if_pos h19]
    have hr0:=hb.refs0 h19
    have ec:contentF m=m.refs.map textF:=by unfold contentF;simp only[h19];rfl
    rw[ec] at hl ⊢
    simp only[h19] at hkept ⊢
    have hh:=upd_enc (u:=fun (m:MT) (x:List (List UInt8))=>({ m with refs:=x }:MT)) (m:=ofK m.id 19) (some_enc (t:=operTag 19) m.refs r hr0 (fun x hx r=>text_enc x r (hb.refs x hx)) (plain_map fun x=>by simp[textF]) hl)
    exact hh.trans (congrArg (fun x=>some (x,r)) (noCt_eq hkept))
   ·rw [if_neg h19]
    simp only[if_neg h10,if_neg h16]
    have hh:=inner_enc (t:=operTag m.kind) (r:=r) (oper_plain m hb.filt) hl (contentE m h ⟨h10,h16,h19⟩ hl)
    exact (upd_enc (u:=fun (_:MT) (x:MT)=>x) (m:=ofK m.id m.kind) hh)
theorem messageE (m:MT) (h:FormedM m) (hl:(enc (numF 2 m.id::operF m::ctlsF m.ctls)).length≤2147483647):Rd.messageR (numF 2 m.id::operF m::ctlsF m.ctls)=some (m,[]):=by
 have h1:=(enc_cons_le hl).2
 have h2:=(enc_cons_le h1).1
 have h3:=(enc_cons_le h1).2
 have hc:Rd.ctlsR (noCt m) (ctlsF m.ctls)=some (m,[]):=by
  unfold Rd.ctlsR ctlsF at *
  by_cases h0:m.ctls=[]
  ·rw [if_pos h0,if_pos rfl]
   show some (({ m with ctls:=[] }:MT),([]:List Fd))=some (m,[])
   rw[←h0]
  ·rw [if_neg h0] at h3 ⊢
   have h4:=(enc_cons_le h3).1
   rw[if_neg (by simp),some_enc m.ctls [] h0 (fun x hx r=>control_enc x r (h.ok.ctls x hx) (Nat.le_trans (enc_mem (List.mem_map_of_mem hx)) h4)) (plain_map controlF_tag) h4]
   rfl
 exact then_enc (then_enc (upd_enc (u:=fun (m:MT) (x:Int)=>({ m with id:=x }:MT)) (m:=zeroM) (num_enc 2 m.id 2147483647 _ h.ok.ints.1.1 h.ok.ints.1.2 (by omega))) (operE m _ h h2)) hc
theorem decode_bytes (m:MT) (h:FormedM m) (hl:(bytesW m).length≤16384):Rd.decode (bytesW m)=some m:=by
 unfold Rd.decode
 rw[if_pos hl]
 have h1:(enc (numF 2 m.id::operF m::ctlsF m.ctls)).length≤16384:=by
  have:=enc_mem (F:=[messageF m]) (f:=messageF m) (by simp)
  exact Nat.le_trans this hl
 have hp:Plain (numF 2 m.id::operF m::ctlsF m.ctls):=by
  refine plain_cons (by simp[numF]) (plain_cons (oper_tag m.kind h.known).2.2 ?_)
  unfold ctlsF
  split
  ·exact plain_nil
  ·exact plain_cons (by simp) plain_nil
 have h2:=inner_enc (t:=0x30) (r:=[]) hp (by omega) (messageE m h (by omega))
 unfold Rd.wholeR bytesW
 rw[fields_enc [messageF m] (plain_cons (by simp[messageF]) plain_nil) (by unfold bytesW at hl;omega)]
 simp only
 unfold messageF
 rw[h2]
end Go.Proofs.YtpkedjohgmnhhaaGreat
