/- writeMessage of any message whose filter is formed. By an AI agent. -/
import Derived.Test.YtcpjmgfloimfhaaGreatMWrC
import Derived.Test.YtcpjmgfloimfhaaGreatMWrD
import Derived.Test.YtcpjmgfloimfhaaGreatLWrTwo
import Derived.Test.YtcpjmgfloimfhaaGreatM19
set_option linter.unusedSimpArgs false
set_option linter.unusedVariables false
set_option maxRecDepth 100000
set_option maxHeartbeats 32000000
namespace Go.Proofs.YtcpjmgfloimfhaaGreat
open Go.RowKit
structure MT.wide (m:MT):Prop where
 texts:m.name.length<=2000000/\m.pw.length<=2000000/\m.nrdn.length<=2000000/\m.sup.length<=2000000/\m.attr.length<=2000000/\m.value.length<=2000000/\m.matched.length<=2000000/\m.text.length<=2000000
 attrs:∀s∈m.attrs,s.length<=2000000
 refs:∀s∈m.refs,s.length<=2000000
 lst:∀a∈m.lst,wideA a
 chs:∀c∈m.chs,wideA c.2/\(-9223372036854775808<=c.1/\c.1<=9223372036854775807)
 ctls:∀c∈m.ctls,c.oid.length<=2000000/\c.value.length<=2000000
 ints:∀n∈[m.id,m.kind,m.ver,m.scope,m.deref,m.size,m.time,m.target,m.code],-9223372036854775808<=n/\n<=9223372036854775807
 filt:m.filt.formed=true/\m.filt.tiny
namespace Wr
def refsW (l:List (List UInt8)):List UInt8:=if l=[] then [] else Ber.fieldOf 0xa3 (eachGo (Ber.fieldOf 4) l [])
def ctlsW (l:List Ct):List UInt8:=if l=[] then [] else Ber.fieldOf 0xa0 (eachGo controlW l [])
def contentW (m:MT):List UInt8:=
 if m.kind=2 then [] else if m.kind=0 then [Ber.fieldOf 2 (Ber.intOfs m.ver),Ber.fieldOf 4 m.name,Ber.fieldOf 0x80 m.pw].flatten
 else if m.kind=3 then [Ber.fieldOf 4 m.name,Ber.fieldOf 10 (Ber.intOfs m.scope),Ber.fieldOf 10 (Ber.intOfs m.deref),Ber.fieldOf 2 (Ber.intOfs m.size),Ber.fieldOf 2 (Ber.intOfs m.time),Ber.fieldOf 1 [if m.tonly then 255 else 0],filterW m.filt,Ber.fieldOf 48 (eachGo (Ber.fieldOf 4) m.attrs [])].flatten
 else if m.kind=6 then [Ber.fieldOf 4 m.name,Ber.fieldOf 48 (eachGo changeW m.chs [])].flatten
 else if m.kind=8\/m.kind=4 then [Ber.fieldOf 4 m.name,Ber.fieldOf 48 (eachGo attrW m.lst [])].flatten
 else if m.kind=10 then m.name
 else if m.kind=12 then [Ber.fieldOf 4 m.name,Ber.fieldOf 4 m.nrdn,Ber.fieldOf 1 [if m.delold then 255 else 0]].flatten++(if m.hassup then Ber.fieldOf 0x80 m.sup else [])
 else if m.kind=14 then Ber.fieldOf 4 m.name++Ber.fieldOf 48 (Ber.fieldOf 4 m.attr++Ber.fieldOf 4 m.value)
 else if m.kind=16 then Ber.intOfs m.target
 else if m.kind=19 then eachGo (Ber.fieldOf 4) m.refs []
 else [Ber.fieldOf 10 (Ber.intOfs m.code),Ber.fieldOf 4 m.matched,Ber.fieldOf 4 m.text].flatten++refsW m.refs
def tagW (k:Int):UInt8:=UInt8.ofNat (opV k).toNat
def messageW (m:MT):List UInt8:=Ber.fieldOf 0x30 ((Ber.fieldOf 2 (Ber.intOfs m.id)++Ber.fieldOf (tagW m.kind) (contentW m))++ctlsW m.ctls)
theorem tagW_of (k:Int):opV k=((tagW k).toNat:Int):=by
 have h:0<=opV k/\opV k<256:=by
  unfold opV
  split<;>(simp only[IntKind.wrap,IntKind.signed,IntKind.bits];simp;omega)
 unfold tagW
 rw[UInt8.toNat_ofNat']
 omega
theorem int_len (t:UInt8) (n:Int):(Ber.fieldOf t (Ber.intOfs n)).length<=20:=by
 have h1:=field_len t (Ber.intOfs n)
 have h2:=Ber.isize_le n
 have h3:=Ber.intOfs_length n
 omega
theorem flag_len (b:Bool):(Ber.fieldOf 1 [if b then (255:UInt8) else 0]).length<=20:=by
 have h1:=field_len 1 [if b then (255:UInt8) else 0]
 simp only[List.length_singleton] at h1
 omega
theorem textsW_len (t:UInt8) {L:List (List UInt8)} (h:∀s∈L,s.length<=2000000):(Ber.fieldOf t (eachGo (Ber.fieldOf 4) L [])).length<=2100000/\(eachGo (Ber.fieldOf 4) L []).length<=2100000:=by
 have h1:=eachGo_len (f:=Ber.fieldOf 4) (K:=2000010) L [] (fun x hx=>zAk (h x hx) 4)
 have h2:=field_len t (eachGo (Ber.fieldOf 4) L [])
 simp only[List.length_nil] at h1
 omega
theorem attrsW_len {L:List Atr} (h:∀a∈L,wideA a):(Ber.fieldOf 48 (eachGo attrW L [])).length<=5100000:=by
 have h1:=eachGo_len (f:=attrW) (K:=5000000) L [] (fun x hx=>attrW_len (h x hx))
 have h2:=field_len 48 (eachGo attrW L [])
 simp only[List.length_nil] at h1
 omega
theorem changesW_len {L:List (Int × Atr)} (h:∀a∈L,wideA a.2):(Ber.fieldOf 48 (eachGo changeW L [])).length<=5100000:=by
 have h1:=eachGo_len (f:=changeW) (K:=5000100) L [] (fun x hx=>changeW_len (h x hx))
 have h2:=field_len 48 (eachGo changeW L [])
 simp only[List.length_nil] at h1
 omega
theorem controlW_len {c:Ct} (h:c.oid.length<=2000000/\c.value.length<=2000000):(controlW c).length<=4100000:=by
 unfold controlW
 have h1:=field_len 4 c.oid
 have h2:=field_len 4 c.value
 have h3:=field_len 1 [255]
 have h4:=field_len 0x30 (Ber.fieldOf 4 c.oid++(if c.crit then Ber.fieldOf 1 [255] else [])++(if c.hasv then Ber.fieldOf 4 c.value else []))
 have h5:(if c.crit then Ber.fieldOf 1 [255] else ([]:List UInt8)).length<=20:=by
  split
  ·simp at h3;omega
  ·simp
 have h6:(if c.hasv then Ber.fieldOf 4 c.value else ([]:List UInt8)).length<=2000010:=by
  split
  ·omega
  ·simp
 simp only[List.length_append] at h4
 omega
theorem ctlsW_len {L:List Ct} (h:∀c∈L,c.oid.length<=2000000/\c.value.length<=2000000):(Ber.fieldOf 0xa0 (eachGo controlW L [])).length<=4200000:=by
 have h1:=eachGo_len (f:=controlW) (K:=4100000) L [] (fun x hx=>controlW_len (h x hx))
 have h2:=field_len 0xa0 (eachGo controlW L [])
 simp only[List.length_nil] at h1
 omega
end Wr
theorem cpost_of {bs:List UInt8} {w:World} {e:Ending} {w':World} (h:WPost bs w e w'):CPost bs w e w':=by
 obtain⟨v,rfl,hown,hb⟩:=h.out
 obtain⟨A,c,rfl,_,hA⟩:=own_form hown
 exact⟨⟨A,c,rfl,hA,hb⟩⟩
theorem wint_any (n:Int) (h: -9223372036854775808<=n/\n<=9223372036854775807) (W:World):Calls Tryz.prog 99 #[.int .i64 n] W (WPost (Ber.intOfs n) W):=
 (Ber.int_any n W h.1 h.2).mono fun e w' hp=>by
  obtain⟨g,he,ho,hb⟩:=hp
  exact⟨⟨_,he,ho,hb⟩⟩
theorem wcontent_any (w:World) (m:MT) (v:Value) (hm:repM w (inB w) m v) (hw:m.wide):Calls Tryz.prog 64 #[v] w (CPost (Wr.contentW m) w):=by
 have hm0:=hm
 obtain⟨f0,g1,g2,g3,g4,g5,g6,va,vl,vc,vr,vk,rfl,hX⟩:=hm
 obtain⟨cs,hcs⟩:∃cs,mcells m f0 g1 g2 g3 g4 g5 g6 va vl vc vr vk=cs:=⟨_,rfl⟩
 have hn:cs.length=32:=by rw[<-hcs];rfl
 have ht:=hw.texts
 have hi:∀n∈[m.id,m.kind,m.ver,m.scope,m.deref,m.size,m.time,m.target,m.code],-9223372036854775808<=n/\n<=9223372036854775807:=hw.ints
 have rX:∀W,Below w.heap.size w W->MReps W (inB W) m f0 g1 g2 g3 g4 g5 g6 va vl vc vr vk:=fun W hW=>hX.below hW
 have fn:=Wr.field_len 4 m.name
 have c1:cs[1]?=some (.int .i64 m.kind):=by rw[<-hcs];rfl
 have HT:∀s:List UInt8,s.length<=2000000->Hid (∀W,Below w.heap.size w W->Calls Tryz.prog 101 #[.string (txt s)] W (WPost (Ber.fieldOf 4 s) W)):=fun s hs=>hide fun W _=>zA0 s (by omega) W
 have HN:∀(t:UInt8) (n:Int),-9223372036854775808<=n/\n<=9223372036854775807->Hid (∀W,Below w.heap.size w W->Calls Tryz.prog 61 #[c8 t,.int .i64 n] W (WPost (Ber.fieldOf t (Ber.intOfs n)) W)):=fun t n h=>hide fun W _=>wnumber_any t n h.1 h.2 W
 have HTS:∀(t:UInt8) (L:List (List UInt8)) (u:Value),(∀W,Below w.heap.size w W->repL elT W (inB W) L u)->(∀s∈L,s.length<=2000000)->Hid (∀W,Below w.heap.size w W->Calls Tryz.prog 145 #[c8 t,u,.func (.func 101) #[] #[]] W (WPost (Ber.fieldOf t (Wr.eachGo (Ber.fieldOf 4) L [])) W)):=fun t L u hL hs=>hide fun W hW=>by
  have h1:=hL W hW
  obtain⟨A,n,c,rfl⟩:=zAt h1
  exact wlistT_any t 101 #[] (fun args w=>by go_simp) (Ber.fieldOf 4) L W A n c h1 (fun x hx=>by have:=zAk (hs x hx) 4;omega) (fun x hx V hV=>zA0 x (by have:=hs x hx;omega) V)
 by_cases k2:m.kind=2
 ·rw [show Wr.contentW m=[] by unfold Wr.contentW;rw[if_pos k2]]
  exact content_two w m _ hm0 k2
 by_cases k10:m.kind=10
 ·rw [show Wr.contentW m=m.name by unfold Wr.contentW;simp[k10]]
  exact content_ten w m _ hm0 k10
 rw[hcs] at hm0 ⊢
 by_cases k0:m.kind=0
 ·rw [show Wr.contentW m=[Ber.fieldOf 2 (Ber.intOfs m.ver),Ber.fieldOf 4 m.name,Ber.fieldOf 0x80 m.pw].flatten by unfold Wr.contentW;simp[k0]]
  rw[k0] at c1
  have f1:=Wr.int_len 2 m.ver
  have f2:=Wr.field_len 0x80 m.pw
  exact (wc_bind w cs hn c1 m.ver (by rw[<-hcs];rfl) (txt m.name) (by rw[<-hcs];rfl) (txt m.pw) (by rw[<-hcs];rfl) _ _ _ (by simp[tot];omega) (HN 2 m.ver (hi _ (by simp))) (HT _ ht.1) (hide fun W _=>zBb 0x80 m.pw (by omega) W)).mono fun e w' h=>cpost_of h
 by_cases k3:m.kind=3
 ·rw [show Wr.contentW m=[Ber.fieldOf 4 m.name,Ber.fieldOf 10 (Ber.intOfs m.scope),Ber.fieldOf 10 (Ber.intOfs m.deref),Ber.fieldOf 2 (Ber.intOfs m.size),Ber.fieldOf 2 (Ber.intOfs m.time),Ber.fieldOf 1 [if m.tonly then 255 else 0],Wr.filterW m.filt,Ber.fieldOf 48 (Wr.eachGo (Ber.fieldOf 4) m.attrs [])].flatten by unfold Wr.contentW;simp[k3]]
  rw[k3] at c1
  have f1:=Wr.int_len 10 m.scope
  have f2:=Wr.int_len 10 m.deref
  have f3:=Wr.int_len 2 m.size
  have f4:=Wr.int_len 2 m.time
  have f5:=Wr.flag_len m.tonly
  have f6:=(Wr.textsW_len 48 hw.attrs).1
  have fa:=formed_all hw.filt.1
  have f7:=filterW_len m.filt fa.1
  have f8:=Nat.mul_le_mul_left 30000 fa.2
  refine (wc_search w cs hn c1 _ (hide fun W hW=>?_)).mono fun e w' h=>cpost_of h
  have hup:∀W',Below W.heap.size W W'->Below w.heap.size w W':=fun W' h=>hW.trans (h.mono hW.size)
  refine wsearch_walk W cs hn (txt m.name) (by rw[<-hcs];rfl) m.scope (by rw[<-hcs];rfl) m.deref (by rw[<-hcs];rfl) m.size (by rw[<-hcs];rfl) m.time (by rw[<-hcs];rfl) m.tonly (by rw[<-hcs];rfl) f0 g1 g2 g3 g4 g5 g6 (fun j u hu=>?_) va (by rw[<-hcs];rfl) _ _ _ _ _ _ _ _ ?_
   (hide fun W' h=>(HT _ ht.1).out W' (hup W' h)) (hide fun W' h=>(HN 10 m.scope (hi _ (by simp))).out W' (hup W' h)) (hide fun W' h=>(HN 10 m.deref (hi _ (by simp))).out W' (hup W' h)) (hide fun W' h=>(HN 2 m.size (hi _ (by simp))).out W' (hup W' h)) (hide fun W' h=>(HN 2 m.time (hi _ (by simp))).out W' (hup W' h))
   (hide fun W' h=>wflag_any m.tonly W') (hide fun W' h=>wfilter_any m.filt fa.1 hw.filt.2 fa.2 W' _ (FInP.fin (B:=W'.heap.size) (fun k hk=>hk) (rX W' (hup W' h)).filt)) (hide fun W' h=>(HTS 48 m.attrs va (fun W hW=>(rX W hW).attrs) hw.attrs).out W' (hup W' h))
  ·rw [<-hcs]
   match j,hu with
   | 0,hu=>exact hu
   | 1,hu=>exact hu
   | 2,hu=>exact hu
   | 3,hu=>exact hu
   | 4,hu=>exact hu
   | 5,hu=>exact hu
   | 6,hu=>exact hu
  ·simp only[tot,List.flatten_cons,List.flatten_nil,List.append_nil,List.length_append];omega
 by_cases k6:m.kind=6
 ·rw [show Wr.contentW m=[Ber.fieldOf 4 m.name,Ber.fieldOf 48 (Wr.eachGo changeW m.chs [])].flatten by unfold Wr.contentW;simp[k6]]
  rw[k6] at c1
  have f1:=Wr.changesW_len (fun a ha=>(hw.chs a ha).1)
  refine (wc_modify w cs hn c1 (txt m.name) (by rw[<-hcs];rfl) vc (by rw[<-hcs];rfl) _ _ (by simp[tot];omega) (HT _ ht.1) (hide fun W hW=>?_)).mono fun e w' h=>cpost_of h
  have h1:=(rX W hW).chs
  obtain⟨A,n,c,rfl⟩:=zAt h1
  exact wlistH_any 48 105 #[] (fun args w=>by go_simp) changeW m.chs W A n c h1 (fun x hx=>by have:=changeW_len (hw.chs x hx).1;omega) (fun x hx V cs hV hr=>by simpa using wchange_any x (hw.chs x hx).1 (hw.chs x hx).2 V cs hr)
 by_cases k8:m.kind=8
 ·rw [show Wr.contentW m=[Ber.fieldOf 4 m.name,Ber.fieldOf 48 (Wr.eachGo attrW m.lst [])].flatten by unfold Wr.contentW;simp[k8]]
  rw[k8] at c1
  have f1:=Wr.attrsW_len hw.lst
  refine (wc_add w cs hn c1 (txt m.name) (by rw[<-hcs];rfl) vl (by rw[<-hcs];rfl) _ _ (by simp[tot];omega) (HT _ ht.1) (hide fun W hW=>?_)).mono fun e w' h=>cpost_of h
  have h1:=(rX W hW).lst
  obtain⟨A,n,c,rfl⟩:=zAt h1
  exact wlistA_any 48 107 #[] (fun args w=>by go_simp) attrW m.lst W A n c h1 (fun x hx=>by have:=attrW_len (hw.lst x hx);omega) (fun x hx V cs hV hr=>by simpa using wattr_any x (hw.lst x hx) V cs hr)
 by_cases k4:m.kind=4
 ·rw [show Wr.contentW m=[Ber.fieldOf 4 m.name,Ber.fieldOf 48 (Wr.eachGo attrW m.lst [])].flatten by unfold Wr.contentW;simp[k4]]
  rw[k4] at c1
  have f1:=Wr.attrsW_len hw.lst
  refine (wc_entry w cs hn c1 (txt m.name) (by rw[<-hcs];rfl) vl (by rw[<-hcs];rfl) _ _ (by simp[tot];omega) (HT _ ht.1) (hide fun W hW=>?_)).mono fun e w' h=>cpost_of h
  have h1:=(rX W hW).lst
  obtain⟨A,n,c,rfl⟩:=zAt h1
  exact wlistA_any 48 107 #[] (fun args w=>by go_simp) attrW m.lst W A n c h1 (fun x hx=>by have:=attrW_len (hw.lst x hx);omega) (fun x hx V cs hV hr=>by simpa using wattr_any x (hw.lst x hx) V cs hr)
 by_cases k12:m.kind=12
 ·rw [show Wr.contentW m=[Ber.fieldOf 4 m.name,Ber.fieldOf 4 m.nrdn,Ber.fieldOf 1 [if m.delold then 255 else 0]].flatten++(if m.hassup then Ber.fieldOf 0x80 m.sup else []) by unfold Wr.contentW;simp[k12]]
  rw[k12] at c1
  have f1:=Wr.field_len 4 m.nrdn
  have f2:=Wr.flag_len m.delold
  have f3:=Wr.field_len 0x80 m.sup
  refine (wc_modname w cs hn c1 _ (hide fun W hW=>?_)).mono fun e w' h=>cpost_of h
  have hup:∀W',Below W.heap.size W W'->Below w.heap.size w W':=fun W' h=>hW.trans (h.mono hW.size)
  cases hs:m.hassup with
  | true=>
   rw[show (if (true:Bool)=true then Ber.fieldOf 0x80 m.sup else ([]:List UInt8))=Ber.fieldOf 0x80 m.sup from rfl]
   exact wmodname_y W cs hn (txt m.name) (by rw[<-hcs];rfl) (txt m.nrdn) (by rw[<-hcs];rfl) m.delold (by rw[<-hcs];rfl) (by rw[<-hcs,<-hs];rfl) (txt m.sup) (by rw[<-hcs];rfl) _ (by omega) _ _ _ (by simp only[tot,List.flatten_cons,List.flatten_nil,List.append_nil,List.length_append];omega)
    (hide fun W' h=>(HT _ ht.1).out W' (hup W' h)) (hide fun W' h=>(HT _ ht.2.2.1).out W' (hup W' h)) (hide fun W' h=>wflag_any m.delold W') (hide fun W' h=>zBb 0x80 m.sup (by omega) W')
  | false=>
   rw[show (if (false:Bool)=true then Ber.fieldOf 0x80 m.sup else ([]:List UInt8))=[] from rfl,List.append_nil]
   exact wmodname_n W cs hn (txt m.name) (by rw[<-hcs];rfl) (txt m.nrdn) (by rw[<-hcs];rfl) m.delold (by rw[<-hcs];rfl) (by rw[<-hcs,<-hs];rfl) _ _ _ (by simp only[tot,List.flatten_cons,List.flatten_nil,List.append_nil,List.length_append];omega)
    (hide fun W' h=>(HT _ ht.1).out W' (hup W' h)) (hide fun W' h=>(HT _ ht.2.2.1).out W' (hup W' h)) (hide fun W' h=>wflag_any m.delold W')
 by_cases k14:m.kind=14
 ·rw [show Wr.contentW m=Ber.fieldOf 4 m.name++Ber.fieldOf 48 (Ber.fieldOf 4 m.attr++Ber.fieldOf 4 m.value) by unfold Wr.contentW;simp[k14]]
  rw[k14] at c1
  have f1:=Wr.field_len 4 m.attr
  have f2:=Wr.field_len 4 m.value
  exact (wc_compare w cs hn c1 (txt m.name) (by rw[<-hcs];rfl) (txt m.attr) (by rw[<-hcs];rfl) (txt m.value) (by rw[<-hcs];rfl) _ _ _ ⟨by omega,by omega,by omega⟩ (HT _ ht.1) (HT _ ht.2.2.2.2.1) (HT _ ht.2.2.2.2.2.1)).mono fun e w' h=>cpost_of h
 by_cases k16:m.kind=16
 ·rw [show Wr.contentW m=Ber.intOfs m.target by unfold Wr.contentW;simp[k16]]
  rw[k16] at c1
  exact (wc_abandon w cs hn c1 m.target (by rw[<-hcs];rfl) _ (hide fun W hW=>wint_any m.target (hi _ (by simp)) W)).mono fun e w' h=>cpost_of h
 by_cases k19:m.kind=19
 ·rw [show Wr.contentW m=Wr.eachGo (Ber.fieldOf 4) m.refs [] by unfold Wr.contentW;simp[k19]]
  rw[k19] at c1
  refine (wc_refs w cs hn c1 vr (by rw[<-hcs];rfl) _ (hide fun W hW=>?_)).mono fun e w' h=>cpost_of h
  have h1:=(rX W hW).refs
  obtain⟨A,n,c,rfl⟩:=zAt h1
  exact weachT_any 101 #[] (fun args w=>by go_simp) (Ber.fieldOf 4) m.refs W A n c h1 (fun x hx=>by have:=zAk (hw.refs x hx) 4;omega) (fun x hx V hV=>zA0 x (by have:=hw.refs x hx;omega) V)
 ·rw [show Wr.contentW m=[Ber.fieldOf 10 (Ber.intOfs m.code),Ber.fieldOf 4 m.matched,Ber.fieldOf 4 m.text].flatten++Wr.refsW m.refs by unfold Wr.contentW;rw[if_neg k2,if_neg k0,if_neg k3,if_neg k6,if_neg (by omega),if_neg k10,if_neg k12,if_neg k14,if_neg k16,if_neg k19]]
  have f1:=Wr.int_len 10 m.code
  have f2:=Wr.field_len 4 m.matched
  have f3:=Wr.field_len 4 m.text
  have f4:=(Wr.textsW_len 163 hw.refs).1
  refine (wc_result w cs hn m.kind ⟨beq_false_of_ne k2,beq_false_of_ne k0,beq_false_of_ne k3,beq_false_of_ne k6,beq_false_of_ne k8,beq_false_of_ne k4,beq_false_of_ne k10,beq_false_of_ne k12,beq_false_of_ne k14,beq_false_of_ne k16,beq_false_of_ne k19⟩ c1 _ (hide fun W hW=>?_)).mono fun e w' h=>cpost_of h
  have hup:∀W',Below W.heap.size W W'->Below w.heap.size w W':=fun W' h=>hW.trans (h.mono hW.size)
  have hr:=hX.refs
  obtain⟨A,c,xs,e,hle,-,-⟩:=hr
  by_cases hr0:m.refs=[]
  ·rw [show Wr.refsW m.refs=[] by unfold Wr.refsW;rw[if_pos hr0],List.append_nil]
   exact wresult_n W cs hn m.code (by rw[<-hcs];rfl) (txt m.matched) (by rw[<-hcs];rfl) (txt m.text) (by rw[<-hcs];rfl) A c (by rw[<-hcs,e,hr0];rfl) _ _ _ (by simp only[tot,List.flatten_cons,List.flatten_nil,List.append_nil,List.length_append];omega)
    (hide fun W' h=>(HN 10 m.code (hi _ (by simp))).out W' (hup W' h)) (hide fun W' h=>(HT _ ht.2.2.2.2.2.2.1).out W' (hup W' h)) (hide fun W' h=>(HT _ ht.2.2.2.2.2.2.2).out W' (hup W' h))
  ·rw [show Wr.refsW m.refs=Ber.fieldOf 0xa3 (Wr.eachGo (Ber.fieldOf 4) m.refs []) by unfold Wr.refsW;rw[if_neg hr0]]
   have hpos:=List.length_pos_iff.2 hr0
   exact wresult_y W cs hn m.code (by rw[<-hcs];rfl) (txt m.matched) (by rw[<-hcs];rfl) (txt m.text) (by rw[<-hcs];rfl) A m.refs.length c hpos (by omega) (by rw[<-hcs,e];rfl) _ (by omega) _ _ _ (by simp only[tot,List.flatten_cons,List.flatten_nil,List.append_nil,List.length_append];omega)
    (hide fun W' h=>(HN 10 m.code (hi _ (by simp))).out W' (hup W' h)) (hide fun W' h=>(HT _ ht.2.2.2.2.2.2.1).out W' (hup W' h)) (hide fun W' h=>(HT _ ht.2.2.2.2.2.2.2).out W' (hup W' h)) (hide fun W' h=>by have:=(HTS 0xa3 m.refs vr (fun W hW=>(rX W hW).refs) hw.refs).out W' (hup W' h);rwa [e] at this)
theorem wmsg_walk (w:World) (cs:List Value) (hn:cs.length=32) (n0:Int) (hx0:cs[0]?=some (.int .i64 n0)) (n1:Int) (hx1:cs[1]?=some (.int .i64 n1)) (A:Option Addr) (na c:Nat) (hna:0<na) (hnm:(na:Int)<=9223372036854775807) (hx31:cs[31]?=some (.slice A na c))
  (t:UInt8) (l1 cb le:List UInt8) (hl1:l1.length<=20) (hcb:cb.length<=100000000) (hle:le.length<=100000000)
  (K1:Hid (∀W,Below w.heap.size w W->Calls Tryz.prog 61 #[.int .u8 2,.int .i64 n0] W (WPost l1 W))) (HTg:Hid (∀W,Calls Tryz.prog 63 #[.int .i64 n1] W fun e w'=>e=.returned (c8 t)/\w'=W))
  (KC:Hid (∀W,Below w.heap.size w W->Calls Tryz.prog 64 #[.agg cs.toArray] W (CPost cb W))) (KE:Hid (∀W,Below w.heap.size w W->Calls Tryz.prog 65 #[.int .u8 160,.slice A na c,.func (.func 66) #[] #[]] W (WPost le W))):
  Calls Tryz.prog 22 #[.agg cs.toArray] w (WPost (Ber.fieldOf 0x30 ((l1++Ber.fieldOf t cb)++le)) w):=by
 have h2:=Wr.field_len t cb
 obtain⟨l2,hl2⟩:∃l2,Ber.fieldOf t cb=l2:=⟨_,rfl⟩
 rw[hl2] at h2
 have HFc:Hid (∀(W:World) (A:Option Addr) (c':Nat),Has W W.heap.size 1 A cb.length (bys cb)->Calls Tryz.prog 62 #[c8 t,.slice A cb.length c'] W (WPost l2 W)):=hide fun W A c' hA=>by
  rw[<-hl2]
  refine (Ber.field_any t W W.heap.size A cb.length c' cb hA (Nat.le_refl _) (by omega)).mono ?_
  rintro e w2 ⟨v,rfl,ho,hb2⟩
  exact⟨⟨v,rfl,ho,hb2⟩⟩
 have HTHS:Hid (tot [l1,l2]<=300000000):=hide (by simp[tot];omega)
 obtain⟨bs,hbs⟩:∃bs,l1++l2=bs:=⟨_,rfl⟩
 have hbl:bs.length<=200000000:=by rw[<-hbs,List.length_append];omega
 obtain⟨ys,hys⟩:∃ys,bs++le=ys:=⟨_,rfl⟩
 obtain⟨zs,hzs⟩:∃zs,Ber.fieldOf 0x30 ys=zs:=⟨_,rfl⟩
 rw[hl2,hbs,hys,hzs]
 have HEHS:Hid (([l1,l2]:List (List UInt8)).flatten=bs):=hide (by rw[<-hbs];simp)
 have Hbd:Hid (bs.length+le.length<=100000000000):=hide (by omega)
 have Hyl:Hid (bs.length+le.length=ys.length):=hide (by rw[<-hys,List.length_append])
 have Hyn:Hid (ys.length<=500000000):=hide (by rw[<-hys,List.length_append];omega)
 have Hys:=hide hys
 have Hzs:=hide hzs
 obtain⟨tt,htt⟩:∃tt,c8 t=tt:=⟨_,rfl⟩
 rw[htt] at HTg HFc
 obtain⟨cn,hcn⟩:∃cn,cb.length=cn:=⟨_,rfl⟩
 have Hcn:=hide hcn
 clear hys hzs hbs hbl h2 hl2 hl1 hcb hle htt
 have hb1:Below w.heap.size w (w.alloc (.cells cs.toArray 42)):=(Below.refl _ _).alloc (Nat.le_refl _) _
 have hB1:Blk (w.alloc (.cells cs.toArray 42)) w.heap.size cs:=Blk.new w cs 42
 obtain⟨w1,hw1⟩:∃w1,w.alloc (.cells cs.toArray 42)=w1:=⟨_,rfl⟩
 rw[hw1] at hb1 hB1
 obtain⟨p1,hp1⟩:∃p1,w.heap.size=p1:=⟨_,rfl⟩
 rw[hp1] at hB1
 have KX:Hid (∀W,Below w1.heap.size w1 W->∀(i:Nat) (u:Value),cs[i]?=some u->W.cell? ⟨p1,i,none⟩=some u):=hide fun W hW i u hu=>(hB1.fr (Fr.of (X:=fun _=>False) hW) id).cells i u hu
 have HBl:=hide hB1
 have HBw:=hide hb1
 have Hw:=hide hw1
 have Hp:=hide hp1
 have HB0:Hid (Below w1.heap.size w1 w1.drew):=hide (Below.refl _ _).drew
 clear hb1 hB1 hw1 hp1
 go_enter Tryz.func22,Tryz.ntmps22
 go_upto_region 1 with fail
 rw[Hw.out]
 try rw[Hp.out]
 clear Hw
 have H1c:Hid (∀W,Below w1.heap.size w1 W->Calls Tryz.prog 61 #[.int .u8 2,.int .i64 n0] W (WPost l1 W)):=hide fun W hW=>K1.out W (HBw.out.trans (hW.mono HBw.out.size))
 have HCc:Hid (∀W,Below w1.heap.size w1 W->Calls Tryz.prog 64 #[.agg cs.toArray] W (CPost cb W)):=hide fun W hW=>KC.out W (HBw.out.trans (hW.mono HBw.out.size))
 have HEc:Hid (∀W,Below w1.heap.size w1 W->Calls Tryz.prog 65 #[.int .u8 160,.slice A na c,.func (.func 66) #[] #[]] W (WPost le W)):=hide fun W hW=>KE.out W (HBw.out.trans (hW.mono HBw.out.size))
 clear K1 KC KE hcn
 go_wp2_with fail
 refine zAs (by kernel_rfl) ?_
 generalize w1.drew=wd at *
 have HBc:=HB0
 refine zAa 0 (some 4) rfl rfl (by kernel_rfl) rfl (by rfl) (fun W hW=>by go_simp<;>with_reducible rfl) ?_
 try simp only[pU]
 refine zAa 1 (some 5) (v:=.int .i64 n0) rfl rfl (by kernel_rfl) rfl (by rfl) (fun W hW=>?ya1) ?_
 case ya1=>
  exact zAd _ _ _ rfl p1 0 rfl _ (loadI8 W _ _ (KX.out W (HB0.out.trans (hW.mono HB0.out.size)) 0 _ hx0))
 try simp only[pU]
 refine zAa 3 (some 7) rfl rfl (by kernel_rfl) rfl (by rfl) (fun W hW=>by go_simp<;>with_reducible rfl) ?_
 try simp only[pU]
 refine zAa 4 (some 8) (v:=.int .i64 n1) rfl rfl (by kernel_rfl) rfl (by rfl) (fun W hW=>?ya4) ?_
 case ya4=>
  exact zAd _ _ _ rfl p1 1 rfl _ (loadI8 W _ _ (KX.out W (HB0.out.trans (hW.mono HB0.out.size)) 1 _ hx1))
 try simp only[pU]
 refine zAa 6 (some 10) (v:=.agg cs.toArray) rfl rfl (by kernel_rfl) rfl (by rfl) (fun W hW=>?ya6) ?_
 case ya6=>
  exact zAd _ _ _ rfl p1 0 rfl _ (run_loadVar_mid W p1 0 42 cs _ (HBl.out.fr (Fr.of (X:=fun _=>False) (HB0.out.trans (hW.mono HB0.out.size))) id).range Tryz.underlying42 rfl (by rw[hn];kernel_rfl))
 try simp only[pU]
 refine zAc 2 rfl (by kernel_rfl) (fun K hK=>?_)
 go_simp
 refine (H1c.out _ HBc.out).mono ?_
 rintro e wk1 hpost
 obtain⟨v1,rfl,hown,hb⟩:=hpost.out
 obtain⟨A1,c1,rfl,-,hA⟩:=own_form hown
 have H1:=hide hA
 replace HBc:=hT HBc hb
 refine hK.out _ _ hb ?_
 clear hK K hb hpost hown hA
 try simp only[pU]
 refine zAc 5 rfl (by kernel_rfl) (fun K hK=>?_)
 go_simp
 refine (HTg.out _).mono ?_
 rintro e wq ⟨rfl,hwe⟩
 obtain rfl:=hwe.symm
 refine hK.out _ _ (Below.refl _ _) ?_
 clear hK K hwe
 try simp only[pU]
 refine zAc 7 rfl (by kernel_rfl) (fun K hK=>?_)
 go_simp
 refine (HCc.out _ HBc.out).mono ?_
 rintro e wk3 hpost
 obtain⟨A3,c3,rfl,hA,hb⟩:=hpost.out
 replace H1:=hide ((H1.out.below hb).upto hb.size)
 have H3:=hide hA
 replace HBc:=hT HBc hb
 refine hK.out _ _ hb ?_
 clear hK K hb hpost hA
 try simp only[pU]
 refine zAc 8 rfl (by kernel_rfl) (fun K hK=>?_)
 go_simp
 refine (HFc.out _ _ _ H3.out).mono ?_
 rintro e wk2 hpost
 obtain⟨v2,rfl,hown,hb⟩:=hpost.out
 obtain⟨A2,c2,rfl,-,hA⟩:=own_form hown
 clear H3
 replace H1:=hide ((H1.out.below hb).upto hb.size)
 have H2:=hide hA
 replace HBc:=hT HBc hb
 refine hK.out _ _ hb ?_
 clear hK K hb hpost hown hA
 try simp only[pU]
 refine zAc 9 rfl (by kernel_rfl) (fun K hK=>?_)
 go_simp
 have hb:Below wk2.heap.size wk2 (wk2.alloc (.cells #[.slice A1 l1.length c1,.slice A2 l2.length c2] 33)):=(Below.refl _ _).alloc (Nat.le_refl _) _
 have hblk:=Blk.new wk2 [.slice A1 l1.length c1,.slice A2 l2.length c2] 33
 have hS:SLs (wk2.alloc (.cells #[.slice A1 l1.length c1,.slice A2 l2.length c2] 33)) [l1,l2] (some ⟨wk2.heap.size,0,none⟩) 2:=SLs.blk hblk rfl rfl (fun i l hi=>by
  match i,hi with
  | 0,hi=>cases hi;exact⟨_,_,rfl,(H1.out.below hb).upto hb.size⟩
  | 1,hi=>cases hi;exact⟨_,_,rfl,(H2.out.below hb).upto hb.size⟩)
 obtain⟨wb,hwn⟩:∃wb,wk2.alloc (.cells #[.slice A1 l1.length c1,.slice A2 l2.length c2] 33)=wb:=⟨_,rfl⟩
 rw[hwn] at hb hS ⊢
 clear hblk hwn
 have HS:=hide hS
 replace HBc:=hT HBc hb
 refine hK.out _ _ hb ?_
 clear hK K hb hS H1 H2
 try simp only[pU]
 refine zAc 10 rfl (by kernel_rfl) (fun K hK=>?_)
 go_simp
 have hj:=zA9 wb _ 2 2 _ HS.out (by omega) (by have:=HTHS.out;omega)
 rw[HEHS.out] at hj
 refine hj.mono ?_
 rintro e wkr hpost
 obtain⟨vr,rfl,hown,hb⟩:=hpost.out
 have HOr:=hide (zAg hown HBc.out.size)
 replace HBc:=hT HBc hb
 refine hK.out _ _ hb ?_
 clear hK K hb hpost hown hj HS
 try simp only[pU]
 refine zAa 11 (some 3) rfl rfl (by kernel_rfl) rfl (by rfl) (fun W hW=>by go_simp<;>with_reducible rfl) ?_
 try simp only[pU]
 refine zAi (by kernel_rfl) ?_ _
 have kc:=KX.out _ HBc.out 31 _ hx31
 have hna2:(0:Int)<(na:Int):=by omega
 go_wp2_with (go_at_call 65;fail)
 refine (HEc.out _ HBc.out).mono ?_
 rintro e we hpost
 obtain⟨ve,rfl,hown,hb⟩:=hpost.out
 obtain⟨Ae,ce,rfl,-,hx⟩:=own_form hown
 have ho:=zAo HOr.out hb
 replace HBc:=hT HBc hb
 have hbz:=HBc.out.size
 have hbd:=Hbd.out
 clear hpost hown hb HOr kc
 go_wp2_with (at_builtin;go_must (refine app8g _ rfl (.tmp 19) (.tmp 22) rfl w1.heap.size _ _ bs rfl ho _ Ae _ ce le rfl hx ys Hys Hyl (by omega) hbz ?_))
 intro v9 w9 hor hb _
 have HO9:=hide (zAg hor HBw.out.size)
 replace HBc:=hide (HBc.out.trans hb)
 clear ho hx hbz hor hb hbd
 have hf:=zA8 (t:=0x30) HO9.out (HBw.out.trans (HBc.out.mono HBw.out.size)) (by have:=Hyn.out;omega)
 rw[Hzs.out] at hf
 have Hf:=hide hf
 clear hf HO9
 go_wp2_with (go_at_call 62;fail)
 refine Hf.out.mono ?_
 rintro e w10 hpost
 obtain⟨vz,rfl,hown,hb⟩:=hpost.out
 have HO10:=hide hown
 have HB10:=hide hb
 clear hpost hown hb Hf
 go_wp2
 go_ret
 exact⟨⟨_,rfl,HO10.out,HB10.out⟩⟩
theorem wmsg_any (w:World) (m:MT) (v:Value) (hm:repM w (inB w) m v) (hw:m.wide) (hcl:(Wr.contentW m).length<=100000000):Calls Tryz.prog 22 #[v] w (WPost (Wr.messageW m) w):=by
 have hC:∀W,Below w.heap.size w W->Calls Tryz.prog 64 #[v] W (CPost (Wr.contentW m) W):=fun W hW=>wcontent_any W m v (repM_below hm hW) hw
 have hid:=hw.ints m.id (by simp)
 unfold Wr.messageW Wr.ctlsW
 by_cases h0:m.ctls=[]
 ·rw [if_pos h0,List.append_nil]
  have:=write_of w m v hm (Wr.contentW m) (Wr.tagW m.kind) hid h0 (Wr.tagW_of m.kind) hcl hC
  simpa[Wr.enc,Wr.numF] using this
 ·rw [if_neg h0]
  have hm0:=hm
  obtain⟨f0,f1,f2,f3,f4,f5,f6,va,vl,vc,vr,vk,rfl,hX⟩:=hm
  have hk:=hX.ctls
  obtain⟨A,c,xs,e,hle,-,-⟩:=hk
  have hpos:=List.length_pos_iff.2 h0
  have hkl:=Wr.ctlsW_len hw.ctls
  refine wmsg_walk w _ rfl m.id rfl m.kind rfl A m.ctls.length c hpos (by omega) (by rw[e];rfl) (Wr.tagW m.kind) _ _ _ (Wr.int_len 2 m.id) hcl (by omega) (hide fun W _=>wnumber_any 2 m.id hid.1 hid.2 W) (hide fun W=>by have:=opTag_any W m.kind;rw[Wr.tagW_of m.kind] at this;exact this) (hide hC) (hide fun W hW=>?_)
  have h1:=(hX.below hW).ctls
  rw[e] at h1
  exact wlistC_any 0xa0 66 #[] (fun args w=>by go_simp) controlW m.ctls W A _ c h1 (fun x hx=>by have:=Wr.controlW_len (hw.ctls x hx);omega) (fun x hx V cs hV hr=>by simpa using wcontrol_any x (hw.ctls x hx).1 (hw.ctls x hx).2 V cs hr)
end Go.Proofs.YtcpjmgfloimfhaaGreat
