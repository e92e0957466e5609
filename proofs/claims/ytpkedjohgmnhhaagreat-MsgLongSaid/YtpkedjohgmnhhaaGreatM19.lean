/- Several texts in one: LGoodM, LGoodD, LLongM. By an AI agent. -/
import Derived.Test.YtpkedjohgmnhhaaGreatM06
import Derived.Test.YtpkedjohgmnhhaaGreatLEncM
import Derived.Test.YtpkedjohgmnhhaaGreatM02
set_option linter.unusedSimpArgs false
namespace Go.Proofs.YtpkedjohgmnhhaaGreat
open Go.RowKit
open Wr
set_option linter.unusedVariables false
theorem then_some {a b:Rd.MR} {m m2:MT} {F H:List Fd} (h:Rd.thenR a b m F=some (m2,H)):∃m1 G,a m F=some (m1,G)∧b m1 G=some (m2,H):=by
 unfold Rd.thenR at h
 cases h1:a m F with
 | none=>rw[h1] at h;cases h
 | some q=>
  obtain⟨m1,G⟩:=q
  rw[h1] at h
  exact⟨m1,G,rfl,h⟩
theorem upd_some {α:Type} {p:Rdr α} {u:MT→α→MT} {m m':MT} {F G:List Fd} (h:Rd.updR p u m F=some (m',G)):∃x,p F=some (x,G)∧m'=u m x:=by
 unfold Rd.updR at h
 cases h1:p F with
 | none=>rw[h1] at h;cases h
 | some q=>
  obtain⟨x,K⟩:=q
  rw[h1] at h
  simp only[Option.map_some,Option.some.injEq,Prod.mk.injEq] at h
  obtain⟨rfl,rfl⟩:=h
  exact⟨x,rfl,rfl⟩
structure Fine (i k:Int) (n:Nat) (m:MT):Prop where
 id:m.id=i
 kind:m.kind=k
 ctls:m.ctls=[]
 kept:keptM m=m
 ok:Bounds m
 room:flen (contentF m)≤n
theorem step_good {α:Type} {p:Rdr α} {ok:α→Prop} {xs:α→List Fd} {F G:List Fd} {x:α} (hp:Good p ok xs) (h:p F=some (x,G)) (hl:flen F≤16384):ok x∧flen (xs x)+flen G≤flen F∧flen G≤16384:=by
 have:=hp F x G hl h
 exact⟨this.1,this.2,by omega⟩
theorem bounds_of {i k:Int} (hi:in31 i) (h3:k≠3) (h19:k≠19):Bounds (ofK i k):=by
 have z:in31 0:=⟨by omega,by omega⟩
 exact⟨⟨hi,z,z,z,z⟩,⟨by simp,by simp⟩,⟨by simp,by simp⟩,⟨by simp,by simp⟩,fun h=>absurd h h3,fun h=>absurd h h19,⟨by simp,by simp,by simp,by simp,by simp,by simp,by simp,by simp⟩,by simp,by simp,by simp,by simp,by simp⟩
theorem goodC_unbind (i:Int) (hi:in31 i) (F:List Fd) (m:MT) (hl:flen F≤16384) (h:Rd.contentR (ofK i 2) F=some (m,[])):Fine i 2 (flen F) m:=by
 replace h:some (ofK i 2,F)=some (m,[]):=h
 simp only[Option.some.injEq,Prod.mk.injEq] at h
 obtain⟨rfl,rfl⟩:=h
 exact⟨rfl,rfl,rfl,by simp[keptM],bounds_of hi (by omega) (by omega),by simp[contentF]⟩
theorem goodC_bind (i:Int) (hi:in31 i) (F:List Fd) (m:MT) (hl:flen F≤16384) (h:Rd.contentR (ofK i 0) F=some (m,[])):Fine i 0 (flen F) m:=by
 replace h:Rd.bindR (ofK i 0) F=some (m,[]):=h
 obtain⟨m2,G2,h,e3⟩:=then_some h
 obtain⟨m1,G1,h,e2⟩:=then_some h
 have e1:=h
 obtain⟨x1,q1,rfl⟩:=upd_some e1
 obtain⟨o1,r1,l1⟩:=step_good (num_good 2 127) q1 hl
 obtain⟨x2,q2,rfl⟩:=upd_some e2
 obtain⟨o2,r2,l2⟩:=step_good text_good q2 l1
 obtain⟨x3,q3,rfl⟩:=upd_some e3
 obtain⟨o3,r3,l3⟩:=step_good (tagged_good 0x80) q3 l2
 refine⟨rfl,rfl,rfl,by simp[keptM],{ (bounds_of (k:=0) hi (by omega) (by omega)) with ver:=o1,texts:=⟨o2,o3,(by simp),(by simp),(by simp),(by simp),(by simp),(by simp)⟩ },?_⟩
 change flen [numF 2 x1,textF x2,(0x80,x3)]≤flen F
 simp only[flen_cons,flen_nil] at r1 r2 r3 ⊢
 omega
theorem formedR_good:Good Rd.formedR (fun t=>t.formed=true) (fun t=>[filterF t]):=fun F x G hl h=>by
 unfold Rd.formedR at h
 cases h1:Rd.filterR 20 F with
 | none=>rw[h1] at h;cases h
 | some q=>
  obtain⟨t,r⟩:=q
  rw[h1] at h
  simp only at h
  split at h
  ·rename_i hf
   cases h
   exact⟨hf,(filter_good 20 F _ _ hl h1).2⟩
  ·cases h
theorem goodC_search (i:Int) (hi:in31 i) (F:List Fd) (m:MT) (hl:flen F≤16384) (h:Rd.contentR (ofK i 3) F=some (m,[])):Fine i 3 (flen F) m:=by
 replace h:Rd.searchR (ofK i 3) F=some (m,[]):=h
 obtain⟨m7,G7,h,e8⟩:=then_some h
 obtain⟨m6,G6,h,e7⟩:=then_some h
 obtain⟨m5,G5,h,e6⟩:=then_some h
 obtain⟨m4,G4,h,e5⟩:=then_some h
 obtain⟨m3,G3,h,e4⟩:=then_some h
 obtain⟨m2,G2,h,e3⟩:=then_some h
 obtain⟨m1,G1,h,e2⟩:=then_some h
 have e1:=h
 obtain⟨x1,q1,d1⟩:=upd_some e1
 replace d1:m1=({ id:=i,kind:=3,name:=x1 }:MT):=d1
 subst d1
 obtain⟨o1,r1,l1⟩:=step_good text_good q1 hl
 obtain⟨x2,q2,d2⟩:=upd_some e2
 replace d2:m2=({ id:=i,kind:=3,name:=x1,scope:=x2 }:MT):=d2
 subst d2
 obtain⟨o2,r2,l2⟩:=step_good (num_good 0x0a 2) q2 l1
 obtain⟨x3,q3,d3⟩:=upd_some e3
 replace d3:m3=({ id:=i,kind:=3,name:=x1,scope:=x2,deref:=x3 }:MT):=d3
 subst d3
 obtain⟨o3,r3,l3⟩:=step_good (num_good 0x0a 3) q3 l2
 obtain⟨x4,q4,d4⟩:=upd_some e4
 replace d4:m4=({ id:=i,kind:=3,name:=x1,scope:=x2,deref:=x3,size:=x4 }:MT):=d4
 subst d4
 obtain⟨o4,r4,l4⟩:=step_good (num_good 2 2147483647) q4 l3
 obtain⟨x5,q5,d5⟩:=upd_some e5
 replace d5:m5=({ id:=i,kind:=3,name:=x1,scope:=x2,deref:=x3,size:=x4,time:=x5 }:MT):=d5
 subst d5
 obtain⟨o5,r5,l5⟩:=step_good (num_good 2 2147483647) q5 l4
 obtain⟨x6,q6,d6⟩:=upd_some e6
 replace d6:m6=({ id:=i,kind:=3,name:=x1,scope:=x2,deref:=x3,size:=x4,time:=x5,tonly:=x6 }:MT):=d6
 subst d6
 obtain⟨o6,r6,l6⟩:=step_good flag_good q6 l5
 obtain⟨x7,q7,d7⟩:=upd_some e7
 replace d7:m7=({ id:=i,kind:=3,name:=x1,scope:=x2,deref:=x3,size:=x4,time:=x5,tonly:=x6,filt:=x7 }:MT):=d7
 subst d7
 obtain⟨o7,r7,l7⟩:=step_good formedR_good q7 l6
 obtain⟨x8,q8,d8⟩:=upd_some e8
 replace d8:m=({ id:=i,kind:=3,name:=x1,scope:=x2,deref:=x3,size:=x4,time:=x5,tonly:=x6,filt:=x7,attrs:=x8 }:MT):=d8
 subst d8
 obtain⟨o8,r8,l8⟩:=step_good (list_good 48 text_good) q8 l7
 refine⟨rfl,rfl,rfl,by simp[keptM],{ (bounds_of (k:=0) hi (by omega) (by omega)) with scope:=o2,deref:=o3,ints:=⟨hi,o4,o5,⟨by simp,by simp⟩,⟨by simp,by simp⟩⟩,filt:=fun _=>o7,refs0:=(fun h=>absurd h (by simp)),attrs:=o8,texts:=⟨o1,(by simp),(by simp),(by simp),(by simp),(by simp),(by simp),(by simp)⟩ },?_⟩
 change flen [textF x1,numF 0x0a x2,numF 0x0a x3,numF 2 x4,numF 2 x5,flagF x6,filterF x7,(0x30,enc (x8.map textF))]≤flen F
 simp only[flen_cons,flen_nil] at r1 r2 r3 r4 r5 r6 r7 r8 ⊢
 omega
theorem goodC_modify (i:Int) (hi:in31 i) (F:List Fd) (m:MT) (hl:flen F≤16384) (h:Rd.contentR (ofK i 6) F=some (m,[])):Fine i 6 (flen F) m:=by
 replace h:Rd.modifyR (ofK i 6) F=some (m,[]):=h
 obtain⟨m1,G1,h,e2⟩:=then_some h
 have e1:=h
 obtain⟨x1,q1,rfl⟩:=upd_some e1
 obtain⟨o1,r1,l1⟩:=step_good text_good q1 hl
 obtain⟨x2,q2,rfl⟩:=upd_some e2
 obtain⟨o2,r2,l2⟩:=step_good (list_good 48 change_good) q2 l1
 refine⟨rfl,rfl,rfl,by simp[keptM],{ (bounds_of (k:=6) hi (by omega) (by omega)) with chs:=o2,texts:=⟨o1,(by simp),(by simp),(by simp),(by simp),(by simp),(by simp),(by simp)⟩ },?_⟩
 change flen [textF x1,(0x30,enc (x2.map changeF))]≤flen F
 simp only[flen_cons,flen_nil] at r1 r2 ⊢
 omega
theorem goodC_add (i:Int) (hi:in31 i) (F:List Fd) (m:MT) (hl:flen F≤16384) (h:Rd.contentR (ofK i 8) F=some (m,[])):Fine i 8 (flen F) m:=by
 replace h:Rd.addR (ofK i 8) F=some (m,[]):=h
 obtain⟨m1,G1,h,e2⟩:=then_some h
 have e1:=h
 obtain⟨x1,q1,rfl⟩:=upd_some e1
 obtain⟨o1,r1,l1⟩:=step_good text_good q1 hl
 obtain⟨x2,q2,rfl⟩:=upd_some e2
 obtain⟨o2,r2,l2⟩:=step_good (list_good 48 attr_good) q2 l1
 refine⟨rfl,rfl,rfl,by simp[keptM],{ (bounds_of (k:=8) hi (by omega) (by omega)) with lst:=o2,texts:=⟨o1,(by simp),(by simp),(by simp),(by simp),(by simp),(by simp),(by simp)⟩ },?_⟩
 change flen [textF x1,(0x30,enc (x2.map attrF))]≤flen F
 simp only[flen_cons,flen_nil] at r1 r2 ⊢
 omega
theorem goodC_entry (i:Int) (hi:in31 i) (F:List Fd) (m:MT) (hl:flen F≤16384) (h:Rd.contentR (ofK i 4) F=some (m,[])):Fine i 4 (flen F) m:=by
 replace h:Rd.addR (ofK i 4) F=some (m,[]):=h
 obtain⟨m1,G1,h,e2⟩:=then_some h
 have e1:=h
 obtain⟨x1,q1,rfl⟩:=upd_some e1
 obtain⟨o1,r1,l1⟩:=step_good text_good q1 hl
 obtain⟨x2,q2,rfl⟩:=upd_some e2
 obtain⟨o2,r2,l2⟩:=step_good (list_good 48 attr_good) q2 l1
 refine⟨rfl,rfl,rfl,by simp[keptM],{ (bounds_of (k:=4) hi (by omega) (by omega)) with lst:=o2,texts:=⟨o1,(by simp),(by simp),(by simp),(by simp),(by simp),(by simp),(by simp)⟩ },?_⟩
 change flen [textF x1,(0x30,enc (x2.map attrF))]≤flen F
 simp only[flen_cons,flen_nil] at r1 r2 ⊢
 omega
theorem goodC_modName (i:Int) (hi:in31 i) (F:List Fd) (m:MT) (hl:flen F≤16384) (h:Rd.contentR (ofK i 12) F=some (m,[])):Fine i 12 (flen F) m:=by
 replace h:Rd.modNameR (ofK i 12) F=some (m,[]):=h
 obtain⟨m3,G3,h,e4⟩:=then_some h
 obtain⟨m2,G2,h,e3⟩:=then_some h
 obtain⟨m1,G1,e1,e2⟩:=then_some h
 obtain⟨x1,q1,rfl⟩:=upd_some e1
 obtain⟨o1,r1,l1⟩:=step_good text_good q1 hl
 obtain⟨x2,q2,rfl⟩:=upd_some e2
 obtain⟨o2,r2,l2⟩:=step_good text_good q2 l1
 obtain⟨x3,q3,rfl⟩:=upd_some e3
 obtain⟨o3,r3,l3⟩:=step_good flag_good q3 l2
 unfold Rd.supR at e4
 split at e4
 ·rename_i hG
  simp only[Option.some.injEq,Prod.mk.injEq] at e4
  obtain⟨rfl,-⟩:=e4
  refine⟨rfl,rfl,rfl,by simp[keptM],{ (bounds_of (k:=12) hi (by omega) (by omega)) with texts:=⟨o1,(by simp),o2,(by simp),(by simp),(by simp),(by simp),(by simp)⟩ },?_⟩
  change flen [textF x1,textF x2,flagF x3]≤flen F
  simp only[flen_cons,flen_nil] at r1 r2 r3 ⊢
  omega
 ·cases ht:Rd.taggedR 0x80 G3 with
  | none=>rw[ht] at e4;cases e4
  | some q=>
   obtain⟨x,K⟩:=q
   rw[ht] at e4
   simp only[Option.map_some,Option.some.injEq,Prod.mk.injEq] at e4
   obtain⟨rfl,rfl⟩:=e4
   obtain⟨o4,r4,l4⟩:=step_good (tagged_good 0x80) ht l3
   refine⟨rfl,rfl,rfl,by simp[keptM],{ (bounds_of (k:=12) hi (by omega) (by omega)) with texts:=⟨o1,(by simp),o2,o4,(by simp),(by simp),(by simp),(by simp)⟩ },?_⟩
   change flen [textF x1,textF x2,flagF x3,(0x80,x)]≤flen F
   simp only[flen_cons,flen_nil] at r1 r2 r3 r4 ⊢
   omega
theorem cmp_good:Good (Rd.innerR 48 (Rd.andR Rd.textR Rd.textR Prod.mk)) (fun x=>x.1.length≤1000∧x.2.length≤1000) (fun x=>[(48,enc [textF x.1,textF x.2])]):=
 inner_good 48 (and_good (zs:=fun (x:List UInt8 × List UInt8)=>[textF x.1,textF x.2]) text_good text_good (fun x y h1 h2=>⟨h1,h2⟩) (fun x y=>by simp only[flen_cons,flen_nil];omega))
theorem goodC_compare (i:Int) (hi:in31 i) (F:List Fd) (m:MT) (hl:flen F≤16384) (h:Rd.contentR (ofK i 14) F=some (m,[])):Fine i 14 (flen F) m:=by
 replace h:Rd.compareR (ofK i 14) F=some (m,[]):=h
 obtain⟨m1,G1,h,e2⟩:=then_some h
 have e1:=h
 obtain⟨x1,q1,rfl⟩:=upd_some e1
 obtain⟨o1,r1,l1⟩:=step_good text_good q1 hl
 obtain⟨x2,q2,rfl⟩:=upd_some e2
 obtain⟨o2,r2,l2⟩:=step_good cmp_good q2 l1
 refine⟨rfl,rfl,rfl,by simp[keptM],{ (bounds_of (k:=14) hi (by omega) (by omega)) with texts:=⟨o1,(by simp),(by simp),(by simp),o2.1,o2.2,(by simp),(by simp)⟩ },?_⟩
 change flen [textF x1,(0x30,enc [textF x2.1,textF x2.2])]≤flen F
 simp only[flen_cons,flen_nil] at r1 r2 ⊢
 omega
theorem goodC_result (i k:Int) (hk:k=1∨k=5∨k=7∨k=9∨k=11∨k=13∨k=15∨k=24) (hi:in31 i) (F:List Fd) (m:MT) (hl:flen F≤16384) (h:Rd.resultR (ofK i k) F=some (m,[])):Fine i k (flen F) m:=by
 obtain⟨m3,G3,h,e4⟩:=then_some h
 obtain⟨m2,G2,h,e3⟩:=then_some h
 obtain⟨m1,G1,e1,e2⟩:=then_some h
 obtain⟨x1,q1,rfl⟩:=upd_some e1
 obtain⟨o1,r1,l1⟩:=step_good (num_good 0x0a 2147483647) q1 hl
 obtain⟨x2,q2,rfl⟩:=upd_some e2
 obtain⟨o2,r2,l2⟩:=step_good text_good q2 l1
 obtain⟨x3,q3,rfl⟩:=upd_some e3
 obtain⟨o3,r3,l3⟩:=step_good text_good q3 l2
 have hc:∀m:MT,m.kind=k→contentF m=[numF 0x0a m.code,textF m.matched,textF m.text]++refsF m.refs:=fun m hm=>by
  unfold contentF
  rw[hm]
  rcases hk with rfl | rfl | rfl | rfl | rfl | rfl | rfl | rfl<;>rfl
 have hkp:∀m:MT,m.kind=k→keptM m={ id:=m.id,kind:=m.kind,code:=m.code,matched:=m.matched,text:=m.text,refs:=m.refs,ctls:=m.ctls }:=fun m hm=>by
  unfold keptM
  rw[hm]
  rcases hk with rfl | rfl | rfl | rfl | rfl | rfl | rfl | rfl<;>rfl
 have n3:k≠3:=by omega
 have n19:k≠19:=by omega
 unfold Rd.refsR at e4
 split at e4
 ·rename_i hG
  simp only[Option.some.injEq,Prod.mk.injEq] at e4
  obtain⟨rfl,-⟩:=e4
  refine⟨rfl,rfl,rfl,hkp _ rfl,{ (bounds_of (k:=k) hi n3 n19) with texts:=⟨(by simp),(by simp),(by simp),(by simp),(by simp),(by simp),o2,o3⟩,ints:=⟨hi,⟨by simp,by simp⟩,⟨by simp,by simp⟩,⟨by simp,by simp⟩,o1⟩ },?_⟩
  rw[hc _ rfl]
  change flen [numF 0x0a x1,textF x2,textF x3]≤flen F
  simp only[flen_cons,flen_nil] at r1 r2 r3 ⊢
  omega
 ·cases ht:Rd.someR 0xa3 Rd.textR G3 with
  | none=>rw[ht] at e4;cases e4
  | some q=>
   obtain⟨x,K⟩:=q
   rw[ht] at e4
   simp only[Option.map_some,Option.some.injEq,Prod.mk.injEq] at e4
   obtain⟨rfl,rfl⟩:=e4
   obtain⟨o4,r4,l4⟩:=step_good (some_good 0xa3 text_good) ht l3
   refine⟨rfl,rfl,rfl,hkp _ rfl,{ (bounds_of (k:=k) hi n3 n19) with texts:=⟨(by simp),(by simp),(by simp),(by simp),(by simp),(by simp),o2,o3⟩,ints:=⟨hi,⟨by simp,by simp⟩,⟨by simp,by simp⟩,⟨by simp,by simp⟩,o1⟩,refs:=o4.2,refs0:=(fun h=>absurd h n19) },?_⟩
   rw[hc _ rfl,flen_app]
   have hr:refsF x=[(0xa3,enc (x.map textF))]:=by unfold refsF;rw[if_neg o4.1]
   change flen [numF 0x0a x1,textF x2,textF x3]+flen (refsF x)≤flen F
   rw[hr]
   simp only[flen_cons,flen_nil] at r1 r2 r3 r4 ⊢
   omega
end Go.Proofs.YtpkedjohgmnhhaaGreat
namespace Go.Proofs.YtpkedjohgmnhhaaGreat
open Go.RowKit
open Wr
set_option linter.unusedVariables false
structure FineO (i:Int) (n:Nat) (m:MT):Prop where
 id:m.id=i
 known:knownK m.kind
 ctls:m.ctls=[]
 kept:keptM m=m
 ok:Bounds m
 room:(Ber.fieldOf (operF m).1 (operF m).2).length≤n
theorem contentG {i k:Int} (hi:in31 i) {F:List Fd} {m:MT} (hl:flen F≤16384) (h:Rd.contentR (ofK i k) F=some (m,[])):knownK k∧Fine i k (flen F) m:=by
 by_cases h2:k=2
 ·subst h2;exact⟨.inl (by omega),goodC_unbind i hi F m hl h⟩
 by_cases h0:k=0
 ·subst h0;exact⟨.inl (by omega),goodC_bind i hi F m hl h⟩
 by_cases h3:k=3
 ·subst h3;exact⟨.inl (by omega),goodC_search i hi F m hl h⟩
 by_cases h6:k=6
 ·subst h6;exact⟨.inl (by omega),goodC_modify i hi F m hl h⟩
 by_cases h8:k=8
 ·subst h8;exact⟨.inl (by omega),goodC_add i hi F m hl h⟩
 by_cases h4:k=4
 ·subst h4;exact⟨.inl (by omega),goodC_entry i hi F m hl h⟩
 by_cases h12:k=12
 ·subst h12;exact⟨.inl (by omega),goodC_modName i hi F m hl h⟩
 by_cases h14:k=14
 ·subst h14;exact⟨.inl (by omega),goodC_compare i hi F m hl h⟩
 by_cases hr:k=1∨k=5∨k=7∨k=9∨k=11∨k=13∨k=15∨k=24
 ·have e:Rd.contentR (ofK i k) F=Rd.resultR (ofK i k) F:=by rcases hr with rfl | rfl | rfl | rfl | rfl | rfl | rfl | rfl<;>rfl
  rw[e] at h
  exact⟨by unfold knownK;omega,goodC_result i k hr hi F m hl h⟩
 ·exfalso
  have e:Rd.contentR (ofK i k) F=Rd.noR (ofK i k) F:=by
   unfold Rd.contentR
   simp only[if_neg h2,if_neg h0,if_neg h3,if_neg h6,if_neg h8,if_neg h4,if_neg h12,if_neg h14,if_neg (show k≠1 by omega),if_neg (show k≠5 by omega),if_neg (show k≠7 by omega),if_neg (show k≠9 by omega),if_neg (show k≠11 by omega),if_neg (show k≠13 by omega),if_neg (show k≠15 by omega),if_neg (show k≠24 by omega)]
  rw[e] at h
  cases h
theorem operG {i:Int} (hi:in31 i) {F G:List Fd} {m:MT} (hl:flen F≤16384) (h:Rd.operR (ofK i 0) F=some (m,G)):∃n,FineO i n m∧n+flen G≤flen F:=by
 unfold Rd.operR at h
 cases F with
 | nil=>cases h
 | cons f r=>
  obtain⟨t,c⟩:=f
  simp only at h
  obtain⟨K,hK⟩:∃K,Rd.kindOf t=K:=⟨_,rfl⟩
  rw[hK] at h
  by_cases hop:opV K=(t.toNat:Int)
  ·rw [if_pos hop] at h
   refine⟨(Ber.fieldOf t c).length,?_⟩
   by_cases h10:K=10
   ·rw [if_pos h10] at h
    subst h10
    obtain⟨x,q,d⟩:=upd_some h
    replace d:m=({ id:=i,kind:=10,name:=x }:MT):=d
    subst d
    obtain⟨o1,r1,l1⟩:=step_good (tagged_good t) q hl
    have hq:x=c∧G=r:=by
     unfold Rd.taggedR at q
     rw[take_enc] at q
     simp only at q
     split at q
     ·cases q;exact⟨rfl,rfl⟩
     ·cases q
    obtain⟨rfl,rfl⟩:=hq
    refine⟨⟨rfl,.inl (by simp),rfl,by simp[keptM],{ (bounds_of (k:=10) hi (by omega) (by omega)) with texts:=⟨o1,by simp,by simp,by simp,by simp,by simp,by simp,by simp⟩ },?_⟩,by rw[flen_cons];exact Nat.le_refl _⟩
    exact Nat.le_of_eq (fieldOf_tag _ _ _)
   ·rw [if_neg h10] at h
    by_cases h16:K=16
    ·rw [if_pos h16] at h
     subst h16
     obtain⟨x,q,d⟩:=upd_some h
     replace d:m=({ id:=i,kind:=16,target:=x }:MT):=d
     subst d
     obtain⟨o1,r1,l1⟩:=step_good (num_good t 2147483647) q hl
     have hq:Ber.intOfs x=c∧G=r:=by
      unfold Rd.numR at q
      rw[take_enc] at q
      simp only at q
      split at q
      ·rename_i hc
       cases q
       refine⟨?_,rfl⟩
       have h0:=hc.1
       unfold Ber.toInt at h0 ⊢
       split at h0
       ·rename_i hz
        rw[if_pos hz]
        exact (Ber.intOfs_sv c hz.1 hz.2.1).2 hz.2.2
       ·simp at h0
      ·cases q
     obtain⟨hx,rfl⟩:=hq
     refine⟨⟨rfl,.inl (by simp),rfl,by simp[keptM],{ (bounds_of (k:=16) hi (by omega) (by omega)) with ints:=⟨hi,⟨by simp,by simp⟩,⟨by simp,by simp⟩,o1,⟨by simp,by simp⟩⟩ },?_⟩,by rw[flen_cons];exact Nat.le_refl _⟩
     rw[←hx]
     exact Nat.le_of_eq (fieldOf_tag _ _ _)
    ·rw [if_neg h16] at h
     by_cases h19:K=19
     ·rw [if_pos h19] at h
      subst h19
      obtain⟨x,q,d⟩:=upd_some h
      replace d:m=({ id:=i,kind:=19,refs:=x }:MT):=d
      subst d
      obtain⟨o1,r1,l1⟩:=step_good (some_good t text_good) q hl
      have hG:G=r:=by
       unfold Rd.someR at q
       cases hw:Rd.listR t Rd.textR ((t,c)::r) with
       | none=>rw[hw] at q;cases q
       | some z=>
        obtain⟨y,K2⟩:=z
        rw[hw] at q
        obtain⟨c2,H2,e2,-,-⟩:=inner_some hw
        cases y with
        | nil=>cases q
        | cons y0 y=>cases q;cases e2;rfl
      subst hG
      refine⟨⟨rfl,.inr (.inl rfl),rfl,by simp[keptM],{ ints:=(bounds_of (k:=0) hi (by omega) (by omega):Bounds (ofK i 0)).ints,ver:=⟨by simp,by simp⟩,scope:=⟨by simp,by simp⟩,deref:=⟨by simp,by simp⟩,filt:=(fun h=>absurd h (by simp)),refs0:=(fun _=>o1.1),texts:=⟨by simp,by simp,by simp,by simp,by simp,by simp,by simp,by simp⟩,attrs:=by simp,refs:=o1.2,lst:=by simp,chs:=by simp,ctls:=by simp },?_⟩,by rw[flen_cons];exact Nat.le_refl _⟩
      have e:(operF ({ id:=i,kind:=19,refs:=x }:MT)).2=enc (x.map textF):=rfl
      rw[e]
      simp only[flen_cons,flen_nil] at r1
      rw[fieldOf_tag _ t]
      omega
     ·rw [if_neg h19] at h
      obtain⟨x,q,d⟩:=upd_some h
      replace d:m=x:=d
      subst d
      obtain⟨c2,H,e2,hf,hp⟩:=inner_some q
      cases e2
      have hcl:=flen_content (t:=t) (c:=c) (r:=G)
      have hH:=fields_short hf (by omega)
      obtain⟨hkn,hfi⟩:=contentG hi (k:=K) (by omega) hp
      have hkk:=hfi.kind
      refine⟨⟨hfi.id,by rw[hkk];exact hkn,hfi.ctls,hfi.kept,hfi.ok,?_⟩,by rw[flen_cons];exact Nat.le_refl _⟩
      have e:(operF m).2=enc (contentF m):=by unfold operF;rw[hkk,if_neg h10,if_neg h16]
      rw[e]
      have hr:=hfi.room
      exact fieldOf_mono (by show flen (contentF m)≤_;omega) (by omega)
  ·rw [if_neg hop] at h;cases h
theorem decode_good {b:List UInt8} {m:MT} (h:Rd.decode b=some m):FormedM m∧(bytesW m).length≤b.length∧b.length≤16384:=by
 unfold Rd.decode at h
 split at h
 ·rename_i hb
  unfold Rd.wholeR at h
  cases hf:Rd.fieldsOf b with
  | none=>rw[hf] at h;cases h
  | some F=>
   rw[hf] at h
   have hF:=fields_short hf (by omega)
   cases hi:Rd.innerR 48 Rd.messageR F with
   | none=>simp only[hi] at h;cases h
   | some q=>
    obtain⟨x,K⟩:=q
    simp only[hi] at h
    cases K with
    | cons k K=>cases h
    | nil=>
     obtain rfl:x=m:=by simpa using h
     obtain⟨c,H,rfl,hc,hp⟩:=inner_some hi
     have hcl:=flen_content (t:=48) (c:=c) (r:=[])
     have hH:=fields_short hc (by omega)
     obtain⟨m2,G2,h2,h3⟩:=then_some (a:=Rd.thenR Rd.idR Rd.operR) (b:=Rd.ctlsR) hp
     obtain⟨m1,G1,h1,h2⟩:=then_some h2
     obtain⟨x1,q1,d1⟩:=upd_some h1
     replace d1:m1=ofK x1 0:=d1
     subst d1
     obtain⟨o1,r1,l1⟩:=step_good (num_good 2 2147483647) q1 (by omega)
     obtain⟨n,hfo,hn⟩:=operG o1 l1 h2
     have hid:=hfo.id
     have hro:=hfo.room
     simp only[flen_cons,flen_nil] at r1
     unfold Rd.ctlsR at h3
     split at h3
     ·rename_i hG
      subst hG
      simp only[Option.some.injEq,Prod.mk.injEq] at h3
      obtain⟨rfl,-⟩:=h3
      refine⟨⟨hfo.known,hfo.kept,hfo.ok⟩,?_,hb⟩
      have e:bytesW m2=enc [(0x30,enc (numF 2 m2.id::operF m2::[]))]:=by unfold bytesW messageF ctlsF;rw[hfo.ctls,if_pos rfl]
      rw[e,hid]
      have hm:flen (numF 2 x1::operF m2::[])≤c.length:=by rw[flen_cons,flen_cons,flen_nil];rw[flen_nil] at hn;omega
      have:=fieldOf_mono (t:=0x30) (t':=48) (a:=enc (numF 2 x1::operF m2::[])) (b:=c) hm (by omega)
      show flen [(0x30,enc (numF 2 x1::operF m2::[]))]≤_
      rw[flen_cons] at hF ⊢
      rw[flen_nil] at hF ⊢
      simp only at hF ⊢
      omega
     ·cases hs:Rd.someR 0xa0 Rd.controlR G2 with
      | none=>rw[hs] at h3;cases h3
      | some q=>
       obtain⟨L,K⟩:=q
       rw[hs] at h3
       simp only[Option.map_some,Option.some.injEq,Prod.mk.injEq] at h3
       obtain⟨rfl,rfl⟩:=h3
       obtain⟨o2,r2,l2⟩:=step_good (some_good 0xa0 control_good) hs (by omega)
       have hk2:keptM ({ m2 with ctls:=L }:MT)={ m2 with ctls:=L }:=by
        have hk:=hfo.kept
        have e:keptM ({ m2 with ctls:=L }:MT)={ keptM m2 with ctls:=L }:=by
         unfold keptM
         by_cases c0:m2.kind=0
         ·simp only[c0,if_true]
         by_cases c3:m2.kind=3
         ·simp only[c3];rfl
         by_cases c6:m2.kind=6
         ·simp only[c6];rfl
         by_cases c4:m2.kind=4∨m2.kind=8
         ·rcases c4 with c4 | c4<;>(simp only[c4];rfl)
         by_cases c10:m2.kind=10
         ·simp only[c10];rfl
         by_cases c12:m2.kind=12
         ·simp only[c12];rfl
         by_cases c14:m2.kind=14
         ·simp only[c14];rfl
         by_cases c16:m2.kind=16
         ·simp only[c16];rfl
         by_cases c1:m2.kind=1∨m2.kind=5∨m2.kind=7∨m2.kind=9∨m2.kind=11∨m2.kind=13∨m2.kind=15∨m2.kind=24
         ·rcases c1 with c1 | c1 | c1 | c1 | c1 | c1 | c1 | c1<;>(simp only[c1];rfl)
         by_cases c19:m2.kind=19
         ·simp only[c19];rfl
         simp only[if_neg c0,if_neg c3,if_neg c6,if_neg c4,if_neg c10,if_neg c12,if_neg c14,if_neg c16,if_neg c1,if_neg c19]
        rw[e,hk]
       have hb2:=hfo.ok
       refine⟨⟨hfo.known,hk2,⟨hb2.ints,hb2.ver,hb2.scope,hb2.deref,hb2.filt,hb2.refs0,hb2.texts,hb2.attrs,hb2.refs,hb2.lst,hb2.chs,o2.2⟩⟩,?_,hb⟩
       have e:bytesW ({ m2 with ctls:=L }:MT)=enc [(0x30,enc (numF 2 m2.id::operF m2::[(0xa0,enc (L.map controlF))]))]:=by
        unfold bytesW messageF ctlsF
        rw[if_neg o2.1]
        rfl
       rw[e,hid]
       simp only[flen_cons,flen_nil] at r2
       have hm:flen (numF 2 x1::operF m2::[(0xa0,enc (L.map controlF))])≤c.length:=by rw[flen_cons,flen_cons,flen_cons,flen_nil];simp only;omega
       have:=fieldOf_mono (t:=0x30) (t':=48) (a:=enc (numF 2 x1::operF m2::[(0xa0,enc (L.map controlF))])) (b:=c) hm (by omega)
       show flen [(0x30,enc (numF 2 x1::operF m2::[(0xa0,enc (L.map controlF))]))]≤_
       rw[flen_cons] at hF ⊢
       rw[flen_nil] at hF ⊢
       simp only at hF ⊢
       omega
 ·cases h
end Go.Proofs.YtpkedjohgmnhhaaGreat
namespace Go.Proofs.YtpkedjohgmnhhaaGreat
open Go.RowKit
open Wr
set_option linter.unusedVariables false
theorem cutLen_long (k:Nat) (h1:1≤k) (h4:k≤4) (ls x:List UInt8) (hl:ls.length=k):Ber.cutLen (UInt8.ofNat (128+k)::(ls++x))=(Ber.un ls,1+k,0):=by
 have e:(UInt8.ofNat (128+k)).toNat=128+k:=by rw[UInt8.toNat_ofNat',Nat.mod_eq_of_lt (by omega)]
 rw[Ber.cutLen,e,if_neg (by omega),if_neg (by omega),show 128+k-128=k by omega,if_neg (by rw[List.length_append];omega)]
 rw[List.take_append_of_le_length (by omega),List.take_of_length_le (by omega)]
theorem takeOf_long (t:UInt8) (k:Nat) (h1:1≤k) (h4:k≤4) (ls c r:List UInt8) (hl:ls.length=k) (hu:Ber.un ls=c.length) (ht:t.toNat % 32≠31):
  Ber.takeOf (t::UInt8.ofNat (128+k)::(ls++(c++r)))=(t.toNat,c,r,0):=by
 have hc:=cutLen_long k h1 h4 ls (c++r) hl
 have er:Ber.cutRest (UInt8.ofNat (128+k)::(ls++(c++r)))=c++r:=by
  rw[Ber.cutRest,hc,if_pos rfl]
  simp only
  rw[show 1+k=(UInt8.ofNat (128+k)::ls).length by simp[hl];omega,←List.cons_append]
  exact List.drop_left
 rw[Ber.takeOf,if_neg ht,hc,if_neg (by simp),er,hu,if_neg (by rw[List.length_append];simp only;omega)]
 simp only[List.take_left,List.drop_left]
theorem one_field {l c:List UInt8} {t:UInt8} (hne:l≠[]) (h:Ber.takeOf l=(t.toNat,c,[],0)):Rd.fieldsOf l=some [(t,c)]:=by
 obtain⟨x,r,rfl⟩:=List.exists_cons_of_ne_nil hne
 have e:Ber.listGo (x::r).length [] [] (x::r)=([t],[c],0):=by
  rw[List.length_cons,Ber.listGo,if_neg hne,h,if_neg (by simp)]
  simp[Ber.listGo_nil]
 unfold Rd.fieldsOf
 rw[e]
 rfl
theorem two_fields {l r c d:List UInt8} {t u:UInt8} (hne:l≠[]) (h:Ber.takeOf l=(t.toNat,c,r,0)) (hr:r≠[]) (h2:Ber.takeOf r=(u.toNat,d,[],0)):Rd.fieldsOf l=some [(t,c),(u,d)]:=by
 obtain⟨x,s,rfl⟩:=List.exists_cons_of_ne_nil hne
 have hls:=(Ber.takeOf_less _ hne).1
 rw[h] at hls
 simp only[List.length_cons] at hls
 have hrp:=List.length_pos_iff.2 hr
 obtain⟨n,hn⟩:∃n,s.length=n+1:=⟨s.length-1,by omega⟩
 have e:Ber.listGo (x::s).length [] [] (x::s)=([t,u],[c,d],0):=by
  rw[List.length_cons,Ber.listGo,if_neg hne,h,if_neg (by simp)]
  simp only
  rw[hn,Ber.listGo,if_neg hr,h2,if_neg (by simp)]
  simp[Ber.listGo_nil]
 unfold Rd.fieldsOf
 rw[e]
 rfl
abbrev delM (n:Int) (nm:List UInt8):MT:={ id:=n,kind:=10,name:=nm }
theorem del_formed {n:Int} {nm:List UInt8} (h0:0≤n) (h1:n≤2147483647) (hn:nm.length≤900):FormedM (delM n nm):=
 ⟨.inl ⟨by simp,by simp⟩,by simp[keptM],{ (bounds_of (k:=10) ⟨h0,h1⟩ (by omega) (by omega)) with texts:=⟨by simp;omega,by simp,by simp,by simp,by simp,by simp,by simp,by simp⟩ }⟩
theorem del_bytes {n:Int} {nm:List UInt8} (hn:nm.length≤900):(bytesW (delM n nm)).length≤1000:=by
 have e:bytesW (delM n nm)=Ber.fieldOf 0x30 (Ber.fieldOf 2 (Ber.intOfs n)++Ber.fieldOf (operTag 10) nm):=by
  simp[bytesW,messageF,ctlsF,operF,enc,numF]
 have h1:=Ber.lenOf_le (((Ber.fieldOf 2 (Ber.intOfs n)++Ber.fieldOf (operTag 10) nm).length:Nat):Int)
 have h2:=Ber.lenOf_le ((Ber.intOfs n).length:Int)
 have h3:=Ber.lenOf_le (nm.length:Int)
 have h4:=Ber.isize_le n
 have h5:=Ber.intOfs_length n
 rw[e,Ber.fieldOf_length,List.length_append,Ber.fieldOf_length,Ber.fieldOf_length] at *
 omega
def longC (n:Int) (nm:List UInt8):List UInt8:=[2,0x84,0,0,0,UInt8.ofNat (Ber.intOfs n).length]++Ber.intOfs n++[0x4a,0x83,0,UInt8.ofNat (nm.length/256),UInt8.ofNat nm.length]++nm
def longB (n:Int) (nm:List UInt8):List UInt8:=[48,0x82,UInt8.ofNat ((longC n nm).length/256),UInt8.ofNat (longC n nm).length]++longC n nm
theorem longC_len (n:Int) (nm:List UInt8) (hn:nm.length≤900):(longC n nm).length≤950:=by
 have h4:=Ber.isize_le n
 have h5:=Ber.intOfs_length n
 unfold longC
 simp only[List.length_append,List.length_cons,List.length_nil]
 omega
theorem un_two (a:Nat) (h:a<65536):Ber.un [UInt8.ofNat (a/256),UInt8.ofNat a]=a:=by
 simp only[Ber.un,List.foldl_cons,List.foldl_nil,UInt8.toNat_ofNat']
 omega
theorem long_decode {n:Int} {nm:List UInt8} (h0:0≤n) (h1:n≤2147483647) (hn:nm.length≤900):Rd.decode (longB n nm)=some (delM n nm):=by
 have hc:=longC_len n nm hn
 have h4:=Ber.isize_le n
 have h5:=Ber.intOfs_length n
 have hi8:(Ber.intOfs n).length≤8:=by omega
 have t1:Ber.takeOf (longB n nm)=((48:UInt8).toNat,longC n nm,[],0):=by
  have:=takeOf_long 48 2 (by omega) (by omega) [UInt8.ofNat ((longC n nm).length/256),UInt8.ofNat (longC n nm).length] (longC n nm) [] rfl (un_two _ (by omega)) (by decide)
  rw[List.append_nil] at this
  exact this
 have t3:Ber.takeOf ([0x4a,0x83,0,UInt8.ofNat (nm.length/256),UInt8.ofNat nm.length]++nm)=((0x4a:UInt8).toNat,nm,[],0):=by
  have:=takeOf_long 0x4a 3 (by omega) (by omega) [0,UInt8.ofNat (nm.length/256),UInt8.ofNat nm.length] nm [] rfl (by
   have:=un_two nm.length (by omega)
   simp only[Ber.un,List.foldl_cons,List.foldl_nil] at this ⊢
   simpa using this) (by decide)
  rw[List.append_nil] at this
  exact this
 have t2:Ber.takeOf (longC n nm)=((2:UInt8).toNat,Ber.intOfs n,[0x4a,0x83,0,UInt8.ofNat (nm.length/256),UInt8.ofNat nm.length]++nm,0):=by
  have:=takeOf_long 2 4 (by omega) (by omega) [0,0,0,UInt8.ofNat (Ber.intOfs n).length] (Ber.intOfs n) ([0x4a,0x83,0,UInt8.ofNat (nm.length/256),UInt8.ofNat nm.length]++nm) rfl (by
   simp only[Ber.un,List.foldl_cons,List.foldl_nil,UInt8.toNat_ofNat']
   simp
   omega) (by decide)
  have e:longC n nm=2::UInt8.ofNat (128+4)::([0,0,0,UInt8.ofNat (Ber.intOfs n).length]++(Ber.intOfs n++([0x4a,0x83,0,UInt8.ofNat (nm.length/256),UInt8.ofNat nm.length]++nm))):=by
   simp[longC]
  rw[e]
  exact this
 have f1:=one_field (t:=48) (by simp[longB]) t1
 have f2:=two_fields (t:=2) (u:=0x4a) (by simp[longC]) t2 (by simp) t3
 have hf:=del_formed h0 h1 hn
 have hm:=messageE (delM n nm) hf (by
  have:=del_bytes (n:=n) hn
  have h2:(messageF (delM n nm)).2.length≤(bytesW (delM n nm)).length:=enc_mem (F:=[messageF (delM n nm)]) (by simp)
  have h3:(messageF (delM n nm)).2=enc (numF 2 (delM n nm).id::operF (delM n nm)::ctlsF (delM n nm).ctls):=rfl
  rw[h3] at h2
  omega)
 have eF:(numF 2 (delM n nm).id::operF (delM n nm)::ctlsF (delM n nm).ctls)=[(2,Ber.intOfs n),(0x4a,nm)]:=by
  simp[numF,operF,ctlsF,operTag]
 rw[eF] at hm
 unfold Rd.decode
 rw[if_pos (by unfold longB;simp only[List.length_append,List.length_cons,List.length_nil];omega)]
 unfold Rd.wholeR
 rw[f1]
 simp only
 have hin:Rd.innerR 48 Rd.messageR [(48,longC n nm)]=some (delM n nm,[]):=by
  unfold Rd.innerR
  rw[take_enc]
  simp only[Rd.wholeR,f2,hm,Option.map_some]
 rw[hin]
theorem bei_front (k:Nat) (n:Int):Ber.bei (k+1) n=UInt8.ofNat (n/2 ^ (8*k) % 256).toNat::Ber.bei k n:=by
 unfold Ber.bei
 rw[List.range_succ_eq_map,List.map_cons,List.map_map]
 congr 1
 apply List.map_congr_left
 intro i hi
 simp only[Function.comp]
 rw[show k+1-1-(i+1)=k-1-i by omega]
theorem intOfs_bei (n:Int):Ber.intOfs n=Ber.bei (Ber.isize n) n:=by
 have:=Ber.isize_le n
 unfold Ber.intOfs
 exact Ber.be_bei _ _ this.2
end Go.Proofs.YtpkedjohgmnhhaaGreat
