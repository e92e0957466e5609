/- Several texts in one: LGoodM, LGoodD, JSameT. By an AI agent. -/
import Derived.Test.YtcpjmgfloimfhaaGreatM13
import Derived.Test.YtcpjmgfloimfhaaGreatM11
set_option linter.unusedSimpArgs false
set_option linter.unusedVariables false
set_option maxRecDepth 100000
set_option maxHeartbeats 64000000
namespace Go.Proofs.YtcpjmgfloimfhaaGreat
open Go.RowKit
open Wr
set_option linter.unusedVariables false
theorem then_some {a b:Rd.MR} {m m2:MT} {F H:List Fd} (h:Rd.thenR a b m F=some (m2,H)):∃m1 G,a m F=some (m1,G)∧b m1 G=some (m2,H):=by
 unfold Rd.thenR at h
 cases h1:a m F with
 | none=>rw[h1] at h;cases h
 | some q=>
  obtain⟨m1,G⟩:=q
  rw[h1] at h
  exact⟨m1,G,rfl,h⟩
theorem upd_some {α:Type} {p:Rdr α} {u:MT→α→MT} {m m':MT} {F G:List Fd} (h:Rd.updR p u m F=some (m',G)):∃x,p F=some (x,G)∧m'=u m x:=by
 unfold Rd.updR at h
 cases h1:p F with
 | none=>rw[h1] at h;cases h
 | some q=>
  obtain⟨x,K⟩:=q
  rw[h1] at h
  simp only[Option.map_some,Option.some.injEq,Prod.mk.injEq] at h
  obtain⟨rfl,rfl⟩:=h
  exact⟨x,rfl,rfl⟩
structure Fine (i k:Int) (n:Nat) (m:MT):Prop where
 id:m.id=i
 kind:m.kind=k
 ctls:m.ctls=[]
 kept:keptM m=m
 ok:Bounds m
 room:flen (contentF m)≤n
theorem step_good {α:Type} {p:Rdr α} {ok:α→Prop} {xs:α→List Fd} {F G:List Fd} {x:α} (hp:Good p ok xs) (h:p F=some (x,G)) (hl:flen F≤16384):ok x∧flen (xs x)+flen G≤flen F∧flen G≤16384:=by
 have:=hp F x G hl h
 exact⟨this.1,this.2,by omega⟩
theorem bounds_of {i k:Int} (hi:in31 i) (h3:k≠3) (h19:k≠19):Bounds (ofK i k):=by
 have z:in31 0:=⟨by omega,by omega⟩
 exact⟨⟨hi,z,z,z,z⟩,⟨by simp,by simp⟩,⟨by simp,by simp⟩,⟨by simp,by simp⟩,fun h=>absurd h h3,fun h=>absurd h h19,⟨by simp,by simp,by simp,by simp,by simp,by simp,by simp,by simp⟩,by simp,by simp,by simp,by simp,by simp⟩
theorem goodC_unbind (i:Int) (hi:in31 i) (F:List Fd) (m:MT) (hl:flen F≤16384) (h:Rd.contentR (ofK i 2) F=some (m,[])):Fine i 2 (flen F) m:=by
 replace h:some (ofK i 2,F)=some (m,[]):=h
 simp only[Option.some.injEq,Prod.mk.injEq] at h
 obtain⟨rfl,rfl⟩:=h
 exact⟨rfl,rfl,rfl,by simp[keptM],bounds_of hi (by omega) (by omega),by simp[contentF]⟩
theorem goodC_bind (i:Int) (hi:in31 i) (F:List Fd) (m:MT) (hl:flen F≤16384) (h:Rd.contentR (ofK i 0) F=some (m,[])):Fine i 0 (flen F) m:=by
 replace h:Rd.bindR (ofK i 0) F=some (m,[]):=h
 obtain⟨m2,G2,h,e3⟩:=then_some h
 obtain⟨m1,G1,h,e2⟩:=then_some h
 have e1:=h
 obtain⟨x1,q1,rfl⟩:=upd_some e1
 obtain⟨o1,r1,l1⟩:=step_good (num_good 2 127) q1 hl
 obtain⟨x2,q2,rfl⟩:=upd_some e2
 obtain⟨o2,r2,l2⟩:=step_good text_good q2 l1
 obtain⟨x3,q3,rfl⟩:=upd_some e3
 obtain⟨o3,r3,l3⟩:=step_good (tagged_good 0x80) q3 l2
 refine⟨rfl,rfl,rfl,by simp[keptM],{ (bounds_of (k:=0) hi (by omega) (by omega)) with ver:=o1,texts:=⟨o2,o3,(by simp),(by simp),(by simp),(by simp),(by simp),(by simp)⟩ },?_⟩
 change flen [numF 2 x1,textF x2,(0x80,x3)]≤flen F
 simp only[flen_cons,flen_nil] at r1 r2 r3 ⊢
 omega
theorem formedR_good:Good Rd.formedR (fun t=>t.formed=true) (fun t=>[filterF t]):=fun F x G hl h=>by
 unfold Rd.formedR at h
 cases h1:Rd.filterR 20 F with
 | none=>rw[h1] at h;cases h
 | some q=>
  obtain⟨t,r⟩:=q
  rw[h1] at h
  simp only at h
  split at h
  ·rename_i hf
   cases h
   exact⟨hf,(filter_good 20 F _ _ hl h1).2⟩
  ·cases h
theorem goodC_search (i:Int) (hi:in31 i) (F:List Fd) (m:MT) (hl:flen F≤16384) (h:Rd.contentR (ofK i 3) F=some (m,[])):Fine i 3 (flen F) m:=by
 replace h:Rd.searchR (ofK i 3) F=some (m,[]):=h
 obtain⟨m7,G7,h,e8⟩:=then_some h
 obtain⟨m6,G6,h,e7⟩:=then_some h
 obtain⟨m5,G5,h,e6⟩:=then_some h
 obtain⟨m4,G4,h,e5⟩:=then_some h
 obtain⟨m3,G3,h,e4⟩:=then_some h
 obtain⟨m2,G2,h,e3⟩:=then_some h
 obtain⟨m1,G1,h,e2⟩:=then_some h
 have e1:=h
 obtain⟨x1,q1,d1⟩:=upd_some e1
 replace d1:m1=({ id:=i,kind:=3,name:=x1 }:MT):=d1
 subst d1
 obtain⟨o1,r1,l1⟩:=step_good text_good q1 hl
 obtain⟨x2,q2,d2⟩:=upd_some e2
 replace d2:m2=({ id:=i,kind:=3,name:=x1,scope:=x2 }:MT):=d2
 subst d2
 obtain⟨o2,r2,l2⟩:=step_good (num_good 0x0a 2) q2 l1
 obtain⟨x3,q3,d3⟩:=upd_some e3
 replace d3:m3=({ id:=i,kind:=3,name:=x1,scope:=x2,deref:=x3 }:MT):=d3
 subst d3
 obtain⟨o3,r3,l3⟩:=step_good (num_good 0x0a 3) q3 l2
 obtain⟨x4,q4,d4⟩:=upd_some e4
 replace d4:m4=({ id:=i,kind:=3,name:=x1,scope:=x2,deref:=x3,size:=x4 }:MT):=d4
 subst d4
 obtain⟨o4,r4,l4⟩:=step_good (num_good 2 2147483647) q4 l3
 obtain⟨x5,q5,d5⟩:=upd_some e5
 replace d5:m5=({ id:=i,kind:=3,name:=x1,scope:=x2,deref:=x3,size:=x4,time:=x5 }:MT):=d5
 subst d5
 obtain⟨o5,r5,l5⟩:=step_good (num_good 2 2147483647) q5 l4
 obtain⟨x6,q6,d6⟩:=upd_some e6
 replace d6:m6=({ id:=i,kind:=3,name:=x1,scope:=x2,deref:=x3,size:=x4,time:=x5,tonly:=x6 }:MT):=d6
 subst d6
 obtain⟨o6,r6,l6⟩:=step_good flag_good q6 l5
 obtain⟨x7,q7,d7⟩:=upd_some e7
 replace d7:m7=({ id:=i,kind:=3,name:=x1,scope:=x2,deref:=x3,size:=x4,time:=x5,tonly:=x6,filt:=x7 }:MT):=d7
 subst d7
 obtain⟨o7,r7,l7⟩:=step_good formedR_good q7 l6
 obtain⟨x8,q8,d8⟩:=upd_some e8
 replace d8:m=({ id:=i,kind:=3,name:=x1,scope:=x2,deref:=x3,size:=x4,time:=x5,tonly:=x6,filt:=x7,attrs:=x8 }:MT):=d8
 subst d8
 obtain⟨o8,r8,l8⟩:=step_good (list_good 48 text_good) q8 l7
 refine⟨rfl,rfl,rfl,by simp[keptM],{ (bounds_of (k:=0) hi (by omega) (by omega)) with scope:=o2,deref:=o3,ints:=⟨hi,o4,o5,⟨by simp,by simp⟩,⟨by simp,by simp⟩⟩,filt:=fun _=>o7,refs0:=(fun h=>absurd h (by simp)),attrs:=o8,texts:=⟨o1,(by simp),(by simp),(by simp),(by simp),(by simp),(by simp),(by simp)⟩ },?_⟩
 change flen [textF x1,numF 0x0a x2,numF 0x0a x3,numF 2 x4,numF 2 x5,flagF x6,filterF x7,(0x30,enc (x8.map textF))]≤flen F
 simp only[flen_cons,flen_nil] at r1 r2 r3 r4 r5 r6 r7 r8 ⊢
 omega
theorem goodC_modify (i:Int) (hi:in31 i) (F:List Fd) (m:MT) (hl:flen F≤16384) (h:Rd.contentR (ofK i 6) F=some (m,[])):Fine i 6 (flen F) m:=by
 replace h:Rd.modifyR (ofK i 6) F=some (m,[]):=h
 obtain⟨m1,G1,h,e2⟩:=then_some h
 have e1:=h
 obtain⟨x1,q1,rfl⟩:=upd_some e1
 obtain⟨o1,r1,l1⟩:=step_good text_good q1 hl
 obtain⟨x2,q2,rfl⟩:=upd_some e2
 obtain⟨o2,r2,l2⟩:=step_good (list_good 48 change_good) q2 l1
 refine⟨rfl,rfl,rfl,by simp[keptM],{ (bounds_of (k:=6) hi (by omega) (by omega)) with chs:=o2,texts:=⟨o1,(by simp),(by simp),(by simp),(by simp),(by simp),(by simp),(by simp)⟩ },?_⟩
 change flen [textF x1,(0x30,enc (x2.map changeF))]≤flen F
 simp only[flen_cons,flen_nil] at r1 r2 ⊢
 omega
theorem goodC_add (i:Int) (hi:in31 i) (F:List Fd) (m:MT) (hl:flen F≤16384) (h:Rd.contentR (ofK i 8) F=some (m,[])):Fine i 8 (flen F) m:=by
 replace h:Rd.addR (ofK i 8) F=some (m,[]):=h
 obtain⟨m1,G1,h,e2⟩:=then_some h
 have e1:=h
 obtain⟨x1,q1,rfl⟩:=upd_some e1
 obtain⟨o1,r1,l1⟩:=step_good text_good q1 hl
 obtain⟨x2,q2,rfl⟩:=upd_some e2
 obtain⟨o2,r2,l2⟩:=step_good (list_good 48 attr_good) q2 l1
 refine⟨rfl,rfl,rfl,by simp[keptM],{ (bounds_of (k:=8) hi (by omega) (by omega)) with lst:=o2,texts:=⟨o1,(by simp),(by simp),(by simp),(by simp),(by simp),(by simp),(by simp)⟩ },?_⟩
 change flen [textF x1,(0x30,enc (x2.map attrF))]≤flen F
 simp only[flen_cons,flen_nil] at r1 r2 ⊢
 omega
theorem goodC_entry (i:Int) (hi:in31 i) (F:List Fd) (m:MT) (hl:flen F≤16384) (h:Rd.contentR (ofK i 4) F=some (m,[])):Fine i 4 (flen F) m:=by
 replace h:Rd.addR (ofK i 4) F=some (m,[]):=h
 obtain⟨m1,G1,h,e2⟩:=then_some h
 have e1:=h
 obtain⟨x1,q1,rfl⟩:=upd_some e1
 obtain⟨o1,r1,l1⟩:=step_good text_good q1 hl
 obtain⟨x2,q2,rfl⟩:=upd_some e2
 obtain⟨o2,r2,l2⟩:=step_good (list_good 48 attr_good) q2 l1
 refine⟨rfl,rfl,rfl,by simp[keptM],{ (bounds_of (k:=4) hi (by omega) (by omega)) with lst:=o2,texts:=⟨o1,(by simp),(by simp),(by simp),(by simp),(by simp),(by simp),(by simp)⟩ },?_⟩
 change flen [textF x1,(0x30,enc (x2.map attrF))]≤flen F
 simp only[flen_cons,flen_nil] at r1 r2 ⊢
 omega
theorem goodC_modName (i:Int) (hi:in31 i) (F:List Fd) (m:MT) (hl:flen F≤16384) (h:Rd.contentR (ofK i 12) F=some (m,[])):Fine i 12 (flen F) m:=by
 replace h:Rd.modNameR (ofK i 12) F=some (m,[]):=h
 obtain⟨m3,G3,h,e4⟩:=then_some h
 obtain⟨m2,G2,h,e3⟩:=then_some h
 obtain⟨m1,G1,e1,e2⟩:=then_some h
 obtain⟨x1,q1,rfl⟩:=upd_some e1
 obtain⟨o1,r1,l1⟩:=step_good text_good q1 hl
 obtain⟨x2,q2,rfl⟩:=upd_some e2
 obtain⟨o2,r2,l2⟩:=step_good text_good q2 l1
 obtain⟨x3,q3,rfl⟩:=upd_some e3
 obtain⟨o3,r3,l3⟩:=step_good flag_good q3 l2
 unfold Rd.supR at e4
 split at e4
 ·rename_i hG
  simp only[Option.some.injEq,Prod.mk.injEq] at e4
  obtain⟨rfl,-⟩:=e4
  refine⟨rfl,rfl,rfl,by simp[keptM],{ (bounds_of (k:=12) hi (by omega) (by omega)) with texts:=⟨o1,(by simp),o2,(by simp),(by simp),(by simp),(by simp),(by simp)⟩ },?_⟩
  change flen [textF x1,textF x2,flagF x3]≤flen F
  simp only[flen_cons,flen_nil] at r1 r2 r3 ⊢
  omega
 ·cases ht:Rd.taggedR 0x80 G3 with
  | none=>rw[ht] at e4;cases e4
  | some q=>
   obtain⟨x,K⟩:=q
   rw[ht] at e4
   simp only[Option.map_some,Option.some.injEq,Prod.mk.injEq] at e4
   obtain⟨rfl,rfl⟩:=e4
   obtain⟨o4,r4,l4⟩:=step_good (tagged_good 0x80) ht l3
   refine⟨rfl,rfl,rfl,by simp[keptM],{ (bounds_of (k:=12) hi (by omega) (by omega)) with texts:=⟨o1,(by simp),o2,o4,(by simp),(by simp),(by simp),(by simp)⟩ },?_⟩
   change flen [textF x1,textF x2,flagF x3,(0x80,x)]≤flen F
   simp only[flen_cons,flen_nil] at r1 r2 r3 r4 ⊢
   omega
theorem cmp_good:Good (Rd.innerR 48 (Rd.andR Rd.textR Rd.textR Prod.mk)) (fun x=>x.1.length≤1000∧x.2.length≤1000) (fun x=>[(48,enc [textF x.1,textF x.2])]):=
 inner_good 48 (and_good (zs:=fun (x:List UInt8 × List UInt8)=>[textF x.1,textF x.2]) text_good text_good (fun x y h1 h2=>⟨h1,h2⟩) (fun x y=>by simp only[flen_cons,flen_nil];omega))
theorem goodC_compare (i:Int) (hi:in31 i) (F:List Fd) (m:MT) (hl:flen F≤16384) (h:Rd.contentR (ofK i 14) F=some (m,[])):Fine i 14 (flen F) m:=by
 replace h:Rd.compareR (ofK i 14) F=some (m,[]):=h
 obtain⟨m1,G1,h,e2⟩:=then_some h
 have e1:=h
 obtain⟨x1,q1,rfl⟩:=upd_some e1
 obtain⟨o1,r1,l1⟩:=step_good text_good q1 hl
 obtain⟨x2,q2,rfl⟩:=upd_some e2
 obtain⟨o2,r2,l2⟩:=step_good cmp_good q2 l1
 refine⟨rfl,rfl,rfl,by simp[keptM],{ (bounds_of (k:=14) hi (by omega) (by omega)) with texts:=⟨o1,(by simp),(by simp),(by simp),o2.1,o2.2,(by simp),(by simp)⟩ },?_⟩
 change flen [textF x1,(0x30,enc [textF x2.1,textF x2.2])]≤flen F
 simp only[flen_cons,flen_nil] at r1 r2 ⊢
 omega
theorem goodC_result (i k:Int) (hk:k=1∨k=5∨k=7∨k=9∨k=11∨k=13∨k=15∨k=24) (hi:in31 i) (F:List Fd) (m:MT) (hl:flen F≤16384) (h:Rd.resultR (ofK i k) F=some (m,[])):Fine i k (flen F) m:=by
 obtain⟨m3,G3,h,e4⟩:=then_some h
 obtain⟨m2,G2,h,e3⟩:=then_some h
 obtain⟨m1,G1,e1,e2⟩:=then_some h
 obtain⟨x1,q1,rfl⟩:=upd_some e1
 obtain⟨o1,r1,l1⟩:=step_good (num_good 0x0a 2147483647) q1 hl
 obtain⟨x2,q2,rfl⟩:=upd_some e2
 obtain⟨o2,r2,l2⟩:=step_good text_good q2 l1
 obtain⟨x3,q3,rfl⟩:=upd_some e3
 obtain⟨o3,r3,l3⟩:=step_good text_good q3 l2
 have hc:∀m:MT,m.kind=k→contentF m=[numF 0x0a m.code,textF m.matched,textF m.text]++refsF m.refs:=fun m hm=>by
  unfold contentF
  rw[hm]
  rcases hk with rfl | rfl | rfl | rfl | rfl | rfl | rfl | rfl<;>rfl
 have hkp:∀m:MT,m.kind=k→keptM m={ id:=m.id,kind:=m.kind,code:=m.code,matched:=m.matched,text:=m.text,refs:=m.refs,ctls:=m.ctls }:=fun m hm=>by
  unfold keptM
  rw[hm]
  rcases hk with rfl | rfl | rfl | rfl | rfl | rfl | rfl | rfl<;>rfl
 have n3:k≠3:=by omega
 have n19:k≠19:=by omega
 unfold Rd.refsR at e4
 split at e4
 ·rename_i hG
  simp only[Option.some.injEq,Prod.mk.injEq] at e4
  obtain⟨rfl,-⟩:=e4
  refine⟨rfl,rfl,rfl,hkp _ rfl,{ (bounds_of (k:=k) hi n3 n19) with texts:=⟨(by simp),(by simp),(by simp),(by simp),(by simp),(by simp),o2,o3⟩,ints:=⟨hi,⟨by simp,by simp⟩,⟨by simp,by simp⟩,⟨by simp,by simp⟩,o1⟩ },?_⟩
  rw[hc _ rfl]
  change flen [numF 0x0a x1,textF x2,textF x3]≤flen F
  simp only[flen_cons,flen_nil] at r1 r2 r3 ⊢
  omega
 ·cases ht:Rd.someR 0xa3 Rd.textR G3 with
  | none=>rw[ht] at e4;cases e4
  | some q=>
   obtain⟨x,K⟩:=q
   rw[ht] at e4
   simp only[Option.map_some,Option.some.injEq,Prod.mk.injEq] at e4
   obtain⟨rfl,rfl⟩:=e4
   obtain⟨o4,r4,l4⟩:=step_good (some_good 0xa3 text_good) ht l3
   refine⟨rfl,rfl,rfl,hkp _ rfl,{ (bounds_of (k:=k) hi n3 n19) with texts:=⟨(by simp),(by simp),(by simp),(by simp),(by simp),(by simp),o2,o3⟩,ints:=⟨hi,⟨by simp,by simp⟩,⟨by simp,by simp⟩,⟨by simp,by simp⟩,o1⟩,refs:=o4.2,refs0:=(fun h=>absurd h n19) },?_⟩
   rw[hc _ rfl,flen_app]
   have hr:refsF x=[(0xa3,enc (x.map textF))]:=by unfold refsF;rw[if_neg o4.1]
   change flen [numF 0x0a x1,textF x2,textF x3]+flen (refsF x)≤flen F
   rw[hr]
   simp only[flen_cons,flen_nil] at r1 r2 r3 r4 ⊢
   omega
end Go.Proofs.YtcpjmgfloimfhaaGreat
namespace Go.Proofs.YtcpjmgfloimfhaaGreat
open Go.RowKit
open Wr
set_option linter.unusedVariables false
structure FineO (i:Int) (n:Nat) (m:MT):Prop where
 id:m.id=i
 known:knownK m.kind
 ctls:m.ctls=[]
 kept:keptM m=m
 ok:Bounds m
 room:(Ber.fieldOf (operF m).1 (operF m).2).length≤n
theorem contentG {i k:Int} (hi:in31 i) {F:List Fd} {m:MT} (hl:flen F≤16384) (h:Rd.contentR (ofK i k) F=some (m,[])):knownK k∧Fine i k (flen F) m:=by
 by_cases h2:k=2
 ·subst h2;exact⟨.inl (by omega),goodC_unbind i hi F m hl h⟩
 by_cases h0:k=0
 ·subst h0;exact⟨.inl (by omega),goodC_bind i hi F m hl h⟩
 by_cases h3:k=3
 ·subst h3;exact⟨.inl (by omega),goodC_search i hi F m hl h⟩
 by_cases h6:k=6
 ·subst h6;exact⟨.inl (by omega),goodC_modify i hi F m hl h⟩
 by_cases h8:k=8
 ·subst h8;exact⟨.inl (by omega),goodC_add i hi F m hl h⟩
 by_cases h4:k=4
 ·subst h4;exact⟨.inl (by omega),goodC_entry i hi F m hl h⟩
 by_cases h12:k=12
 ·subst h12;exact⟨.inl (by omega),goodC_modName i hi F m hl h⟩
 by_cases h14:k=14
 ·subst h14;exact⟨.inl (by omega),goodC_compare i hi F m hl h⟩
 by_cases hr:k=1∨k=5∨k=7∨k=9∨k=11∨k=13∨k=15∨k=24
 ·have e:Rd.contentR (ofK i k) F=Rd.resultR (ofK i k) F:=by rcases hr with rfl | rfl | rfl | rfl | rfl | rfl | rfl | rfl<;>rfl
  rw[e] at h
  exact⟨by unfold knownK;omega,goodC_result i k hr hi F m hl h⟩
 ·exfalso
  have e:Rd.contentR (ofK i k) F=Rd.noR (ofK i k) F:=by
   unfold Rd.contentR
   simp only[if_neg h2,if_neg h0,if_neg h3,if_neg h6,if_neg h8,if_neg h4,if_neg h12,if_neg h14,if_neg (show k≠1 by omega),if_neg (show k≠5 by omega),if_neg (show k≠7 by omega),if_neg (show k≠9 by omega),if_neg (show k≠11 by omega),if_neg (show k≠13 by omega),if_neg (show k≠15 by omega),if_neg (show k≠24 by omega)]
  rw[e] at h
  cases h
theorem operG {i:Int} (hi:in31 i) {F G:List Fd} {m:MT} (hl:flen F≤16384) (h:Rd.operR (ofK i 0) F=some (m,G)):∃n,FineO i n m∧n+flen G≤flen F:=by
 unfold Rd.operR at h
 cases F with
 | nil=>cases h
 | cons f r=>
  obtain⟨t,c⟩:=f
  simp only at h
  obtain⟨K,hK⟩:∃K,Rd.kindOf t=K:=⟨_,rfl⟩
  rw[hK] at h
  by_cases hop:opV K=(t.toNat:Int)
  ·rw [if_pos hop] at h
   refine⟨(Ber.fieldOf t c).length,?_⟩
   by_cases h10:K=10
   ·rw [if_pos h10] at h
    subst h10
    obtain⟨x,q,d⟩:=upd_some h
    replace d:m=({ id:=i,kind:=10,name:=x }:MT):=d
    subst d
    obtain⟨o1,r1,l1⟩:=step_good (tagged_good t) q hl
    have hq:x=c∧G=r:=by
     unfold Rd.taggedR at q
     rw[take_enc] at q
     simp only at q
     split at q
     ·cases q;exact⟨rfl,rfl⟩
     ·cases q
    obtain⟨rfl,rfl⟩:=hq
    refine⟨⟨rfl,.inl (by simp),rfl,by simp[keptM],{ (bounds_of (k:=10) hi (by omega) (by omega)) with texts:=⟨o1,by simp,by simp,by simp,by simp,by simp,by simp,by simp⟩ },?_⟩,by rw[flen_cons];exact Nat.le_refl _⟩
    exact Nat.le_of_eq (fieldOf_tag _ _ _)
   ·rw [if_neg h10] at h
    by_cases h16:K=16
    ·rw [if_pos h16] at h
     subst h16
     obtain⟨x,q,d⟩:=upd_some h
     replace d:m=({ id:=i,kind:=16,target:=x }:MT):=d
     subst d
     obtain⟨o1,r1,l1⟩:=step_good (num_good t 2147483647) q hl
     have hq:Ber.intOfs x=c∧G=r:=by
      unfold Rd.numR at q
      rw[take_enc] at q
      simp only at q
      split at q
      ·rename_i hc
       cases q
       refine⟨?_,rfl⟩
       have h0:=hc.1
       unfold Ber.toInt at h0 ⊢
       split at h0
       ·rename_i hz
        rw[if_pos hz]
        exact (Ber.intOfs_sv c hz.1 hz.2.1).2 hz.2.2
       ·simp at h0
      ·cases q
     obtain⟨hx,rfl⟩:=hq
     refine⟨⟨rfl,.inl (by simp),rfl,by simp[keptM],{ (bounds_of (k:=16) hi (by omega) (by omega)) with ints:=⟨hi,⟨by simp,by simp⟩,⟨by simp,by simp⟩,o1,⟨by simp,by simp⟩⟩ },?_⟩,by rw[flen_cons];exact Nat.le_refl _⟩
     rw[←hx]
     exact Nat.le_of_eq (fieldOf_tag _ _ _)
    ·rw [if_neg h16] at h
     by_cases h19:K=19
     ·rw [if_pos h19] at h
      subst h19
      obtain⟨x,q,d⟩:=upd_some h
      replace d:m=({ id:=i,kind:=19,refs:=x }:MT):=d
      subst d
      obtain⟨o1,r1,l1⟩:=step_good (some_good t text_good) q hl
      have hG:G=r:=by
       unfold Rd.someR at q
       cases hw:Rd.listR t Rd.textR ((t,c)::r) with
       | none=>rw[hw] at q;cases q
       | some z=>
        obtain⟨y,K2⟩:=z
        rw[hw] at q
        obtain⟨c2,H2,e2,-,-⟩:=inner_some hw
        cases y with
        | nil=>cases q
        | cons y0 y=>cases q;cases e2;rfl
      subst hG
      refine⟨⟨rfl,.inr (.inl rfl),rfl,by simp[keptM],{ ints:=(bounds_of (k:=0) hi (by omega) (by omega):Bounds (ofK i 0)).ints,ver:=⟨by simp,by simp⟩,scope:=⟨by simp,by simp⟩,deref:=⟨by simp,by simp⟩,filt:=(fun h=>absurd h (by simp)),refs0:=(fun _=>o1.1),texts:=⟨by simp,by simp,by simp,by simp,by simp,by simp,by simp,by simp⟩,attrs:=by simp,refs:=o1.2,lst:=by simp,chs:=by simp,ctls:=by simp },?_⟩,by rw[flen_cons];exact Nat.le_refl _⟩
      have e:(operF ({ id:=i,kind:=19,refs:=x }:MT)).2=enc (x.map textF):=rfl
      rw[e]
      simp only[flen_cons,flen_nil] at r1
      rw[fieldOf_tag _ t]
      omega
     ·rw [if_neg h19] at h
      obtain⟨x,q,d⟩:=upd_some h
      replace d:m=x:=d
      subst d
      obtain⟨c2,H,e2,hf,hp⟩:=inner_some q
      cases e2
      have hcl:=flen_content (t:=t) (c:=c) (r:=G)
      have hH:=fields_short hf (by omega)
      obtain⟨hkn,hfi⟩:=contentG hi (k:=K) (by omega) hp
      have hkk:=hfi.kind
      refine⟨⟨hfi.id,by rw[hkk];exact hkn,hfi.ctls,hfi.kept,hfi.ok,?_⟩,by rw[flen_cons];exact Nat.le_refl _⟩
      have e:(operF m).2=enc (contentF m):=by unfold operF;rw[hkk,if_neg h10,if_neg h16]
      rw[e]
      have hr:=hfi.room
      exact fieldOf_mono (by show flen (contentF m)≤_;omega) (by omega)
  ·rw [if_neg hop] at h;cases h
theorem decode_good {b:List UInt8} {m:MT} (h:Rd.decode b=some m):FormedM m∧(bytesW m).length≤b.length∧b.length≤16384:=by
 unfold Rd.decode at h
 split at h
 ·rename_i hb
  unfold Rd.wholeR at h
  cases hf:Rd.fieldsOf b with
  | none=>rw[hf] at h;cases h
  | some F=>
   rw[hf] at h
   have hF:=fields_short hf (by omega)
   cases hi:Rd.innerR 48 Rd.messageR F with
   | none=>simp only[hi] at h;cases h
   | some q=>
    obtain⟨x,K⟩:=q
    simp only[hi] at h
    cases K with
    | cons k K=>cases h
    | nil=>
     obtain rfl:x=m:=by simpa using h
     obtain⟨c,H,rfl,hc,hp⟩:=inner_some hi
     have hcl:=flen_content (t:=48) (c:=c) (r:=[])
     have hH:=fields_short hc (by omega)
     obtain⟨m2,G2,h2,h3⟩:=then_some (a:=Rd.thenR Rd.idR Rd.operR) (b:=Rd.ctlsR) hp
     obtain⟨m1,G1,h1,h2⟩:=then_some h2
     obtain⟨x1,q1,d1⟩:=upd_some h1
     replace d1:m1=ofK x1 0:=d1
     subst d1
     obtain⟨o1,r1,l1⟩:=step_good (num_good 2 2147483647) q1 (by omega)
     obtain⟨n,hfo,hn⟩:=operG o1 l1 h2
     have hid:=hfo.id
     have hro:=hfo.room
     simp only[flen_cons,flen_nil] at r1
     unfold Rd.ctlsR at h3
     split at h3
     ·rename_i hG
      subst hG
      simp only[Option.some.injEq,Prod.mk.injEq] at h3
      obtain⟨rfl,-⟩:=h3
      refine⟨⟨hfo.known,hfo.kept,hfo.ok⟩,?_,hb⟩
      have e:bytesW m2=enc [(0x30,enc (numF 2 m2.id::operF m2::[]))]:=by unfold bytesW messageF ctlsF;rw[hfo.ctls,if_pos rfl]
      rw[e,hid]
      have hm:flen (numF 2 x1::operF m2::[])≤c.length:=by rw[flen_cons,flen_cons,flen_nil];rw[flen_nil] at hn;omega
      have:=fieldOf_mono (t:=0x30) (t':=48) (a:=enc (numF 2 x1::operF m2::[])) (b:=c) hm (by omega)
      show flen [(0x30,enc (numF 2 x1::operF m2::[]))]≤_
      rw[flen_cons] at hF ⊢
      rw[flen_nil] at hF ⊢
      simp only at hF ⊢
      omega
     ·cases hs:Rd.someR 0xa0 Rd.controlR G2 with
      | none=>rw[hs] at h3;cases h3
      | some q=>
       obtain⟨L,K⟩:=q
       rw[hs] at h3
       simp only[Option.map_some,Option.some.injEq,Prod.mk.injEq] at h3
       obtain⟨rfl,rfl⟩:=h3
       obtain⟨o2,r2,l2⟩:=step_good (some_good 0xa0 control_good) hs (by omega)
       have hk2:keptM ({ m2 with ctls:=L }:MT)={ m2 with ctls:=L }:=by
        have hk:=hfo.kept
        have e:keptM ({ m2 with ctls:=L }:MT)={ keptM m2 with ctls:=L }:=by
         unfold keptM
         by_cases c0:m2.kind=0
         ·simp only[c0,if_true]
         by_cases c3:m2.kind=3
         ·simp only[c3];rfl
         by_cases c6:m2.kind=6
         ·simp only[c6];rfl
         by_cases c4:m2.kind=4∨m2.kind=8
         ·rcases c4 with c4 | c4<;>(simp only[c4];rfl)
         by_cases c10:m2.kind=10
         ·simp only[c10];rfl
         by_cases c12:m2.kind=12
         ·simp only[c12];rfl
         by_cases c14:m2.kind=14
         ·simp only[c14];rfl
         by_cases c16:m2.kind=16
         ·simp only[c16];rfl
         by_cases c1:m2.kind=1∨m2.kind=5∨m2.kind=7∨m2.kind=9∨m2.kind=11∨m2.kind=13∨m2.kind=15∨m2.kind=24
         ·rcases c1 with c1 | c1 | c1 | c1 | c1 | c1 | c1 | c1<;>(simp only[c1];rfl)
         by_cases c19:m2.kind=19
         ·simp only[c19];rfl
         simp only[if_neg c0,if_neg c3,if_neg c6,if_neg c4,if_neg c10,if_neg c12,if_neg c14,if_neg c16,if_neg c1,if_neg c19]
        rw[e,hk]
       have hb2:=hfo.ok
       refine⟨⟨hfo.known,hk2,⟨hb2.ints,hb2.ver,hb2.scope,hb2.deref,hb2.filt,hb2.refs0,hb2.texts,hb2.attrs,hb2.refs,hb2.lst,hb2.chs,o2.2⟩⟩,?_,hb⟩
       have e:bytesW ({ m2 with ctls:=L }:MT)=enc [(0x30,enc (numF 2 m2.id::operF m2::[(0xa0,enc (L.map controlF))]))]:=by
        unfold bytesW messageF ctlsF
        rw[if_neg o2.1]
        rfl
       rw[e,hid]
       simp only[flen_cons,flen_nil] at r2
       have hm:flen (numF 2 x1::operF m2::[(0xa0,enc (L.map controlF))])≤c.length:=by rw[flen_cons,flen_cons,flen_cons,flen_nil];simp only;omega
       have:=fieldOf_mono (t:=0x30) (t':=48) (a:=enc (numF 2 x1::operF m2::[(0xa0,enc (L.map controlF))])) (b:=c) hm (by omega)
       show flen [(0x30,enc (numF 2 x1::operF m2::[(0xa0,enc (L.map controlF))]))]≤_
       rw[flen_cons] at hF ⊢
       rw[flen_nil] at hF ⊢
       simp only at hF ⊢
       omega
 ·cases h
end Go.Proofs.YtcpjmgfloimfhaaGreat
namespace Go.Proofs.YtcpjmgfloimfhaaGreat
open Go.RowKit
set_option linter.unusedVariables false
theorem jsame_any (t:FT):t.wee→∀(t':FT) (w:World) (u0 u1 u2 u3 u4 u5 u6 v0 v1 v2 v3 v4 v5 v6:Value),FIn w w.heap.size t [u0,u1,u2,u3,u4,u5,u6]→FIn w w.heap.size t' [v0,v1,v2,v3,v4,v5,v6]→
  ∀b:Bool,(b=true↔t=t')→
  Calls Tryz.prog 50 #[.agg #[u0,u1,u2,u3,u4,u5,u6],.agg #[v0,v1,v2,v3,v4,v5,v6]] w fun e w'=>e=.returned (.bool b)∧Below w.heap.size w w':=by
 induction t using FT.induct
 rename_i k a v f l any ps ih
 intro hwee t' w u0 u1 u2 u3 u4 u5 u6 v0 v1 v2 v3 v4 v5 v6 hF hF' b hb
 cases t' with
 | mk k' a' v' f' l' any' ps'=>
 simp only[FT.wee] at hwee
 simp only[FIn] at hF hF'
 obtain⟨A,c,D,dd,xs,hcs,⟨hml,hnl⟩,hA,hD,hP⟩:=hF
 cases hcs
 obtain⟨A',c',D',dd',xs',hcs,⟨hml',hnl'⟩,hA',hD',hP'⟩:=hF'
 cases hcs
 obtain⟨m,hm⟩:∃m,any.length=m:=⟨_,rfl⟩
 obtain⟨np,hnp⟩:∃np,ps.length=np:=⟨_,rfl⟩
 obtain⟨m',hm'⟩:∃m',any'.length=m':=⟨_,rfl⟩
 obtain⟨np',hnp'⟩:∃np',ps'.length=np':=⟨_,rfl⟩
 have hX:=Box7.new w k (txt a) (txt v) (txt f) (txt l) A any.length c D ps.length dd 39
 have hb0:=below1 w (.cells #[.int .i64 k,.string (txt a),.string (txt v),.string (txt f),.string (txt l),.slice A any.length c,.slice D ps.length dd] 39)
 obtain⟨w1,hw1⟩:∃w1,(w.alloc (.cells #[.int .i64 k,.string (txt a),.string (txt v),.string (txt f),.string (txt l),.slice A any.length c,.slice D ps.length dd] 39))=w1:=⟨_,rfl⟩
 have hsz:w1.heap.size=w.heap.size+1:=by rw[←hw1];simp
 rw[hw1] at hX hb0
 have hY:=Box7.new w1 k' (txt a') (txt v') (txt f') (txt l') A' any'.length c' D' ps'.length dd' 39
 have hb1:=below1 w1 (.cells #[.int .i64 k',.string (txt a'),.string (txt v'),.string (txt f'),.string (txt l'),.slice A' any'.length c',.slice D' ps'.length dd'] 39)
 have hX1:=hX.below hX.lt hb1
 have hb2:=hb0.trans (hb1.mono hb0.size)
 have hTx:=fun (W:World) hA hA'=>jequal_any W A A' any.length c any'.length c' any any' hA hA' (by omega)
 have hEx:=fun (W:World) (hb:Below w.heap.size w W)=>jequalf_any 50 #[] (fun _ _=>rfl) ps ps' W D D' ps.length ps'.length dd dd' xs xs' ((hD.below hb).upto hb.size) ((hP.below hb).upto hb.size) ((hD'.below hb).upto hb.size) ((hP'.below hb).upto hb.size) rfl rfl (by unfold maxLen at hnl;omega) (by unfold maxLen at hnl';omega) (fun p hp q W2 u0 u1 u2 u3 u4 u5 u6 v0 v1 v2 v3 v4 v5 v6 hb2 h1 h2=>ih p hp (FT.weeL_mem hwee.2.2 p hp) q W2 u0 u1 u2 u3 u4 u5 u6 v0 v1 v2 v3 v4 v5 v6 h1 h2 (FT.eqB p q) FT.eqB_iff)
 unfold maxLen at hml hnl hml' hnl'
 rw[hm,hm'] at hTx
 rw[hnp,hnp'] at hEx
 rw[hm,hnp] at hX1 hw1 ⊢
 rw[hm',hnp'] at hY hb1 hb2 hX1 ⊢
 rw[hsz] at hY
 have hnl1:(np:Int)≤9223372036854775807:=by omega
 have hA2:=(hA.below hb2).upto hb2.size
 have hA2':=(hA'.below hb2).upto hb2.size
 rw[hm] at hA2
 rw[hm'] at hA2'
 have hw2:∃w2,w1.alloc (.cells #[.int .i64 k',.string (txt a'),.string (txt v'),.string (txt f'),.string (txt l'),.slice A' m' c',.slice D' np' dd'] 39)=w2:=⟨_,rfl⟩
 obtain⟨w2,hw2⟩:=hw2
 have HW1:=hide hw1
 have HW2:=hide hw2
 rw[hw2] at hX1 hY hb2 hA2 hA2'
 have HX:=hide hX1
 have HY:=hide hY
 have HB:=hide hb2
 have HD:=hide hD
 have HP:=hide hP
 have HD':=hide hD'
 have HP':=hide hP'
 have Hih:=hide ih
 have Hnp:=hide hnp
 have Hnp':=hide hnp'
 have HTx:=hide (hTx w2 hA2 hA2')
 have HEx:=hide hEx
 have Hb:=hide hb
 have HSz:=hide hsz
 have inj:=fun h=>FT.mk.inj (hb.1 h)
 clear hEx hwee hD hP hD' hP' ih hnp hnp' hTx hA hA' hA2 hA2' hb hm hm' hml hnl hml' hnl' hX hb0 hb1 hb2 hw1 hw2
 obtain⟨_,c0,c1,c2,c3,c4,c5,c6⟩:=hX1
 obtain⟨_,d0,d1,d2,d3,d4,d5,d6⟩:=hY
 by_cases h0:k=k'
 ·subst h0
  by_cases h1:a=a'
  ·subst h1
   by_cases h2:v=v'
   ·subst h2
    by_cases h3:f=f'
    ·subst h3
     by_cases h4:l=l'
     ·subst h4
      by_cases h5:any=any'
      ·have hbf:Hid (b=FT.eqsB ps ps'):=hide (by
        rw[Bool.eq_iff_iff,Hb.out,FT.eqsB_iff]
        exact⟨fun h=>(FT.mk.inj h).2.2.2.2.2.2,fun h=>by rw[h5,h]⟩)
       have hcall:=HTx.out
       rw[decide_eq_true h5] at hcall
       obtain⟨R,hR⟩:∃R,FT.eqsB ps ps'=R:=⟨_,rfl⟩
       rw[hR] at hbf
       have HR:=hide hR
       clear HTx inj h5 hR
       clear HD HP HD' HP' Hih Hnp Hnp' Hb
       generalize txt a=sa at *
       generalize txt v=sv at *
       generalize txt f=sf at *
       generalize txt l=sl at *
       go_enter Tryz.func50,Tryz.ntmps50
       go_upto_region 1 with fail
       rw[HW1.out,HW2.out]
       (try rw[HSz.out])
       go_wp2_with (go_at_call 51;fail)
       refine hcall.mono ?_
       rintro e w3 ⟨rfl,hb3⟩
       have HX3:=hide (HX.out.below HX.out.lt hb3)
       have HY3:=hide (HY.out.below HY.out.lt hb3)
       have HB3:=hide (HB.out.trans (hb3.mono HB.out.size))
       have hcall2:=HEx.out w3 HB3.out
       rw[HR.out] at hcall2
       clear hcall hb3 HX HY HB HEx HR c0 c1 c2 c3 c4 c5 c6 d0 d1 d2 d3 d4 d5 d6
       obtain⟨_,c0,c1,c2,c3,c4,c5,c6⟩:=HX3.out
       obtain⟨_,d0,d1,d2,d3,d4,d5,d6⟩:=HY3.out
       go_wp2_with (go_at_call 95;fail)
       refine hcall2.mono ?_
       rintro e w5 ⟨rfl,hb5⟩
       have HB5:=hide (HB3.out.trans (hb5.mono HB3.out.size))
       clear hcall2 hb5 HX3 HY3 HB3 c0 c1 c2 c3 c4 c5 c6 d0 d1 d2 d3 d4 d5 d6
       go_wp2
       go_ret
       exact⟨by rw[hbf.out];rfl,HB5.out⟩
      ·have hcall:=HTx.out
       rw[decide_eq_false h5] at hcall
       have hbf:Hid (b=false):=hide (by
        cases hbb:b with
        | false=>rfl
        | true=>exact absurd (inj hbb).2.2.2.2.2.1 h5)
       clear HTx HEx inj h5
       clear HD HP HD' HP' Hih Hnp Hnp' Hb
       generalize txt a=sa at *
       generalize txt v=sv at *
       generalize txt f=sf at *
       generalize txt l=sl at *
       go_enter Tryz.func50,Tryz.ntmps50
       go_upto_region 1 with fail
       rw[HW1.out,HW2.out]
       (try rw[HSz.out])
       go_wp2_with (go_at_call 51;fail)
       refine hcall.mono ?_
       rintro e w3 ⟨rfl,hb3⟩
       have HB3:=hide (HB.out.trans (hb3.mono HB.out.size))
       clear hcall hb3 HX HY HB c0 c1 c2 c3 c4 c5 c6 d0 d1 d2 d3 d4 d5 d6
       go_wp2
       go_ret
       exact⟨by rw[hbf.out];rfl,HB3.out⟩
     ·have e1:=str_ne h4
      have hbf:Hid (b=false):=hide (by
       cases hbb:b with
       | false=>rfl
       | true=>exact absurd (by have h:=hbb;exact (inj h |>.2.2.2.2.1)) h4)
      clear h4 inj HTx HEx
      clear HD HP HD' HP' Hih Hnp Hnp' Hb
      generalize txt a=sa at *
      generalize txt v=sv at *
      generalize txt f=sf at *
      generalize txt l=sl at *
      generalize txt l'=sl' at *
      go_enter Tryz.func50,Tryz.ntmps50
      go_upto_region 1 with fail
      rw[HW1.out,HW2.out]
      (try rw[HSz.out])
      go_wp2
      go_ret
      exact⟨by rw[hbf.out];rfl,HB.out⟩
    ·have e1:=str_ne h3
     have hbf:Hid (b=false):=hide (by
      cases hbb:b with
      | false=>rfl
      | true=>exact absurd (by have h:=hbb;exact (inj h |>.2.2.2.1)) h3)
     clear h3 inj HTx HEx
     clear HD HP HD' HP' Hih Hnp Hnp' Hb
     generalize txt a=sa at *
     generalize txt v=sv at *
     generalize txt f=sf at *
     generalize txt l=sl at *
     generalize txt f'=sf' at *
     generalize txt l'=sl' at *
     go_enter Tryz.func50,Tryz.ntmps50
     go_upto_region 1 with fail
     rw[HW1.out,HW2.out]
     (try rw[HSz.out])
     go_wp2
     go_ret
     exact⟨by rw[hbf.out];rfl,HB.out⟩
   ·have e1:=str_ne h2
    have hbf:Hid (b=false):=hide (by
     cases hbb:b with
     | false=>rfl
     | true=>exact absurd (by have h:=hbb;exact (inj h |>.2.2.1)) h2)
    clear h2 inj HTx HEx
    clear HD HP HD' HP' Hih Hnp Hnp' Hb
    generalize txt a=sa at *
    generalize txt v=sv at *
    generalize txt f=sf at *
    generalize txt l=sl at *
    generalize txt v'=sv' at *
    generalize txt f'=sf' at *
    generalize txt l'=sl' at *
    go_enter Tryz.func50,Tryz.ntmps50
    go_upto_region 1 with fail
    rw[HW1.out,HW2.out]
    (try rw[HSz.out])
    go_wp2
    go_ret
    exact⟨by rw[hbf.out];rfl,HB.out⟩
  ·have e1:=str_ne h1
   have hbf:Hid (b=false):=hide (by
    cases hbb:b with
    | false=>rfl
    | true=>exact absurd (by have h:=hbb;exact (inj h |>.2.1)) h1)
   clear h1 inj HTx HEx
   clear HD HP HD' HP' Hih Hnp Hnp' Hb
   generalize txt a=sa at *
   generalize txt v=sv at *
   generalize txt f=sf at *
   generalize txt l=sl at *
   generalize txt a'=sa' at *
   generalize txt v'=sv' at *
   generalize txt f'=sf' at *
   generalize txt l'=sl' at *
   go_enter Tryz.func50,Tryz.ntmps50
   go_upto_region 1 with fail
   rw[HW1.out,HW2.out]
   (try rw[HSz.out])
   go_wp2
   go_ret
   exact⟨by rw[hbf.out];rfl,HB.out⟩
 ·have e1:(k==k')=false:=beq_false_of_ne h0
  have hbf:Hid (b=false):=hide (by
   cases hbb:b with
   | false=>rfl
   | true=>exact absurd (by have h:=hbb;exact (inj h |>.1)) h0)
  clear h0 inj HTx HEx
  clear HD HP HD' HP' Hih Hnp Hnp' Hb
  generalize txt a=sa at *
  generalize txt v=sv at *
  generalize txt f=sf at *
  generalize txt l=sl at *
  generalize txt a'=sa' at *
  generalize txt v'=sv' at *
  generalize txt f'=sf' at *
  generalize txt l'=sl' at *
  go_enter Tryz.func50,Tryz.ntmps50
  go_upto_region 1 with fail
  rw[HW1.out,HW2.out]
  (try rw[HSz.out])
  go_wp2
  go_ret
  exact⟨by rw[hbf.out];rfl,HB.out⟩
end Go.Proofs.YtcpjmgfloimfhaaGreat
