/- EntryMakes: any name and attributes make the entry that the document says, or its code. By an AI agent. -/
import Derived.Test.YtiobnllopliclaaGreatDoorRMake
import Derived.Test.YtiobnllopliclaaGreatDoorEY
import Derived.Test.YtiobnllopliclaaGreatDoorEX
import Derived.Test.YtiobnllopliclaaGreatDoorDAwake
import Derived.Test.YtiobnllopliclaaGreatDoorOpenEnts
set_option maxRecDepth 100000
set_option maxHeartbeats 64000000
namespace Go.Proofs.YtiobnllopliclaaGreatDoor
open Go Go.RowKit Go.Proofs.YtiobnllopliclaaGreatDoor.Opens
set_option linter.unusedVariables false
set_option linter.unusedSimpArgs false
theorem val_short {n v:List UInt8} (h:(valV n v).2=0):v.length≤200:=by
 cases vway n v with
 | other _ e=>
  rw[e] at h
  unfold norm at h
  split at h
  ·simp at h
  ·split at h
   ·simp at h
   ·split at h
    ·simp at h
    ·rename_i hn
     omega
 | short _ hv e=>omega
 | long _ _ hw e=>rw[e] at h;simp at h
 | none _ _ hw _ e=>omega
 | name _ _ hw _ _ e=>omega
theorem formed_small {nm:List UInt8} {L:List EA} (h:FormedE nm L):L.length≤14∧nm.length≤1000∧∀a∈L,a.2.length≤1000000∧∀u∈a.2,u.length≤1000000:=by
 have hl:=h.loose
 have hn:=(norm_again (l:=nm) (by rw[hl.norm])).2
 rw[hl.norm] at hn
 refine⟨hl.attrs.le,hn,fun a ha=>?_⟩
 have hf:=hl.attrs.each a ha
 exact⟨by have:=hf.hi;omega,fun u hu=>by have:=val_short (hf.ok u hu);omega⟩
theorem cnt_w (L:List EA):cntE L≤(L.map aW).sum:=by
 unfold cntE
 induction L with
 | nil=>simp
 | cons a L ih=>
  simp only[List.map_cons,List.sum_cons]
  unfold aW
  unfold aW at ih
  omega
structure VM (w0 w:World) (A:Option Addr) (n:Nat) (xs:List Value) (L:List EA):Prop where
 base:Below w0.heap.size w0 w
 tm:TM w
 has:Has w w.heap.size 2 A n xs
 attrs:EAs w w.heap.size xs L
theorem VM.grow {w0 w w':World} {A:Option Addr} {n:Nat} {xs:List Value} {L:List EA} (h:VM w0 w A n xs L) (hb:Below w.heap.size w w'):VM w0 w' A n xs L:=
 ⟨h.base.trans (hb.mono h.base.size),h.tm.below hb,(h.has.below hb).upto hb.size,h.attrs.grow hb⟩
theorem awakeM_any (w:World) (hT:TM w):Calls Tryz.prog 10 #[] w fun e w'=>e=.returned (.bool true)∧Below w.heap.size w w':=by
 have hb1:=below1 w (.cells #[.string ⟨#[65]⟩] 9)
 have hX1:Blk (w.alloc (.cells #[.string ⟨#[65]⟩] 9)) w.heap.size [.string ⟨#[65]⟩]:=Blk.new w [.string ⟨#[65]⟩] 9
 obtain⟨w1,hw1⟩:∃w1,w.alloc (.cells #[.string ⟨#[65]⟩] 9)=w1:=⟨_,rfl⟩
 have hs1:w1.heap.size=w.heap.size+1:=by rw[←hw1];simp
 rw[hw1] at hb1 hX1
 have hb2:=below1 w1 (.cells #[.string ⟨#[112,101,114,115,111,110]⟩] 9)
 have hX2:Blk (w1.alloc (.cells #[.string ⟨#[112,101,114,115,111,110]⟩] 9)) w1.heap.size [.string ⟨#[112,101,114,115,111,110]⟩]:=Blk.new w1 [.string ⟨#[112,101,114,115,111,110]⟩] 9
 obtain⟨w2,hw2⟩:∃w2,w1.alloc (.cells #[.string ⟨#[112,101,114,115,111,110]⟩] 9)=w2:=⟨_,rfl⟩
 have hs2:w2.heap.size=w.heap.size+2:=by rw[←hw2];simp[hs1]
 rw[hw2] at hb2 hX2
 rw[hs1] at hX2
 obtain⟨us,hus⟩:∃us:List Value,[.string ⟨#[99,110]⟩,.slice (some ⟨w.heap.size,0,none⟩) 1 1,.string ⟨#[111,98,106,101,99,116,99,108,97,115,115]⟩,.slice (some ⟨w.heap.size+1,0,none⟩) 1 1]=us:=⟨_,rfl⟩
 have hb3:=below1 w2 (.cells us.toArray 52)
 have hX3:Blk (w2.alloc (.cells us.toArray 52)) w2.heap.size us:=Blk.new w2 us 52
 obtain⟨w3,hw3⟩:∃w3,w2.alloc (.cells us.toArray 52)=w3:=⟨_,rfl⟩
 rw[hw3] at hb3 hX3
 rw[hs2] at hX3
 have hY1:=(hX1.grow hb2).grow hb3
 have hY2:=hX2.grow hb3
 have hbb:Below w.heap.size w w3:=(hb1.trans (hb2.mono (by omega))).trans (hb3.mono (by omega))
 have blkH:∀{w:World} {h:Nat} {us:List Value} (t:Blk w h us) (size n:Nat) (hl:us.length=n*size),Has w w.heap.size size (some ⟨h,0,none⟩) n us:=fun {w h us} t size n hl=>⟨hl,.inr ⟨_,rfl,t.lt,fun j u hu=>by
  have:=t.cells j u hu
  rwa [show (⟨h,0,none⟩:Addr).add j=⟨h,j,none⟩ by unfold Addr.add;split<;>simp_all]⟩⟩
 have h1:=blkH hY1 1 1 rfl
 have h2:=blkH hY2 1 1 rfl
 have h3:=blkH hX3 2 2 (by rw[←hus];rfl)
 have hE:EAs w3 w3.heap.size us awA:=by
  rw[←hus]
  refine⟨rfl,fun i a ha=>?_⟩
  match i,ha with
  | 0,ha=>obtain rfl:=Option.some.inj ha;exact⟨_,1,rfl,rfl,by decide,by unfold maxLen;omega,h1⟩
  | 1,ha=>obtain rfl:=Option.some.inj ha;exact⟨_,1,rfl,rfl,by decide,by unfold maxLen;omega,h2⟩
  | k+2,ha=>cases ha
 have hM:=pmake_any awN awA w3 _ 2 2 us h3 hE (hT.below hbb) (by decide) (by decide) (fun a ha=>by
  rcases List.mem_cons.1 ha with rfl | ha
  ·decide
  ·obtain rfl:=List.mem_singleton.1 ha;decide) (fun a ha v hv=>by
  rcases List.mem_cons.1 ha with rfl | ha
  ·obtain rfl:=List.mem_singleton.1 hv;decide
  ·obtain rfl:=List.mem_singleton.1 ha
   obtain rfl:=List.mem_singleton.1 hv
   decide) (by decide)
 have hfm:FormedE awM awB:=by
  rcases make_formed awN awA with h | h
  ·rw [make_aw] at h;exact h.2
  ·rw [make_aw] at h;exact absurd rfl h.1
 rw[make_aw] at hM
 change Calls Tryz.prog 12 #[.string ⟨#[67,78,61,97,44,100,99,61,120]⟩,.slice (some ⟨w.heap.size+2,0,none⟩) 2 2] w3 (MadePost awM awB 0 w3) at hM
 have hF:∀(w:World) (A:Option Addr) (c:Nat) (xs:List Value),Has w w.heap.size 2 A 2 xs→EAs w w.heap.size xs awB→TM w→Calls Tryz.prog 15 #[.agg #[.string (txt awM),.slice A 2 c]] w fun e w'=>e=.returned (.bool true)∧Below w.heap.size w w':=fun w A c xs hA hL hT=>by
  have hsm:=formed_small hfm
  have:=pformedE_any awM awB w A 2 c xs hA hL (by decide) (by omega) hsm.2.2 hT
  rw[Tr_yes hfm] at this
  exact this
 have q:((txt awM).toList==[99,110,61,97,44,100,99,61,120])=true:=by
  rw[txt_bytes]
  decide
 have hTw:=hT.below hbb
 subst hus
 have HM:=hide hM
 have HF:=hide hF
 have HB:=hide hbb
 have HTw:=hide hTw
 have Hw:=hide (And.intro hw1 (And.intro hw2 hw3))
 have Hs:=hide (And.intro hs1 hs2)
 clear hM hF hbb hE h1 h2 h3 hY1 hY2 hX1 hX2 hX3 hb1 hb2 hb3 hw1 hw2 hw3 hs1 hs2 hT hfm hTw blkH
 generalize hMN:txt awM=MN at *
 have HMN:=hide hMN
 clear hMN
 go_enter Tryz.func10,Tryz.ntmps10
 go_wp2_with (go_at_call 12;fail)
 rw[Hw.out.1]
 try rw[Hs.out.1]
 rw[Hw.out.2.1]
 try rw[Hs.out.2]
 rw[Hw.out.2.2]
 refine HM.out.mono ?_
 rintro e w5 hpost
 obtain⟨A5,c5,ys5,rfl,_,_,hh5,he5,hb5⟩:=hpost.out
 rw[HMN.out]
 have hl:awB.length=2:=rfl
 rw[hl] at hh5 ⊢
 have h5:=hh5.has (B:=w5.heap.size) fun b hb=>hb.2
 have e5:=he5.eas (B:=w5.heap.size) fun b hb=>hb.2
 have HB5:=hide (HB.out.trans (hb5.mono HB.out.size))
 have HT5:=hide (HTw.out.below hb5)
 have hbx:=below1 w5 (.cells #[.string MN,.slice A5 2 c5] 26)
 have hX:=BoxE.new w5 MN A5 2 c5 26
 have x0:=hX.c0
 have x1:=hX.c1
 have HFc:=hide (HF.out _ A5 c5 ys5 ((h5.below hbx).upto hbx.size) (e5.grow hbx) (HT5.out.below hbx))
 have HB6:=hide (HB5.out.trans (hbx.mono HB5.out.size))
 clear hpost hh5 he5 hb5 h5 e5 HB5 HT5 hbx hX HM HF HB HTw Hw Hs hl
 go_wp2_with (go_at_call 15;fail)
 refine HFc.out.mono ?_
 rintro e w7 ⟨rfl,hb7⟩
 have HB7:=hide (HB6.out.trans (hb7.mono HB6.out.size))
 clear hb7 HFc HB6 x0 x1
 go_wp2
 go_ret
 exact⟨rfl,HB7.out⟩
theorem few1_any (s:List UInt8) (L:List EA) (w:World) (A:Option Addr) (c:Nat) (xs:List Value) (hA:Has w w.heap.size 2 A 1 xs) (hL:ENs w w.heap.size xs [(s,L)]) (hb:BulkN (s,L)) (k:Nat):
  Calls Tryz.prog 11 #[.slice A 1 c] w fun e w'=>e=.returned (.bool (decide (nW [(s,L)]≤3000)))∧w'=w:=by
 have hS:=rsmallE_all [(s,L)] w A 1 c xs hA hL (by omega) (fun e he=>by obtain rfl:=List.mem_singleton.1 he;exact hb)
 generalize decide (nW [(s,L)]≤3000)=b at *
 have HS:=hide hS
 clear hS hA hL hb
 go_enter Tryz.func11,Tryz.ntmps11
 go_wp2_with (go_at_call 30;fail)
 refine HS.out.mono ?_
 rintro e w2 ⟨rfl,hw2⟩
 obtain rfl:=hw2.symm
 clear hw2 HS
 go_wp2
 go_ret
 exact⟨rfl,rfl⟩
theorem makes_no (s:List UInt8) (L:List EA) (w:World) (A:Option Addr) (c:Nat) (xs:List Value) (hA:Has w w.heap.size 2 A L.length xs) (hL:EAs w w.heap.size xs L) (hc:L.length≤c) (hm:c≤maxLen) (hT:TM w) (hb:BulkN (s,L)) (hno:¬nW [(s,L)]≤3000):
  Calls Tryz.prog 3 #[.string (txt s),.slice A L.length c] w fun e w'=>e=.returned (.bool true)∧Below w.heap.size w w':=by
 have hC:VM w w A L.length xs L:=⟨Below.refl _ _,hT,hA,hL⟩
 have hF:=fun w B cB zs hB hE=>few1_any s L w B cB zs hB hE hb 0
 rw[decide_eq_false hno] at hF
 have HC:=hide hC
 have HF:=hide hF
 have Hcc:=hide (And.intro hc hm)
 clear hC hF hA hL hT hb hno hc hm
 generalize hS:txt s=S at *
 have HS:=hide hS
 obtain⟨n,hn⟩:∃n,L.length=n:=⟨_,rfl⟩
 have Hn:=hide hn
 rw[hn] at HC
 rw[hn]
 clear hS hn
 go_enter Tryz.func3,Tryz.ntmps3
 go_wp2_with (go_at_call 10;fail)
 refine (awakeM_any _ HC.out.tm).mono ?_
 rintro e w2 ⟨rfl,hb2⟩
 have HC2:=hide (HC.out.grow hb2)
 have hbx:=below1 w2 (.cells #[.string S,.slice A n c] 26)
 have hlit:=litY w2 (.string S) (.slice A n c) 26 rfl rfl
 have HC3:=hide (HC2.out.grow hbx)
 have hE:ENs (w2.alloc (.cells #[.string S,.slice A n c] 26)) (w2.alloc (.cells #[.string S,.slice A n c] 26)).heap.size [.string S,.slice A n c] [(s,L)]:=⟨rfl,fun i e he=>by
  match i,he with
  | 0,he=>
   obtain rfl:=Option.some.inj he
   refine⟨A,c,xs,by rw[HS.out];rfl,by rw[Hn.out];rfl,Hcc.out.1,Hcc.out.2,by rw[Hn.out];exact HC3.out.has,HC3.out.attrs⟩
  | k+1,he=>cases he⟩
 have HFc:=hide (HF.out _ _ 1 _ (Has.own hlit) hE)
 clear hb2 hbx hlit hE HC HC2 HF
 go_wp2_with (go_at_call 11;fail)
 refine HFc.out.mono ?_
 rintro e w4 ⟨rfl,hw4⟩
 obtain rfl:=hw4.symm
 clear hw4 HFc
 go_wp2_with (go_at_call 10;fail)
 refine (awakeM_any _ HC3.out.tm).mono ?_
 rintro e w5 ⟨rfl,hb5⟩
 have HE:=hide (HC3.out.grow hb5).base
 clear hb5 HC3
 go_wp2
 go_ret
 exact⟨rfl,HE.out⟩
theorem makes_yes (s:List UInt8) (L:List EA) (w:World) (A:Option Addr) (c:Nat) (xs:List Value) (hA:Has w w.heap.size 2 A L.length xs) (hL:EAs w w.heap.size xs L) (hc:L.length≤c) (hm:c≤maxLen) (hT:TM w) (hb:BulkN (s,L)) (hts:∀a∈L,a.1.length≤1048576) (hyes:nW [(s,L)]≤3000):
  Calls Tryz.prog 3 #[.string (txt s),.slice A L.length c] w fun e w'=>e=.returned (.bool true)∧Below w.heap.size w w':=by
 have hC:VM w w A L.length xs L:=⟨Below.refl _ _,hT,hA,hL⟩
 have hF:=fun w B cB zs hB hE=>few1_any s L w B cB zs hB hE hb 0
 rw[decide_eq_true hyes] at hF
 have hsm:=small_ofN hyes
 have hs4:=hsm.name (s,L) (by simp)
 have hl3:=hsm.attrs (s,L) (by simp)
 have he3:=hsm.each (s,L) (by simp)
 simp only at hs4 hl3 he3
 have hcnt:cntE L≤3000:=by
  have h1:=cnt_w L
  unfold nW eW at hyes
  simp only[List.map_cons,List.map_nil,List.sum_cons,List.sum_nil] at hyes
  omega
 have hP:=fun w hA hL hT=>pmake_any s L w A L.length c xs hA hL hT (by omega) (by omega) hts (fun a ha v hv=>by have:=(he3 a ha).2 v hv;omega) (by omega)
 have hR:=fun w hA hL hT=>rmake_any s L w A L.length c xs hA hL hT (by omega) (by omega) hts (fun a ha v hv=>by have:=(he3 a ha).2 v hv;omega) (by omega)
 have hmk:=make_formed s L
 obtain⟨RM,hRM⟩:∃RM,makeE s L=RM:=⟨_,rfl⟩
 rw[hRM] at hP hR hmk
 obtain⟨X,G,y⟩:=RM
 simp only at hP hR hmk
 have hG14:G.length≤14:=by
  rcases hmk with h | h
  ·exact (formed_small h.2).1
  ·rw [h.2.2];simp
 have hFm:y=0→∀(w:World) (B:Option Addr) (cB:Nat) (zs:List Value),Has w w.heap.size 2 B G.length zs→EAs w w.heap.size zs G→TM w→Calls Tryz.prog 15 #[.agg #[.string (txt X),.slice B G.length cB]] w fun e w'=>e=.returned (.bool true)∧Below w.heap.size w w':=fun hy w B cB zs hB hE hT=>by
  rcases hmk with h | h
  ·have hsm:=formed_small h.2
   have:=pformedE_any X G w B G.length cB zs hB hE (by omega) (by omega) hsm.2.2 hT
   rw[Tr_yes h.2] at this
   exact this
  ·exact absurd hy h.1
 have hSm:∀(w:World) (B B':Option Addr) (cB cB':Nat) (zs zs':List Value),Has w w.heap.size 2 B G.length zs→EAs w w.heap.size zs G→Has w w.heap.size 2 B' G.length zs'→EAs w w.heap.size zs' G→Calls Tryz.prog 14 #[.agg #[.string (txt X),.slice B G.length cB],.agg #[.string (txt X),.slice B' G.length cB']] w fun e w'=>e=.returned (.bool true)∧Below w.heap.size w w':=fun w B B' cB cB' zs zs' h1 h2 h3 h4=>by
  have:=rsameEN_any (X,G) (X,G) w B B' cB cB' zs zs' h1 h2 h3 h4 (by unfold maxLen;simp only;omega) (by unfold maxLen;simp only;omega)
  rw[Tr_yes rfl] at this
  exact this
 have HC:=hide hC
 have HF:=hide hF
 have HP:=hide hP
 have HR:=hide hR
 have HFm:=hide hFm
 have HSm:=hide hSm
 have Hcc:=hide (And.intro hc hm)
 clear hC hF hP hR hFm hSm hmk hsm hs4 hl3 he3 hcnt hA hL hT hb hyes hc hm hRM hts hG14
 generalize hS:txt s=S at *
 have HS:=hide hS
 obtain⟨n,hn⟩:∃n,L.length=n:=⟨_,rfl⟩
 have Hn:=hide hn
 rw[hn] at HC HP HR
 rw[hn]
 obtain⟨k,hk⟩:∃k,G.length=k:=⟨_,rfl⟩
 have Hk:=hide hk
 rw[hk] at HFm HSm
 obtain⟨TX,hTX⟩:∃x,txt X=x:=⟨_,rfl⟩
 have HTX:=hide hTX
 rw[hTX] at HFm HSm
 clear hS hn hk hTX
 go_enter Tryz.func3,Tryz.ntmps3
 go_wp2_with (go_at_call 10;fail)
 refine (awakeM_any _ HC.out.tm).mono ?_
 rintro e w2 ⟨rfl,hb2⟩
 have HC2:=hide (HC.out.grow hb2)
 have hbx:=below1 w2 (.cells #[.string S,.slice A n c] 26)
 have hlit:=litY w2 (.string S) (.slice A n c) 26 rfl rfl
 have HC3:=hide (HC2.out.grow hbx)
 have hE:ENs (w2.alloc (.cells #[.string S,.slice A n c] 26)) (w2.alloc (.cells #[.string S,.slice A n c] 26)).heap.size [.string S,.slice A n c] [(s,L)]:=⟨rfl,fun i e he=>by
  match i,he with
  | 0,he=>
   obtain rfl:=Option.some.inj he
   refine⟨A,c,xs,by rw[HS.out];rfl,by rw[Hn.out];rfl,Hcc.out.1,Hcc.out.2,by rw[Hn.out];exact HC3.out.has,HC3.out.attrs⟩
  | k+1,he=>cases he⟩
 have HFc:=hide (HF.out _ _ 1 _ (Has.own hlit) hE)
 clear hb2 hbx hlit hE HC HC2 HF
 go_wp2_with (go_at_call 11;fail)
 refine HFc.out.mono ?_
 rintro e w4 ⟨rfl,hw4⟩
 obtain rfl:=hw4.symm
 clear hw4 HFc
 obtain⟨w4,hw4⟩:∃x,w2.alloc (.cells #[.string S,.slice A n c] 26)=x:=⟨_,rfl⟩
 rw[hw4] at HC3 ⊢
 clear hw4
 go_wp2_with (go_at_call 12;fail)
 refine (HP.out _ HC3.out.has HC3.out.attrs HC3.out.tm).mono ?_
 rintro e w5 hpost
 obtain⟨A5,c5,ys5,rfl,_,_,hh5,he5,hb5⟩:=hpost.out
 rw[Hk.out] at hh5 ⊢
 rw[HTX.out]
 have h5:=hh5.has (B:=w5.heap.size) fun b hb=>hb.2
 have e5:=he5.eas (B:=w5.heap.size) fun b hb=>hb.2
 have hba:=below1 w5 (.cells #[.string TX,.slice A5 k c5] 26)
 have hXa:=BoxE.new w5 TX A5 k c5 26
 have HC6:=hide ((HC3.out.grow hb5).grow hba)
 have HH6:=hide (And.intro ((h5.below hba).upto hba.size) (e5.grow hba))
 have HX6:=hide hXa
 clear hpost hh5 he5 hb5 h5 e5 hba hXa HC3 HP
 obtain⟨w6,hw6⟩:∃x,w5.alloc (.cells #[.string TX,.slice A5 k c5] 26)=x:=⟨_,rfl⟩
 rw[hw6] at HC6 HH6 HX6
 have Hw6:=hide hw6
 clear hw6
 go_upto_region 4 with fail
 rw[Hw6.out]
 go_wp2_with (go_at_call 13;fail)
 refine (HR.out _ HC6.out.has HC6.out.attrs HC6.out.tm).mono ?_
 rintro e w7 hpost
 obtain⟨A7,c7,ys7,rfl,_,_,h7,e7,hb7⟩:=hpost.out
 rw[Hk.out] at h7 ⊢
 rw[HTX.out]
 have hba:=below1 w7 (.cells #[.string TX,.slice A7 k c7] 26)
 have hXa:=BoxE.new w7 TX A7 k c7 26
 have HX8:=hide ((HX6.out.grow hb7).grow hba)
 have HC8:=hide ((HC6.out.grow hb7).grow hba)
 have HH8:=hide (And.intro ((((HH6.out.1.below hb7).upto hb7.size).below hba).upto hba.size) ((HH6.out.2.grow hb7).grow hba))
 have HJ8:=hide (And.intro ((h7.below hba).upto hba.size) (e7.grow hba))
 have y0:=hXa.c0
 have y1:=hXa.c1
 have x0:=HX8.out.c0
 have x1:=HX8.out.c1
 have HYb:=hide hXa
 clear hpost h7 e7 hb7 hba hXa HC6 HH6 HX6 HR Hw6
 go_wp2_with (go_at_call 14;fail)
 refine (HSm.out _ A5 A7 c5 c7 ys5 ys7 HH8.out.1 HH8.out.2 HJ8.out.1 HJ8.out.2).mono ?_
 rintro e w9 ⟨rfl,hb9⟩
 have HC9:=hide (HC8.out.grow hb9)
 have HH9:=hide (And.intro ((HH8.out.1.below hb9).upto hb9.size) (HH8.out.2.grow hb9))
 have HX9:=hide (HX8.out.grow hb9)
 clear hb9 HC8 HH8 HJ8 HX8 x0 x1 y0 y1 HSm HYb
 have x0:=HX9.out.c0
 have x1:=HX9.out.c1
 have qy:(y==y)=true:=by simp
 by_cases hy:y=0
 ·subst hy
  have HFc:=hide (HFm.out rfl _ A5 c5 ys5 HH9.out.1 HH9.out.2 HC9.out.tm)
  clear HFm HH9
  go_wp2_with (go_at_call 15;fail)
  refine HFc.out.mono ?_
  rintro e w10 ⟨rfl,hb10⟩
  have HE:=hide (HC9.out.grow hb10).base
  clear hb10 HFc HC9 x0 x1
  go_wp2
  go_ret
  exact⟨rfl,HE.out⟩
 ·have q0:(y==0)=false:=beq_false_of_ne hy
  have q1:(y !=0)=true:=by unfold bne;rw[q0];rfl
  have HE:=hide HC9.out.base
  clear HFm HH9 HC9 x0 x1
  go_wp2
  go_ret
  exact⟨rfl,HE.out⟩
theorem makes_row (S:ByteArray) (L:List EA) (w:World) (A:Option Addr) (c:Nat) (xs:List Value) (hA:Has w w.heap.size 2 A L.length xs) (hL:EAs w w.heap.size xs L) (hc:L.length≤c) (hm:c≤maxLen) (hT:TM w) {N:Nat} (hN:N≤1048576) (hs:S.data.toList.length≤1048576) (hsm:SmE N L):
  Calls Tryz.prog 3 #[.string S,.slice A L.length c] w fun e w'=>e=.returned (.bool true)∧Below w.heap.size w w':=by
 have hb:BulkN (S.data.toList,L):=⟨hs,Nat.le_trans hsm.len hN,fun a ha=>⟨Nat.le_trans (hsm.each a ha).vals hN,fun u hu=>Nat.le_trans ((hsm.each a ha).each u hu) hN⟩⟩
 have hts:∀a∈L,a.1.length≤1048576:=fun a ha=>Nat.le_trans (hsm.each a ha).name hN
 have key:Calls Tryz.prog 3 #[.string (txt S.data.toList),.slice A L.length c] w fun e w'=>e=.returned (.bool true)∧Below w.heap.size w w':=by
  by_cases h:nW [(S.data.toList,L)]≤3000
  ·exact makes_yes _ L w A c xs hA hL hc hm hT hb hts h
  ·exact makes_no _ L w A c xs hA hL hc hm hT hb h
 rwa [self_txtE] at key
end Go.Proofs.YtiobnllopliclaaGreatDoor
