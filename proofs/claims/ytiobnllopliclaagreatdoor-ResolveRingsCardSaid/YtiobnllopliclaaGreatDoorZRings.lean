/- ResolveRings: aliases that lead to one another are no end. By an AI agent. -/
import Derived.Test.YtiobnllopliclaaGreatDoorZAwake
import Derived.Test.YtiobnllopliclaaGreatDoorYGrowA
import Derived.Test.YtiobnllopliclaaGreatDoorOpens
set_option maxRecDepth 100000
set_option maxHeartbeats 64000000
namespace Go.Proofs.YtiobnllopliclaaGreatDoor
open Go Go.RowKit Go.Proofs.YtiobnllopliclaaGreatDoor.Opens
set_option linter.unusedVariables false
set_option linter.unusedSimpArgs false
structure RgC (wd w:World) (J:ByteArray) (a b:Option Nat):Prop where
 base:Below wd.heap.size wd w
 fa:∀g,a=some g→HasP w (NewB wd.heap.size w.heap.size) 1 (some ⟨g,0,none⟩) 1 [.string J]
 fb:∀g,b=some g→HasP w (NewB wd.heap.size w.heap.size) 1 (some ⟨g,0,none⟩) 1 [.string ⟨#[97,108,105,97,115]⟩]
theorem RgC.grow {wd w w':World} {J:ByteArray} {a b:Option Nat} (h:RgC wd w J a b) (hb:Below w.heap.size w w'):RgC wd w' J a b:=
 ⟨h.base.trans (hb.mono h.base.size),fun g e=>(h.fa g e).move (fun p hp=>hb.cell hp.2) fun b hb2=>⟨hb2.1,Nat.lt_of_lt_of_le hb2.2 hb.size⟩,fun g e=>(h.fb g e).move (fun p hp=>hb.cell hp.2) fun b hb2=>⟨hb2.1,Nat.lt_of_lt_of_le hb2.2 hb.size⟩⟩
theorem hasP_new (w:World) (b0:Nat) (hb:b0≤w.heap.size) (size n:Nat) (us:List Value) (t:TypeId) (hl:us.length=n*size):HasP (w.alloc (.cells us.toArray t)) (NewB b0 (w.alloc (.cells us.toArray t)).heap.size) size (some ⟨w.heap.size,0,none⟩) n us:=by
 have h:=Blk.new w us t
 exact⟨hl,.inr ⟨_,rfl,⟨hb,h.lt⟩,fun j u hu=>by
  have:=h.cells j u hu
  rwa [show (⟨w.heap.size,0,none⟩:Addr).add j=⟨w.heap.size,j,none⟩ by unfold Addr.add;split<;>simp_all]⟩⟩
theorem RgC.setA {wd w:World} {J:ByteArray} {a b:Option Nat} (h:RgC wd w J a b):RgC wd (w.alloc (.cells #[.string J] 9)) J (some w.heap.size) b:=by
 have hg:=h.grow (below1 w (.cells #[.string J] 9))
 refine⟨hg.base,fun g e=>?_,hg.fb⟩
 obtain rfl:=Option.some.inj e
 exact hasP_new w wd.heap.size h.base.size 1 1 [.string J] 9 rfl
theorem RgC.setB {wd w:World} {J:ByteArray} {a b:Option Nat} (h:RgC wd w J a b):RgC wd (w.alloc (.cells #[.string ⟨#[97,108,105,97,115]⟩] 9)) J a (some w.heap.size):=by
 have hg:=h.grow (below1 w (.cells #[.string ⟨#[97,108,105,97,115]⟩] 9))
 refine⟨hg.base,hg.fa,fun g e=>?_⟩
 obtain rfl:=Option.some.inj e
 exact hasP_new w wd.heap.size h.base.size 1 1 [.string ⟨#[97,108,105,97,115]⟩] 9 rfl
structure RgV (wd w:World) (A:Nat) (us:List Value) (t:List UInt8):Prop where
 base:Below wd.heap.size wd w
 has:HasP w (NewB wd.heap.size w.heap.size) 2 (some ⟨A,0,none⟩) (ringA t).length us
 attrs:EAsP w (NewB wd.heap.size w.heap.size) us (ringA t)
theorem RgC.attrs {wd w:World} {J:ByteArray} {a b:Option Nat} (h:RgC wd w J a b) (ga gb:Nat) (ea:a=some ga) (eb:b=some gb) {j:Nat} (hJ:J=txt (nmI j)):
  RgV wd (w.alloc (.cells #[.string ⟨#[97,108,105,97,115,101,100,79,98,106,101,99,116,78,97,109,101]⟩,.slice (some ⟨ga,0,none⟩) 1 1,.string ⟨#[111,98,106,101,99,116,67,108,97,115,115]⟩,.slice (some ⟨gb,0,none⟩) 1 1] 52)) w.heap.size [.string ⟨#[97,108,105,97,115,101,100,79,98,106,101,99,116,78,97,109,101]⟩,.slice (some ⟨ga,0,none⟩) 1 1,.string ⟨#[111,98,106,101,99,116,67,108,97,115,115]⟩,.slice (some ⟨gb,0,none⟩) 1 1] (nmI j):=by
 have hg:=h.grow (below1 w (.cells #[.string ⟨#[97,108,105,97,115,101,100,79,98,106,101,99,116,78,97,109,101]⟩,.slice (some ⟨ga,0,none⟩) 1 1,.string ⟨#[111,98,106,101,99,116,67,108,97,115,115]⟩,.slice (some ⟨gb,0,none⟩) 1 1] 52))
 refine⟨hg.base,hasP_new w wd.heap.size h.base.size 2 2 [.string ⟨#[97,108,105,97,115,101,100,79,98,106,101,99,116,78,97,109,101]⟩,.slice (some ⟨ga,0,none⟩) 1 1,.string ⟨#[111,98,106,101,99,116,67,108,97,115,115]⟩,.slice (some ⟨gb,0,none⟩) 1 1] 52 rfl,⟨rfl,fun i e he=>?_⟩⟩
 match i,he with
 | 0,he=>
  obtain rfl:=Option.some.inj he
  have:=hg.fa ga ea
  rw[hJ] at this
  exact⟨_,1,rfl,rfl,Nat.le_refl _,by unfold maxLen;omega,this⟩
 | 1,he=>obtain rfl:=Option.some.inj he;exact⟨_,1,rfl,rfl,by decide,by unfold maxLen;omega,hg.fb gb eb⟩
 | k+2,he=>cases he
theorem ring_take {k i:Nat} (hi:i<k):(ringL k).take (i+1)=(ringL k).take i++[(nmI i,ringA (nmI ((i+1) % k)))]:=by
 rw[List.take_add_one]
 unfold ringL
 rw[List.getElem?_map,List.getElem?_range hi]
 rfl
theorem ring_len (k:Nat):(ringL k).length=k:=by simp[ringL]
theorem ring_wee (k:Nat):∀e∈ringL k,WeeZ e:=fun e he=>by
 unfold ringL at he
 obtain⟨i,_,rfl⟩:=List.mem_map.1 he
 refine⟨by simp[nmI],by simp[ringA],fun a ha=>?_⟩
 rcases List.mem_cons.1 ha with rfl | ha
 ·exact ⟨by simp,fun u hu=>by obtain rfl:=List.mem_singleton.1 hu;simp[nmI]⟩
 ·obtain rfl:=List.mem_singleton.1 ha
  exact⟨by simp,fun u hu=>by obtain rfl:=List.mem_singleton.1 hu;decide⟩
theorem ring_norm {k:Nat} (hk:k≤12):∀e∈ringL k,normT e.1=(e.1,0):=fun e he=>by
 unfold ringL at he
 obtain⟨i,hi,rfl⟩:=List.mem_map.1 he
 exact nm_fam (by have:=List.mem_range.1 hi;omega) false
theorem name_any (i:Nat) (hi:i<12) (w:World):
  Calls Tryz.prog 29 #[.int .i64 (i:Int)] w fun e w'=>e=.returned (.string (txt (nmI i)))∧Below w.heap.size w w':=by
 have hb1:=below1 w (.cells #[.int .u8 99,.int .u8 110,.int .u8 61,.int .u8 (97+(i:Int))] 5)
 have hbys:bys (nmI i)=[.int .u8 99,.int .u8 110,.int .u8 61,.int .u8 (97+(i:Int))]:=by
  have:(UInt8.ofNat (97+i)).toNat=97+i:=by rw[UInt8.toNat_ofNat'];omega
  simp only[bys,nmI,c8,List.map_cons,List.map_nil,this]
  simp
 have hlit:(w.alloc (.cells #[.int .u8 99,.int .u8 110,.int .u8 61,.int .u8 (97+(i:Int))] 5)).ownsRow w.heap.size 5 1 (.slice (some ⟨w.heap.size,0,none⟩) 4 4) 4 (bys (nmI i)):=by
  rw[hbys]
  exact own_lit w #[.int .u8 99,.int .u8 110,.int .u8 61,.int .u8 (97+(i:Int))] 5 4 (by unfold maxLen;omega) rfl
 have ht:=txt8 (w.alloc (.cells #[.int .u8 99,.int .u8 110,.int .u8 61,.int .u8 (97+(i:Int))] 5)) 4 (Has.own hlit)
 have hz:(97:Int)+(i:Int)≤255:=by omega
 have hz0:(0:Int)≤97+(i:Int):=by omega
 have hwr:IntKind.u8.wrap (97+(i:Int))=97+(i:Int):=by
  have:IntKind.u8.wrap (97+(i:Int))=(97+(i:Int)) % 256:=rfl
  rw[this]
  omega
 have HB:=hide hb1
 have Hbys:=hide hbys
 clear hb1 hlit hbys
 generalize txt (nmI i)=NI at *
 go_enter Tryz.func29,Tryz.ntmps29
 go_wp2
 go_ret
 exact⟨rfl,HB.out⟩
theorem rings_any (b0 b1:UInt8) (rest:Bool) (w:World) (hT:TM w):
  Calls Tryz.prog 9 #[.int .u8 (b0.toNat:Int),.int .u8 (b1.toNat:Int),.bool rest] w fun e w'=>e=.returned (.bool true)∧Below w.heap.size w w':=by
 have hlt0:=b0.toNat_lt
 have hlt1:=b1.toNat_lt
 generalize b0.toNat=n0 at *
 generalize b1.toNat=a0 at *
 obtain⟨k,hk⟩:∃k,1+n0 % 12=k:=⟨_,rfl⟩
 have hk12:k≤12:=by omega
 have hk0:1≤k:=by omega
 have hm:Int.tmod (n0:Int) 12=((n0 % 12:Nat):Int):=by rw[Int.tmod_eq_emod_of_nonneg (by omega)];omega
 have hks:(1:Int)+((n0 % 12:Nat):Int)=(k:Int):=by omega
 have hma:Int.tmod (a0:Int) (k:Int)=((a0 % k:Nat):Int):=by rw[Int.tmod_eq_emod_of_nonneg (by omega)];simp
 have hkz:((k:Int)==0)=false:=beq_false_of_ne (by omega)
 have hkz2:¬(k:Int)=0:=by omega
 have hak:a0 % k<k:=Nat.mod_lt _ (by omega)
 obtain⟨am,ham⟩:∃am,a0 % k=am:=⟨_,rfl⟩
 rw[ham] at hma hak
 have hm12:n0 % 12<12:=Nat.mod_lt _ (by omega)
 obtain⟨nm12,hn12⟩:∃x,n0 % 12=x:=⟨_,rfl⟩
 rw[hn12] at hm hks hm12
 have HNa:=hide (fun w=>name_any am (by omega) w)
 have HT:=hide hT
 clear hk hn12 ham hT
 go_enter Tryz.func9,Tryz.ntmps9
 go_wp2_with (go_at_call 20;fail)
 refine (awakeZ_any _ HT.out).mono ?_
 rintro e wb ⟨rfl,hbb⟩
 have HB0:=hide hbb
 have HTb:=hide (HT.out.below hbb)
 clear hbb HT
 go_wp2
 go_loopg [8,21] k (fun q s8 s21 wx=>∃(i:Nat) (zs:List Value),i+q=k∧s21=.int .i64 (i:Int)∧Hid (RowN wx wb.heap.size 26 s8 zs ((ringL k).take i))∧Hid (Below wb.heap.size wb wx))
 case atStart=>exact⟨0,[],by omega,rfl,hide (RowN.start (World.ownsRow_nil _ _ _ _)),hide (Below.refl _ _)⟩
 case round=>
  obtain⟨i,zs,hig,rfl,hro,hbr⟩:=hrel
  cases gk with
  | zero=>
   obtain rfl:i=k:=by omega
   have hiz:¬((i:Int)<(i:Int)):=by omega
   have ho:=hro.out
   rw[List.take_of_length_le (by rw[ring_len];exact Nat.le_refl _)] at ho
   obtain⟨A5,c5,rfl,hc5,hH5⟩:=own_form ho.own
   have hE5:ENs wr wr.heap.size zs (ringL i):=ho.ents.ens fun b hb=>hb.2.1
   rw[ring_len] at hH5
   rw[ring_len]
   have HH:=hide hH5
   have HE:=hide hE5
   have HTr:=hide (HTb.out.below hbr.out)
   have HBr:=hide (HB0.out.trans (hbr.out.mono HB0.out.size))
   clear ho hro hc5 hH5 hE5 hbr HB0 HTb
   have hF:∀(r:Bool) (w:World),Has w w.heap.size 2 A5 i zs→ENs w w.heap.size zs (ringL i)→TM w→Calls Tryz.prog 24 #[.slice A5 i c5,.string (txt (famR r am)),.bool true] w fun e w'=>e=.returned (.tuple #[.string (txt []),.bool false,.int .i64 36])∧Below w.heap.size w w':=fun r w hA hL hT=>by
    have:=pfind_any (ringL i) (famR r am) true w A5 i c5 zs hA hL (by omega) (ring_wee i) (ring_norm hk12) (by cases r<;>simp[famR,nmI,zX]) hT
    rw[find_ring hk12 hak r] at this
    exact this
   have happ:(⟨#[99,110,61,120,44]⟩:ByteArray)++txt (nmI am)=txt (famR true am):=by
    show _=txt (zX++44::nmI am)
    rw[show (⟨#[99,110,61,120,44]⟩:ByteArray)=txt (zX++[44]) from rfl,txt_app,List.append_assoc]
    rfl
   have hsz:(txt (nmI am)).size=4:=by rw[txt_size];rfl
   have hF0:=hF false
   have hF1:=hF true
   have hn0:txt (famR false am)=txt (nmI am):=rfl
   rw[hn0] at hF0
   have HF0:=hide hF0
   have HF1:=hide hF1
   generalize txt []=X0 at *
   generalize txt (famR true am)=XR at *
   generalize txt (nmI am)=XA at *
   clear hF hF0 hF1 hn0
   go_wp2_with (go_at_call 29;fail)
   refine (HNa.out _).mono ?_
   rintro e w4 ⟨rfl,hb4⟩
   have HH4:=hide ((HH.out.below hb4).upto hb4.size)
   have HE4:=hide (HE.out.grow hb4)
   have HT4:=hide (HTr.out.below hb4)
   have HB4:=hide (HBr.out.trans (hb4.mono HBr.out.size))
   clear hb4 HH HE HTr HBr HNa
   cases rest with
   | false=>
    clear HF1 happ hsz
    go_wp2_with (go_at_call 24;fail)
    refine (HF0.out _ HH4.out HE4.out HT4.out).mono ?_
    rintro e w5 ⟨rfl,hb5⟩
    have HB5:=hide (HB4.out.trans (hb5.mono HB4.out.size))
    clear hb5 HB4 HF0 HH4 HE4 HT4
    go_wp2
    go_ret
    exact⟨rfl,HB5.out⟩
   | true=>
    clear HF0
    go_wp2_with (go_at_call 24;fail)
    refine (HF1.out _ HH4.out HE4.out HT4.out).mono ?_
    rintro e w5 ⟨rfl,hb5⟩
    have HB5:=hide (HB4.out.trans (hb5.mono HB4.out.size))
    clear hb5 HB4 HF1 HH4 HE4 HT4
    go_wp2
    go_ret
    exact⟨rfl,HB5.out⟩
  | succ r=>
   have hi:i<k:=by omega
   have hiz:(i:Int)<(k:Int):=by omega
   have hmi:Int.tmod ((i:Int)+1) (k:Int)=(((i+1) % k:Nat):Int):=by rw[Int.tmod_eq_emod_of_nonneg (by omega)];simp
   have hjk:(i+1) % k<k:=Nat.mod_lt _ (by omega)
   have hw1:IntKind.i64.wrap ((i:Int)+1)=(i:Int)+1:=IntWalk.i64_in _ (by omega)
   have Htk:=hide (ring_take hi)
   have Htl:Hid (((ringL k).take i).length=i):=hide (by rw[List.length_take,ring_len];omega)
   obtain⟨jm,hjm⟩:∃jm,(i+1) % k=jm:=⟨_,rfl⟩
   rw[hjm] at hmi hjk Htk
   have HNi:=hide (fun w=>name_any i (by omega) w)
   have HNj:=hide (fun w=>name_any jm (by omega) w)
   obtain⟨NI,hNI⟩:∃x,txt (nmI i)=x:=⟨_,rfl⟩
   obtain⟨NJ,hNJ⟩:∃x,txt (nmI jm)=x:=⟨_,rfl⟩
   rw[hNI] at HNi
   rw[hNJ] at HNj
   have HNI:=hide hNI
   have HJ:Hid (NJ=txt (nmI jm)):=hide hNJ.symm
   clear hNI hNJ HNa hjm
   go_wp2_with fail
   refine grow_begin_but u8.ownBlock (by kernel_rfl) ?_
   have hdr:Below wr.heap.size wr wr.drew:=(Below.refl _ _).drew
   have HRd:=hide (hro.out.below hdr)
   have HBd:=hide (hbr.out.trans (hdr.mono hbr.out.size))
   clear hdr hro hbr
   generalize wr.drew=wd at *
   have HG0:Hid (RgC wd wd NJ none none):=hide ⟨Below.refl _ _,fun g h=>(by cases h),fun g h=>(by cases h)⟩
   refine grow_take 0 (some 24) (v:=?va0) rfl rfl (by kernel_rfl) (by kernel_rfl) (by kernel_rfl) (fun _ _ _ h=>h) (by rfl) (fun W hW=>?ya0) ?_
   case ya0=>
    go_simp<;>with_reducible rfl
   try simp only[Act.put,List.setIfInBounds_toArray,List.set_cons_zero,List.set_cons_succ]
   refine grow_take 1 (some 25) (v:=?va1) rfl rfl (by kernel_rfl) (by kernel_rfl) (by kernel_rfl) (fun _ _ _ h=>h) (by rfl) (fun W hW=>?ya1) ?_
   case ya1=>
    go_simp<;>with_reducible rfl
   try simp only[Act.put,List.setIfInBounds_toArray,List.set_cons_zero,List.set_cons_succ]
   refine grow_take 3 (some 27) (v:=?va3) rfl rfl (by kernel_rfl) (by kernel_rfl) (by kernel_rfl) (fun _ _ _ h=>h) (by rfl) (fun W hW=>?ya3) ?_
   case ya3=>
    go_simp<;>with_reducible rfl
   try simp only[Act.put,List.setIfInBounds_toArray,List.set_cons_zero,List.set_cons_succ]
   refine grow_take 4 (some 28) (v:=?va4) rfl rfl (by kernel_rfl) (by kernel_rfl) (by kernel_rfl) (fun _ _ _ h=>h) (by rfl) (fun W hW=>?ya4) ?_
   case ya4=>
    go_simp<;>with_reducible rfl
   try simp only[Act.put,List.setIfInBounds_toArray,List.set_cons_zero,List.set_cons_succ]
   refine grow_take 5 (some 29) (v:=?va5) rfl rfl (by kernel_rfl) (by kernel_rfl) (by kernel_rfl) (fun _ _ _ h=>h) (by rfl) (fun W hW=>?ya5) ?_
   case ya5=>
    go_simp<;>with_reducible rfl
   try simp only[Act.put,List.setIfInBounds_toArray,List.set_cons_zero,List.set_cons_succ]
   refine grow_take 6 (some 30) (v:=.int .i64 (jm:Int)) rfl rfl (by kernel_rfl) (by kernel_rfl) (by kernel_rfl) (fun _ _ _ h=>h) (by rfl) (fun W hW=>?ya6) ?_
   case ya6=>
    go_simp
    omega
   try simp only[Act.put,List.setIfInBounds_toArray,List.set_cons_zero,List.set_cons_succ]
   refine grow_each [2,10] (by kernel_rfl) (by simp) ?_
   refine AllG.cons rfl (fun K hK=>?_) (AllG.cons rfl (fun K hK=>?_) AllG.nil)
   ·go_simp
    refine (HNi.out wd).mono ?_
    rintro e wq1 ⟨rfl,hb⟩
    refine hK.out _ _ (but_of_below _ hb) ?_
    have HG1:=hide (HG0.out.grow hb)
    clear hK K hb HG0
    try simp only[Act.put,List.setIfInBounds_toArray,List.set_cons_zero,List.set_cons_succ]
    refine grow_each [7,10] (by kernel_rfl) (by simp) ?_
    refine AllG.cons rfl (fun K hK=>?_) (AllG.cons rfl (fun K hK=>?_) AllG.nil)
    ·go_simp
     refine (HNj.out wq1).mono ?_
     rintro e wq2 ⟨rfl,hb⟩
     refine hK.out _ _ (but_of_below _ hb) ?_
     have HG2:=hide (HG1.out.grow hb)
     clear hK K hb HG1
     try simp only[Act.put,List.setIfInBounds_toArray,List.set_cons_zero,List.set_cons_succ]
     refine grow_each [8,10] (by kernel_rfl) (by simp) ?_
     refine AllG.cons rfl (fun K hK=>?_) (AllG.cons rfl (fun K hK=>?_) AllG.nil)
     ·go_simp
      have hba:=below1 wq2 (.cells #[.string NJ] 9)
      refine hK.out _ _ (but_of_below _ hba) ?_
      have HG3:=hide (HG2.out.setA)
      obtain⟨wq3,hnew⟩:∃x,wq2.alloc (.cells #[.string NJ] 9)=x:=⟨_,rfl⟩
      rw[hnew] at HG3 ⊢
      clear hK K hba hnew HG2
      try simp only[Act.put,List.setIfInBounds_toArray,List.set_cons_zero,List.set_cons_succ]
      refine grow_take 9 (some 33) (v:=?vad09) rfl rfl (by kernel_rfl) (by kernel_rfl) (by kernel_rfl) (fun _ _ _ h=>h) (by rfl) (fun W hW=>?yad09) ?_
      case yad09=>
       go_simp<;>with_reducible rfl
      try simp only[Act.put,List.setIfInBounds_toArray,List.set_cons_zero,List.set_cons_succ]
      refine grow_only 10 rfl (by kernel_rfl) (fun K hK=>?_)
      go_simp
      have hba:=below1 wq3 (.cells #[.string ⟨#[97,108,105,97,115]⟩] 9)
      refine hK.out _ _ (but_of_below _ hba) ?_
      have HG4:=hide (HG3.out.setB)
      obtain⟨wq4,hnew⟩:∃x,wq3.alloc (.cells #[.string ⟨#[97,108,105,97,115]⟩] 9)=x:=⟨_,rfl⟩
      rw[hnew] at HG4 ⊢
      clear hK K hba hnew HG3
      try simp only[Act.put,List.setIfInBounds_toArray,List.set_cons_zero,List.set_cons_succ]
      refine grow_take 11 (some 35) (v:=?vad011) rfl rfl (by kernel_rfl) (by kernel_rfl) (by kernel_rfl) (fun _ _ _ h=>h) (by rfl) (fun W hW=>?yad011) ?_
      case yad011=>
       go_simp<;>with_reducible rfl
      try simp only[Act.put,List.setIfInBounds_toArray,List.set_cons_zero,List.set_cons_succ]
      refine grow_only 12 rfl (by kernel_rfl) (fun K hK=>?_)
      go_simp
      have hba:=below1 wq4 (.cells #[.string ⟨#[97,108,105,97,115,101,100,79,98,106,101,99,116,78,97,109,101]⟩,.slice (some ⟨wq2.heap.size,0,none⟩) 1 1,.string ⟨#[111,98,106,101,99,116,67,108,97,115,115]⟩,.slice (some ⟨wq3.heap.size,0,none⟩) 1 1] 52)
      refine hK.out _ _ (but_of_below _ hba) ?_
      have HV:=hide (HG4.out.attrs _ _ rfl rfl (j:=jm) (by rw[HJ.out]))
      obtain⟨w5,hnew⟩:∃x,wq4.alloc (.cells #[.string ⟨#[97,108,105,97,115,101,100,79,98,106,101,99,116,78,97,109,101]⟩,.slice (some ⟨wq2.heap.size,0,none⟩) 1 1,.string ⟨#[111,98,106,101,99,116,67,108,97,115,115]⟩,.slice (some ⟨wq3.heap.size,0,none⟩) 1 1] 52)=x:=⟨_,rfl⟩
      rw[hnew] at HV ⊢
      obtain⟨G9,hG9⟩:∃x,wq4.heap.size=x:=⟨_,rfl⟩
      rw[hG9] at HV ⊢
      clear hK K hba hnew hG9 HG4
      try simp only[Act.put,List.setIfInBounds_toArray,List.set_cons_zero,List.set_cons_succ]
      refine grow_take 13 (some 37) (v:=?vad013) rfl rfl (by kernel_rfl) (by kernel_rfl) (by kernel_rfl) (fun _ _ _ h=>h) (by rfl) (fun W hW=>?yad013) ?_
      case yad013=>
       go_simp<;>with_reducible rfl
      try simp only[Act.put,List.setIfInBounds_toArray,List.set_cons_zero,List.set_cons_succ]
      refine grow_only 14 rfl (by kernel_rfl) (fun K hK=>?_)
      go_simp
      have hbc:=below1 w5 (.cells #[.string NI,.slice (some ⟨G9,0,none⟩) 2 2] 26)
      refine hK.out _ _ (but_of_below _ hbc) ?_
      have hlit:=litY w5 (.string NI) (.slice (some ⟨G9,0,none⟩) 2 2) 26 rfl rfl
      have hown6:=own_below (own_below HRd.out.own HV.out.base) hbc
      have hs6:wb.heap.size≤(w5.alloc (.cells #[.string NI,.slice (some ⟨G9,0,none⟩) 2 2] 26)).heap.size:=Nat.le_trans HBd.out.size (Nat.le_trans HV.out.base.size hbc.size)
      have h1c:∀u∈([.string NI,.slice (some ⟨G9,0,none⟩) 2 2]:List Value),u.oneCell'=true:=by simp[Value.oneCell']
      clear hK K
      try simp only[Act.put,List.setIfInBounds_toArray,List.set_cons_zero,List.set_cons_succ]
      refine grow_only 15 rfl (by kernel_rfl) (fun K hK=>?_)
      refine stepE _ 37 26 _ 2 40 Tryz.underlying37 infoEN rfl (by omega) (by omega) (some 39) rfl rfl (.tmp 24) (.tmp 38) rfl wb.heap.size _ _ zs rfl hown6 _ _ 1 1 [.string NI,.slice (some ⟨G9,0,none⟩) 2 2] rfl (Has.own hlit) h1c (by rw[Htl.out];omega) hs6 ?_
      intro v7 w7 hown7 hb7 hg7 ht7
      refine hK.out _ _ hg7 ?_
      have HR7:Hid (RowN w7 wb.heap.size 26 v7 (zs++[.string NI,.slice (some ⟨G9,0,none⟩) 2 2]) ((ringL k).take (i+1))):=hide (by
       rw[Htk.out,←HNI.out]
       rw[←HNI.out] at hown7
       exact HRd.out.more (a:=(nmI i,ringA (nmI jm))) HBd.out.size HV.out.base (Nat.le_refl _) (by unfold maxLen;omega) hbc HV.out.has HV.out.attrs hown7 hg7 (ht7.imp id fun h=>h))
      have HB7:=hide (HBd.out.trans ((HV.out.base.mono HBd.out.size).trans ((hbc.mono (Nat.le_trans HBd.out.size HV.out.base.size)).trans hb7)))
      clear hK K hown7 hb7 hg7 ht7 hown6 hs6 h1c hlit hbc HV HRd HBd
      try simp only[Act.put,List.setIfInBounds_toArray,List.set_cons_zero,List.set_cons_succ]
      refine grow_take 16 (some 8) (v:=?vad016) rfl rfl (by kernel_rfl) (by kernel_rfl) (by kernel_rfl) (fun _ _ _ h=>h) (by rfl) (fun W hW=>?yad016) ?_
      case yad016=>
       go_simp<;>with_reducible rfl
      try simp only[Act.put,List.setIfInBounds_toArray,List.set_cons_zero,List.set_cons_succ]
      refine grow_done (by kernel_rfl) ?_ _
      go_wp2
      go_roundg r
      case measure=>omega
      case rel=>exact⟨i+1,_,by omega,by go_num,HR7,HB7⟩
     ·go_simp
      have hba:=below1 wq2 (.cells #[.string ⟨#[97,108,105,97,115]⟩] 9)
      refine hK.out _ _ (but_of_below _ hba) ?_
      have HG3:=hide (HG2.out.setB)
      obtain⟨wq3,hnew⟩:∃x,wq2.alloc (.cells #[.string ⟨#[97,108,105,97,115]⟩] 9)=x:=⟨_,rfl⟩
      rw[hnew] at HG3 ⊢
      clear hK K hba hnew HG2
      try simp only[Act.put,List.setIfInBounds_toArray,List.set_cons_zero,List.set_cons_succ]
      refine grow_take 11 (some 35) (v:=?vae011) rfl rfl (by kernel_rfl) (by kernel_rfl) (by kernel_rfl) (fun _ _ _ h=>h) (by rfl) (fun W hW=>?yae011) ?_
      case yae011=>
       go_simp<;>with_reducible rfl
      try simp only[Act.put,List.setIfInBounds_toArray,List.set_cons_zero,List.set_cons_succ]
      refine grow_only 8 rfl (by kernel_rfl) (fun K hK=>?_)
      go_simp
      have hba:=below1 wq3 (.cells #[.string NJ] 9)
      refine hK.out _ _ (but_of_below _ hba) ?_
      have HG4:=hide (HG3.out.setA)
      obtain⟨wq4,hnew⟩:∃x,wq3.alloc (.cells #[.string NJ] 9)=x:=⟨_,rfl⟩
      rw[hnew] at HG4 ⊢
      clear hK K hba hnew HG3
      try simp only[Act.put,List.setIfInBounds_toArray,List.set_cons_zero,List.set_cons_succ]
      refine grow_take 9 (some 33) (v:=?vae09) rfl rfl (by kernel_rfl) (by kernel_rfl) (by kernel_rfl) (fun _ _ _ h=>h) (by rfl) (fun W hW=>?yae09) ?_
      case yae09=>
       go_simp<;>with_reducible rfl
      try simp only[Act.put,List.setIfInBounds_toArray,List.set_cons_zero,List.set_cons_succ]
      refine grow_only 12 rfl (by kernel_rfl) (fun K hK=>?_)
      go_simp
      have hba:=below1 wq4 (.cells #[.string ⟨#[97,108,105,97,115,101,100,79,98,106,101,99,116,78,97,109,101]⟩,.slice (some ⟨wq3.heap.size,0,none⟩) 1 1,.string ⟨#[111,98,106,101,99,116,67,108,97,115,115]⟩,.slice (some ⟨wq2.heap.size,0,none⟩) 1 1] 52)
      refine hK.out _ _ (but_of_below _ hba) ?_
      have HV:=hide (HG4.out.attrs _ _ rfl rfl (j:=jm) (by rw[HJ.out]))
      obtain⟨w5,hnew⟩:∃x,wq4.alloc (.cells #[.string ⟨#[97,108,105,97,115,101,100,79,98,106,101,99,116,78,97,109,101]⟩,.slice (some ⟨wq3.heap.size,0,none⟩) 1 1,.string ⟨#[111,98,106,101,99,116,67,108,97,115,115]⟩,.slice (some ⟨wq2.heap.size,0,none⟩) 1 1] 52)=x:=⟨_,rfl⟩
      rw[hnew] at HV ⊢
      obtain⟨G9,hG9⟩:∃x,wq4.heap.size=x:=⟨_,rfl⟩
      rw[hG9] at HV ⊢
      clear hK K hba hnew hG9 HG4
      try simp only[Act.put,List.setIfInBounds_toArray,List.set_cons_zero,List.set_cons_succ]
      refine grow_take 13 (some 37) (v:=?vae013) rfl rfl (by kernel_rfl) (by kernel_rfl) (by kernel_rfl) (fun _ _ _ h=>h) (by rfl) (fun W hW=>?yae013) ?_
      case yae013=>
       go_simp<;>with_reducible rfl
      try simp only[Act.put,List.setIfInBounds_toArray,List.set_cons_zero,List.set_cons_succ]
      refine grow_only 14 rfl (by kernel_rfl) (fun K hK=>?_)
      go_simp
      have hbc:=below1 w5 (.cells #[.string NI,.slice (some ⟨G9,0,none⟩) 2 2] 26)
      refine hK.out _ _ (but_of_below _ hbc) ?_
      have hlit:=litY w5 (.string NI) (.slice (some ⟨G9,0,none⟩) 2 2) 26 rfl rfl
      have hown6:=own_below (own_below HRd.out.own HV.out.base) hbc
      have hs6:wb.heap.size≤(w5.alloc (.cells #[.string NI,.slice (some ⟨G9,0,none⟩) 2 2] 26)).heap.size:=Nat.le_trans HBd.out.size (Nat.le_trans HV.out.base.size hbc.size)
      have h1c:∀u∈([.string NI,.slice (some ⟨G9,0,none⟩) 2 2]:List Value),u.oneCell'=true:=by simp[Value.oneCell']
      clear hK K
      try simp only[Act.put,List.setIfInBounds_toArray,List.set_cons_zero,List.set_cons_succ]
      refine grow_only 15 rfl (by kernel_rfl) (fun K hK=>?_)
      refine stepE _ 37 26 _ 2 40 Tryz.underlying37 infoEN rfl (by omega) (by omega) (some 39) rfl rfl (.tmp 24) (.tmp 38) rfl wb.heap.size _ _ zs rfl hown6 _ _ 1 1 [.string NI,.slice (some ⟨G9,0,none⟩) 2 2] rfl (Has.own hlit) h1c (by rw[Htl.out];omega) hs6 ?_
      intro v7 w7 hown7 hb7 hg7 ht7
      refine hK.out _ _ hg7 ?_
      have HR7:Hid (RowN w7 wb.heap.size 26 v7 (zs++[.string NI,.slice (some ⟨G9,0,none⟩) 2 2]) ((ringL k).take (i+1))):=hide (by
       rw[Htk.out,←HNI.out]
       rw[←HNI.out] at hown7
       exact HRd.out.more (a:=(nmI i,ringA (nmI jm))) HBd.out.size HV.out.base (Nat.le_refl _) (by unfold maxLen;omega) hbc HV.out.has HV.out.attrs hown7 hg7 (ht7.imp id fun h=>h))
      have HB7:=hide (HBd.out.trans ((HV.out.base.mono HBd.out.size).trans ((hbc.mono (Nat.le_trans HBd.out.size HV.out.base.size)).trans hb7)))
      clear hK K hown7 hb7 hg7 ht7 hown6 hs6 h1c hlit hbc HV HRd HBd
      try simp only[Act.put,List.setIfInBounds_toArray,List.set_cons_zero,List.set_cons_succ]
      refine grow_take 16 (some 8) (v:=?vae016) rfl rfl (by kernel_rfl) (by kernel_rfl) (by kernel_rfl) (fun _ _ _ h=>h) (by rfl) (fun W hW=>?yae016) ?_
      case yae016=>
       go_simp<;>with_reducible rfl
      try simp only[Act.put,List.setIfInBounds_toArray,List.set_cons_zero,List.set_cons_succ]
      refine grow_done (by kernel_rfl) ?_ _
      go_wp2
      go_roundg r
      case measure=>omega
      case rel=>exact⟨i+1,_,by omega,by go_num,HR7,HB7⟩
    ·go_simp
     have hba:=below1 wq1 (.cells #[.string ⟨#[97,108,105,97,115]⟩] 9)
     refine hK.out _ _ (but_of_below _ hba) ?_
     have HG2:=hide (HG1.out.setB)
     obtain⟨wq2,hnew⟩:∃x,wq1.alloc (.cells #[.string ⟨#[97,108,105,97,115]⟩] 9)=x:=⟨_,rfl⟩
     rw[hnew] at HG2 ⊢
     clear hK K hba hnew HG1
     try simp only[Act.put,List.setIfInBounds_toArray,List.set_cons_zero,List.set_cons_succ]
     refine grow_take 11 (some 35) (v:=?vaf011) rfl rfl (by kernel_rfl) (by kernel_rfl) (by kernel_rfl) (fun _ _ _ h=>h) (by rfl) (fun W hW=>?yaf011) ?_
     case yaf011=>
      go_simp<;>with_reducible rfl
     try simp only[Act.put,List.setIfInBounds_toArray,List.set_cons_zero,List.set_cons_succ]
     refine grow_only 7 rfl (by kernel_rfl) (fun K hK=>?_)
     go_simp
     refine (HNj.out wq2).mono ?_
     rintro e wq3 ⟨rfl,hb⟩
     refine hK.out _ _ (but_of_below _ hb) ?_
     have HG3:=hide (HG2.out.grow hb)
     clear hK K hb HG2
     try simp only[Act.put,List.setIfInBounds_toArray,List.set_cons_zero,List.set_cons_succ]
     refine grow_only 8 rfl (by kernel_rfl) (fun K hK=>?_)
     go_simp
     have hba:=below1 wq3 (.cells #[.string NJ] 9)
     refine hK.out _ _ (but_of_below _ hba) ?_
     have HG4:=hide (HG3.out.setA)
     obtain⟨wq4,hnew⟩:∃x,wq3.alloc (.cells #[.string NJ] 9)=x:=⟨_,rfl⟩
     rw[hnew] at HG4 ⊢
     clear hK K hba hnew HG3
     try simp only[Act.put,List.setIfInBounds_toArray,List.set_cons_zero,List.set_cons_succ]
     refine grow_take 9 (some 33) (v:=?vaf09) rfl rfl (by kernel_rfl) (by kernel_rfl) (by kernel_rfl) (fun _ _ _ h=>h) (by rfl) (fun W hW=>?yaf09) ?_
     case yaf09=>
      go_simp<;>with_reducible rfl
     try simp only[Act.put,List.setIfInBounds_toArray,List.set_cons_zero,List.set_cons_succ]
     refine grow_only 12 rfl (by kernel_rfl) (fun K hK=>?_)
     go_simp
     have hba:=below1 wq4 (.cells #[.string ⟨#[97,108,105,97,115,101,100,79,98,106,101,99,116,78,97,109,101]⟩,.slice (some ⟨wq3.heap.size,0,none⟩) 1 1,.string ⟨#[111,98,106,101,99,116,67,108,97,115,115]⟩,.slice (some ⟨wq1.heap.size,0,none⟩) 1 1] 52)
     refine hK.out _ _ (but_of_below _ hba) ?_
     have HV:=hide (HG4.out.attrs _ _ rfl rfl (j:=jm) (by rw[HJ.out]))
     obtain⟨w5,hnew⟩:∃x,wq4.alloc (.cells #[.string ⟨#[97,108,105,97,115,101,100,79,98,106,101,99,116,78,97,109,101]⟩,.slice (some ⟨wq3.heap.size,0,none⟩) 1 1,.string ⟨#[111,98,106,101,99,116,67,108,97,115,115]⟩,.slice (some ⟨wq1.heap.size,0,none⟩) 1 1] 52)=x:=⟨_,rfl⟩
     rw[hnew] at HV ⊢
     obtain⟨G9,hG9⟩:∃x,wq4.heap.size=x:=⟨_,rfl⟩
     rw[hG9] at HV ⊢
     clear hK K hba hnew hG9 HG4
     try simp only[Act.put,List.setIfInBounds_toArray,List.set_cons_zero,List.set_cons_succ]
     refine grow_take 13 (some 37) (v:=?vaf013) rfl rfl (by kernel_rfl) (by kernel_rfl) (by kernel_rfl) (fun _ _ _ h=>h) (by rfl) (fun W hW=>?yaf013) ?_
     case yaf013=>
      go_simp<;>with_reducible rfl
     try simp only[Act.put,List.setIfInBounds_toArray,List.set_cons_zero,List.set_cons_succ]
     refine grow_only 14 rfl (by kernel_rfl) (fun K hK=>?_)
     go_simp
     have hbc:=below1 w5 (.cells #[.string NI,.slice (some ⟨G9,0,none⟩) 2 2] 26)
     refine hK.out _ _ (but_of_below _ hbc) ?_
     have hlit:=litY w5 (.string NI) (.slice (some ⟨G9,0,none⟩) 2 2) 26 rfl rfl
     have hown6:=own_below (own_below HRd.out.own HV.out.base) hbc
     have hs6:wb.heap.size≤(w5.alloc (.cells #[.string NI,.slice (some ⟨G9,0,none⟩) 2 2] 26)).heap.size:=Nat.le_trans HBd.out.size (Nat.le_trans HV.out.base.size hbc.size)
     have h1c:∀u∈([.string NI,.slice (some ⟨G9,0,none⟩) 2 2]:List Value),u.oneCell'=true:=by simp[Value.oneCell']
     clear hK K
     try simp only[Act.put,List.setIfInBounds_toArray,List.set_cons_zero,List.set_cons_succ]
     refine grow_only 15 rfl (by kernel_rfl) (fun K hK=>?_)
     refine stepE _ 37 26 _ 2 40 Tryz.underlying37 infoEN rfl (by omega) (by omega) (some 39) rfl rfl (.tmp 24) (.tmp 38) rfl wb.heap.size _ _ zs rfl hown6 _ _ 1 1 [.string NI,.slice (some ⟨G9,0,none⟩) 2 2] rfl (Has.own hlit) h1c (by rw[Htl.out];omega) hs6 ?_
     intro v7 w7 hown7 hb7 hg7 ht7
     refine hK.out _ _ hg7 ?_
     have HR7:Hid (RowN w7 wb.heap.size 26 v7 (zs++[.string NI,.slice (some ⟨G9,0,none⟩) 2 2]) ((ringL k).take (i+1))):=hide (by
      rw[Htk.out,←HNI.out]
      rw[←HNI.out] at hown7
      exact HRd.out.more (a:=(nmI i,ringA (nmI jm))) HBd.out.size HV.out.base (Nat.le_refl _) (by unfold maxLen;omega) hbc HV.out.has HV.out.attrs hown7 hg7 (ht7.imp id fun h=>h))
     have HB7:=hide (HBd.out.trans ((HV.out.base.mono HBd.out.size).trans ((hbc.mono (Nat.le_trans HBd.out.size HV.out.base.size)).trans hb7)))
     clear hK K hown7 hb7 hg7 ht7 hown6 hs6 h1c hlit hbc HV HRd HBd
     try simp only[Act.put,List.setIfInBounds_toArray,List.set_cons_zero,List.set_cons_succ]
     refine grow_take 16 (some 8) (v:=?vaf016) rfl rfl (by kernel_rfl) (by kernel_rfl) (by kernel_rfl) (fun _ _ _ h=>h) (by rfl) (fun W hW=>?yaf016) ?_
     case yaf016=>
      go_simp<;>with_reducible rfl
     try simp only[Act.put,List.setIfInBounds_toArray,List.set_cons_zero,List.set_cons_succ]
     refine grow_done (by kernel_rfl) ?_ _
     go_wp2
     go_roundg r
     case measure=>omega
     case rel=>exact⟨i+1,_,by omega,by go_num,HR7,HB7⟩
   ·go_simp
    have hba:=below1 wd (.cells #[.string ⟨#[97,108,105,97,115]⟩] 9)
    refine hK.out _ _ (but_of_below _ hba) ?_
    have HG1:=hide (HG0.out.setB)
    obtain⟨wq1,hnew⟩:∃x,wd.alloc (.cells #[.string ⟨#[97,108,105,97,115]⟩] 9)=x:=⟨_,rfl⟩
    rw[hnew] at HG1 ⊢
    clear hK K hba hnew HG0
    try simp only[Act.put,List.setIfInBounds_toArray,List.set_cons_zero,List.set_cons_succ]
    refine grow_take 11 (some 35) (v:=?vag011) rfl rfl (by kernel_rfl) (by kernel_rfl) (by kernel_rfl) (fun _ _ _ h=>h) (by rfl) (fun W hW=>?yag011) ?_
    case yag011=>
     go_simp<;>with_reducible rfl
    try simp only[Act.put,List.setIfInBounds_toArray,List.set_cons_zero,List.set_cons_succ]
    refine grow_only 2 rfl (by kernel_rfl) (fun K hK=>?_)
    go_simp
    refine (HNi.out wq1).mono ?_
    rintro e wq2 ⟨rfl,hb⟩
    refine hK.out _ _ (but_of_below _ hb) ?_
    have HG2:=hide (HG1.out.grow hb)
    clear hK K hb HG1
    try simp only[Act.put,List.setIfInBounds_toArray,List.set_cons_zero,List.set_cons_succ]
    refine grow_only 7 rfl (by kernel_rfl) (fun K hK=>?_)
    go_simp
    refine (HNj.out wq2).mono ?_
    rintro e wq3 ⟨rfl,hb⟩
    refine hK.out _ _ (but_of_below _ hb) ?_
    have HG3:=hide (HG2.out.grow hb)
    clear hK K hb HG2
    try simp only[Act.put,List.setIfInBounds_toArray,List.set_cons_zero,List.set_cons_succ]
    refine grow_only 8 rfl (by kernel_rfl) (fun K hK=>?_)
    go_simp
    have hba:=below1 wq3 (.cells #[.string NJ] 9)
    refine hK.out _ _ (but_of_below _ hba) ?_
    have HG4:=hide (HG3.out.setA)
    obtain⟨wq4,hnew⟩:∃x,wq3.alloc (.cells #[.string NJ] 9)=x:=⟨_,rfl⟩
    rw[hnew] at HG4 ⊢
    clear hK K hba hnew HG3
    try simp only[Act.put,List.setIfInBounds_toArray,List.set_cons_zero,List.set_cons_succ]
    refine grow_take 9 (some 33) (v:=?vag09) rfl rfl (by kernel_rfl) (by kernel_rfl) (by kernel_rfl) (fun _ _ _ h=>h) (by rfl) (fun W hW=>?yag09) ?_
    case yag09=>
     go_simp<;>with_reducible rfl
    try simp only[Act.put,List.setIfInBounds_toArray,List.set_cons_zero,List.set_cons_succ]
    refine grow_only 12 rfl (by kernel_rfl) (fun K hK=>?_)
    go_simp
    have hba:=below1 wq4 (.cells #[.string ⟨#[97,108,105,97,115,101,100,79,98,106,101,99,116,78,97,109,101]⟩,.slice (some ⟨wq3.heap.size,0,none⟩) 1 1,.string ⟨#[111,98,106,101,99,116,67,108,97,115,115]⟩,.slice (some ⟨wd.heap.size,0,none⟩) 1 1] 52)
    refine hK.out _ _ (but_of_below _ hba) ?_
    have HV:=hide (HG4.out.attrs _ _ rfl rfl (j:=jm) (by rw[HJ.out]))
    obtain⟨w5,hnew⟩:∃x,wq4.alloc (.cells #[.string ⟨#[97,108,105,97,115,101,100,79,98,106,101,99,116,78,97,109,101]⟩,.slice (some ⟨wq3.heap.size,0,none⟩) 1 1,.string ⟨#[111,98,106,101,99,116,67,108,97,115,115]⟩,.slice (some ⟨wd.heap.size,0,none⟩) 1 1] 52)=x:=⟨_,rfl⟩
    rw[hnew] at HV ⊢
    obtain⟨G9,hG9⟩:∃x,wq4.heap.size=x:=⟨_,rfl⟩
    rw[hG9] at HV ⊢
    clear hK K hba hnew hG9 HG4
    try simp only[Act.put,List.setIfInBounds_toArray,List.set_cons_zero,List.set_cons_succ]
    refine grow_take 13 (some 37) (v:=?vag013) rfl rfl (by kernel_rfl) (by kernel_rfl) (by kernel_rfl) (fun _ _ _ h=>h) (by rfl) (fun W hW=>?yag013) ?_
    case yag013=>
     go_simp<;>with_reducible rfl
    try simp only[Act.put,List.setIfInBounds_toArray,List.set_cons_zero,List.set_cons_succ]
    refine grow_only 14 rfl (by kernel_rfl) (fun K hK=>?_)
    go_simp
    have hbc:=below1 w5 (.cells #[.string NI,.slice (some ⟨G9,0,none⟩) 2 2] 26)
    refine hK.out _ _ (but_of_below _ hbc) ?_
    have hlit:=litY w5 (.string NI) (.slice (some ⟨G9,0,none⟩) 2 2) 26 rfl rfl
    have hown6:=own_below (own_below HRd.out.own HV.out.base) hbc
    have hs6:wb.heap.size≤(w5.alloc (.cells #[.string NI,.slice (some ⟨G9,0,none⟩) 2 2] 26)).heap.size:=Nat.le_trans HBd.out.size (Nat.le_trans HV.out.base.size hbc.size)
    have h1c:∀u∈([.string NI,.slice (some ⟨G9,0,none⟩) 2 2]:List Value),u.oneCell'=true:=by simp[Value.oneCell']
    clear hK K
    try simp only[Act.put,List.setIfInBounds_toArray,List.set_cons_zero,List.set_cons_succ]
    refine grow_only 15 rfl (by kernel_rfl) (fun K hK=>?_)
    refine stepE _ 37 26 _ 2 40 Tryz.underlying37 infoEN rfl (by omega) (by omega) (some 39) rfl rfl (.tmp 24) (.tmp 38) rfl wb.heap.size _ _ zs rfl hown6 _ _ 1 1 [.string NI,.slice (some ⟨G9,0,none⟩) 2 2] rfl (Has.own hlit) h1c (by rw[Htl.out];omega) hs6 ?_
    intro v7 w7 hown7 hb7 hg7 ht7
    refine hK.out _ _ hg7 ?_
    have HR7:Hid (RowN w7 wb.heap.size 26 v7 (zs++[.string NI,.slice (some ⟨G9,0,none⟩) 2 2]) ((ringL k).take (i+1))):=hide (by
     rw[Htk.out,←HNI.out]
     rw[←HNI.out] at hown7
     exact HRd.out.more (a:=(nmI i,ringA (nmI jm))) HBd.out.size HV.out.base (Nat.le_refl _) (by unfold maxLen;omega) hbc HV.out.has HV.out.attrs hown7 hg7 (ht7.imp id fun h=>h))
    have HB7:=hide (HBd.out.trans ((HV.out.base.mono HBd.out.size).trans ((hbc.mono (Nat.le_trans HBd.out.size HV.out.base.size)).trans hb7)))
    clear hK K hown7 hb7 hg7 ht7 hown6 hs6 h1c hlit hbc HV HRd HBd
    try simp only[Act.put,List.setIfInBounds_toArray,List.set_cons_zero,List.set_cons_succ]
    refine grow_take 16 (some 8) (v:=?vag016) rfl rfl (by kernel_rfl) (by kernel_rfl) (by kernel_rfl) (fun _ _ _ h=>h) (by rfl) (fun W hW=>?yag016) ?_
    case yag016=>
     go_simp<;>with_reducible rfl
    try simp only[Act.put,List.setIfInBounds_toArray,List.set_cons_zero,List.set_cons_succ]
    refine grow_done (by kernel_rfl) ?_ _
    go_wp2
    go_roundg r
    case measure=>omega
    case rel=>exact⟨i+1,_,by omega,by go_num,HR7,HB7⟩
theorem rings_row (x0 x1:Int) (w0:(Lit.int .u8 x0).wf=true) (w1:(Lit.int .u8 x1).wf=true) (rest:Bool) (w:World) (hT:TM w):
  Calls Tryz.prog 9 #[.int .u8 x0,.int .u8 x1,.bool rest] w fun e w'=>e=.returned (.bool true)∧Below w.heap.size w w':=by
 obtain⟨b0,rfl⟩:=byte_of w0
 obtain⟨b1,rfl⟩:=byte_of w1
 exact rings_any b0 b1 rest w hT
end Go.Proofs.YtiobnllopliclaaGreatDoor
