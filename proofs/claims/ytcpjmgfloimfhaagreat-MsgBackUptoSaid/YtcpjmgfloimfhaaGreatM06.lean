/- Several texts in one: LPieces, LParts. By an AI agent. -/
import Derived.Test.YtcpjmgfloimfhaaGreatM05
set_option linter.unusedSimpArgs false
set_option linter.unusedVariables false
set_option maxRecDepth 100000
set_option maxHeartbeats 32000000
namespace Go.Proofs.YtcpjmgfloimfhaaGreat
open Go.RowKit
theorem piece_eats (t:UInt8):Eats (Rd.pieceR t):=fun F x G h=>by
 unfold Rd.pieceR at h
 cases ht:Rd.taggedR t F with
 | none=>rw[ht] at h;cases h
 | some q=>
  obtain⟨c,r⟩:=q
  rw[ht] at h
  cases c with
  | nil=>cases h
  | cons a l=>cases h;exact tagged_eats t _ _ _ ht
theorem str_empty (x:List UInt8):((txt x).toList==(⟨#[]⟩:ByteArray).toList)=(x==[]):=by
 rw[zBo,show (⟨#[]⟩:ByteArray).toList=[] by rw[Lib.toList_data]]
theorem piece_any (w:World) (lo g b:Nat) (F:List Fd) (φ:Bool) (t:UInt8) (h:RdS w lo g b F φ):
  Calls Tryz.prog 185 #[.pointer (some ⟨g,0,none⟩),c8 t] w (RdPost repT (Rd.pieceR t) w (own2 g b) lo g b F φ):=by
 have hT:=tagged_any w lo g b F φ t h
 clear h
 go_enter Tryz.func185,Tryz.ntmps185
 go_wp2_with (go_at_call 128;fail)
 refine hT.mono ?_
 rintro e w1 hpost
 obtain⟨x,v,F',rfl,hrep,hr,hf,hq⟩:=hpost.out
 clear hpost hT
 unfold repT at hrep
 subst hrep
 have hfl:=zBi w1 lo g b F' _ hr
 cases x with
 | nil=>
  have hfin:(φ||(Rd.pieceR t F).isNone)=true/\(φ=false->∀x0 F0,Rd.pieceR t F=some (x0,F0)->([]:List UInt8)=x0/\F'=F0):=by
   cases φ with
   | true=>exact⟨rfl,fun h=>by cases h⟩
   | false=>
    have hn:Rd.pieceR t F=none:=by
     unfold Rd.pieceR
     cases hp:Rd.taggedR t F with
     | none=>rfl
     | some q=>
      obtain⟨y,G⟩:=q
      obtain⟨rfl,rfl⟩:=hq rfl _ _ hp
      rfl
    rw[hn]
    exact⟨rfl,fun _ x0 F0 h0=>by cases h0⟩
  have Hfin:=hide hfin
  have Hf:=hide hf
  rw[show txt []=(⟨#[]⟩:ByteArray) from rfl]
  clear hq hfin hr hf
  go_wp2_with (go_at_call 78;fail)
  refine hfl.mono ?_
  rintro e w2 ⟨rfl,hr2,hf2⟩
  clear hfl
  go_wp2
  go_ret
  exact⟨⟨[],_,F',rfl,rfl,by rw[Hfin.out.1];exact hr2,Hf.out.trans hf2,Hfin.out.2⟩⟩
 | cons y l=>
  have hfin:(φ||(Rd.pieceR t F).isNone)=(φ||(Rd.taggedR t F).isNone)/\(φ=false->∀x0 F0,Rd.pieceR t F=some (x0,F0)->(y::l)=x0/\F'=F0):=by
   cases φ with
   | true=>exact⟨rfl,fun h=>by cases h⟩
   | false=>
    unfold Rd.pieceR
    cases hp:Rd.taggedR t F with
    | none=>exact⟨rfl,fun _ x0 F0 h0=>by cases h0⟩
    | some q=>
     obtain⟨z,G⟩:=q
     obtain⟨rfl,rfl⟩:=hq rfl _ _ hp
     exact⟨rfl,fun _ x0 F0 h0=>by simpa using h0⟩
  rw[<-hfin.1] at hr
  have Hfin:=hide hfin.2
  have HR:=hide hr
  have Hf:=hide hf
  have he:=str_empty (y::l)
  have hne:((y::l)==([]:List UInt8))=false:=rfl
  rw[hne] at he
  have hem:(txt (y::l)).toList.isEmpty=false:=by rw[zBo];rfl
  obtain⟨S,hS⟩:∃S,txt (y::l)=S:=⟨_,rfl⟩
  have HS:=hide hS
  rw[hS] at he hem ⊢
  clear hq hfin hr hfl hf hS hne
  go_wp2
  go_ret
  exact⟨⟨y::l,_,F',by rw[<-HS.out];rfl,rfl,HR.out,Hf.out,Hfin.out⟩⟩
structure AnyAt (F:List Fd) (φ:Bool) (F':List Fd) (φ':Bool) (acc:List (List UInt8)):Prop where
 bad:φ=true->φ'=true
 more:φ=false->φ'=false->Rd.anyGo F'.length F' acc=Rd.anyGo F.length F []
 non:φ=false->φ'=true->Rd.anyGo F.length F []=.none
 len:φ'=false->acc.length+F'.length<=16384
 all:acc.length<=16385
theorem any_fuel:∀(n:Nat) (F:List Fd) (acc:List (List UInt8)),F.length<=n->Rd.anyGo n F acc=Rd.anyGo F.length F acc
 | 0,F,acc,h=>by
  have:F=[]:=List.eq_nil_of_length_eq_zero (by omega)
  subst this;rfl
 | n+1,[],acc,h=>rfl
 | n+1,f::r,acc,h=>by
  simp only[List.length_cons] at h ⊢
  rw[Rd.anyGo,Rd.anyGo]
  split
  ·cases hp:Rd.pieceR 0x81 (f::r) with
   | none=>rfl
   | some q=>
    obtain⟨x,G⟩:=q
    have h1:=piece_eats _ _ _ _ hp
    simp only[List.length_cons] at h1
    simp only
    rw[any_fuel n G _ (by omega),any_fuel r.length G _ (by omega)]
  ·rfl
theorem AnyAt.start (F:List Fd) (φ:Bool) (h:F.length<=16384):AnyAt F φ F φ []:=
 ⟨id,fun _ _=>rfl,fun h1 h2=>(by rw[h1] at h2;cases h2),fun _=>by simpa using h,by simp⟩
theorem AnyAt.step {F F' G:List Fd} {φ:Bool} {acc:List (List UInt8)} {x:List UInt8} (h:AnyAt F φ F' false acc) (hn:Rd.nextIs 0x81 F'=true) (hq:∀x0 F0,Rd.pieceR 0x81 F'=some (x0,F0)->x=x0/\G=F0):AnyAt F φ G (Rd.pieceR 0x81 F').isNone (acc++[x])/\(if (Rd.pieceR 0x81 F').isNone then 0 else G.length+1)<F'.length+1:=by
 have h1:=h.len rfl
 cases F' with
 | nil=>cases hn
 | cons f r=>
 have he:Rd.anyGo (f::r).length (f::r) acc=match Rd.pieceR 0x81 (f::r) with | none=>none | some (x,G)=>Rd.anyGo r.length G (acc++[x]):=by
  simp only[List.length_cons]
  rw[Rd.anyGo,if_pos hn]
  cases Rd.pieceR 0x81 (f::r) with
  | none=>rfl
  | some q=>rfl
 simp only[List.length_cons] at h1 ⊢
 cases hp:Rd.pieceR 0x81 (f::r) with
 | none=>
  refine⟨⟨fun h0=>rfl,fun _ h2=>(by cases h2),fun h0 _=>?_,fun h2=>(by cases h2),by simp;omega⟩,by simp⟩
  rw[<-h.more h0 rfl,he,hp]
 | some q=>
  obtain⟨y,H⟩:=q
  obtain⟨rfl,rfl⟩:=hq _ _ hp
  have h2:=piece_eats _ _ _ _ hp
  simp only[List.length_cons] at h2
  refine⟨⟨fun h0=>?_,fun h0 _=>?_,fun _ h3=>(by cases h3),fun _=>by simp;omega,by simp;omega⟩,by simp;omega⟩
  ·have:=h.bad h0;cases this
  ·rw [<-h.more h0 rfl,he,hp]
   simp only
   rw[any_fuel r.length G _ (by omega)]
theorem AnyAt.done {F F':List Fd} {φ φ':Bool} {acc:List (List UInt8)} (h:AnyAt F φ F' φ' acc) (hm:(!φ'&&Rd.nextIs 0x81 F')=false):φ'=(φ||(Rd.anyR F).isNone)/\(φ=false->∀x0 F0,Rd.anyR F=some (x0,F0)->acc=x0/\F'=F0):=by
 unfold Rd.anyR
 cases φ with
 | true=>exact⟨by rw[h.bad rfl];rfl,fun h0=>by cases h0⟩
 | false=>
  cases φ' with
  | true=>rw[h.non rfl rfl];exact⟨rfl,fun _ x0 F0 h0=>by cases h0⟩
  | false=>
   have hn:Rd.nextIs 0x81 F'=false:=by simpa using hm
   have he:Rd.anyGo F'.length F' acc=some (acc,F'):=by
    cases F' with
    | nil=>rfl
    | cons f r=>simp only[List.length_cons];rw[Rd.anyGo,hn];rfl
   rw[<-h.more rfl rfl,he]
   exact⟨rfl,fun _ x0 F0 h0=>by simpa using h0⟩
theorem opt_skip {t:UInt8} {F:List Fd} {φ:Bool} (h:(!φ&&Rd.nextIs t F)=false):(φ||(Rd.optR t F).isNone)=φ/\(φ=false->∀x0 F0,Rd.optR t F=some (x0,F0)->[]=x0/\F=F0):=by
 unfold Rd.optR
 cases φ with
 | true=>exact⟨rfl,fun h=>by cases h⟩
 | false=>
  have hn:Rd.nextIs t F=false:=by simpa using h
  rw[hn]
  exact⟨rfl,fun _ x0 F0 h0=>by simpa using h0⟩
theorem opt_piece {t:UInt8} {F:List Fd} {φ:Bool} (h:(!φ&&Rd.nextIs t F)=true):Rd.optR t F=Rd.pieceR t F:=by
 unfold Rd.optR
 have hn:Rd.nextIs t F=true:=by cases φ<;>simp_all
 rw[hn];rfl
theorem pieces_any (w:World) (lo g b:Nat) (F:List Fd) (φ:Bool) (fb lo2:Nat) (k:Int) (a v:ByteArray) (al vl:List UInt8) (hal:a=txt al) (hvl:v=txt vl) (h:RdS w lo g b F φ) (hfb:fb<lo2) (hlo:lo2<=w.heap.size) (hbf:b≠fb) (hb2:b<lo2) (hg:lo2<=lo) (hB:Blk w fb [.int .i64 k,.string a,.string v,.string ⟨#[]⟩,.string ⟨#[]⟩,.slice none 0 0,.slice none 0 0]):
  Calls Tryz.prog 184 #[.pointer (some ⟨g,0,none⟩),.pointer (some ⟨fb,0,none⟩)] w (InPost (fun x W=>StE elF fb lo2 (.mk k al vl x.1 x.2.2 x.2.1 []) W) Rd.piecesR w (own3 (fun k=>k=fb) g b) lo g b F φ):=by
 have hgl:=h.log
 have hlt:=h.lt
 have Hav:=hide (And.intro hal hvl)
 have Hn:=hide (And.intro hfb (And.intro hlo (And.intro hbf (And.intro hb2 (And.intro hg (And.intro hgl (And.intro hlt h.blo)))))))
 have HR0:=hide h
 have HB0:=hide hB
 have HF0:Hid (Fr (own3 (fun k=>k=fb) g b) w w):=hide (Fr.refl _ _)
 have hN:=next_any w lo g b F φ 128 h
 rw[show c8 128=.int .u8 128 from rfl] at hN
 clear h hfb hlo hbf hb2 hg hB hgl hlt hal hvl
 cases hnx:(!φ&&Rd.nextIs 128 F) with
 | false=>
  rw[hnx] at hN
  go_enter Tryz.func184,Tryz.ntmps184
  go_wp2_with (go_at_call 126;fail)
  refine hN.mono ?_
  rintro e w1 ⟨rfl,hw1⟩
  obtain rfl:=hw1.symm
  clear hN
  go_wp2
  have hsm:=HR0.out.small.1
  have HM:=hide (AnyAt.start F φ hsm)
  have HO:Hid (OwnL elT 9 w.heap.size [] (.slice none 0 0) w):=hide (OwnL.nil _ _)
  clear hsm
  have hlo3:lo2<=w.heap.size/\g<w.heap.size/\w.heap.size<=w.heap.size:=⟨by have:=HF0.out.size;have:=Hn.out;omega,HR0.out.lt,HF0.out.size⟩
  have Hlo3:=hide hlo3
  clear hlo3
  go_loopg [] (if φ then 0 else F.length+1) (fun kk wx=>∃(F':List Fd) (φ':Bool) (acc:List (List UInt8)) (va:Value),Hid (RdS wx lo g b F' φ')/\Hid (OwnL elT 9 w.heap.size acc va wx)/\Hid (Blk wx fb [.int .i64 k,.string a,.string v,.string ⟨#[]⟩,.string ⟨#[]⟩,va,.slice none 0 0])/\Hid (Fr (own3 (fun k=>k=fb) g b) w wx)/\Hid (AnyAt F φ F' φ' acc)/\Hid ((if φ' then 0 else F'.length+1)<=kk)/\Hid (w.heap.size<=wx.heap.size))
  case atStart=>exact⟨F,φ,[],_,HR0,HO,HB0,HF0,HM,hide (Nat.le_refl _),hide (Nat.le_refl _)⟩
  case round=>
   obtain⟨F',φ',acc,va,hR,hO,hB,hF,hM,hK,hZ⟩:=hrel
   clear HR0 HB0 HF0 HO HM
   have hN:=next_any wr lo g b F' φ' 129 hR.out
   rw[show c8 129=.int .u8 129 from rfl] at hN
   cases hnm:(!φ'&&Rd.nextIs 129 F') with
   | false=>
    rw[hnm] at hN
    have hd:=hM.out.done hnm
    have Hd:=hide hd
    rw[hd.1] at hR
    clear hd
    go_wp2_with (go_at_call 126;fail)
    refine hN.mono ?_
    rintro e w4 ⟨rfl,hw4⟩
    obtain rfl:=hw4
    clear hN
    have hN:=next_any w4 lo g b F' (φ||(Rd.anyR F).isNone) 130 hR.out
    rw[show c8 130=.int .u8 130 from rfl] at hN
    cases hnl:(!(φ||(Rd.anyR F).isNone)&&Rd.nextIs 130 F') with
    | false=>
     rw[hnl] at hN
     go_wp2_with (go_at_call 126;fail)
     refine hN.mono ?_
     rintro e w5 ⟨rfl,hw5⟩
     obtain rfl:=hw5
     clear hN
     go_wp2
     go_returns
     have h1q:=opt_skip hnx
     have ha2:=zA4 (p:=Rd.optR 128) (q:=Rd.anyR) (f:=Prod.mk) (x2:=acc) h1q.2 (fun h0=>Hd.out.2 (by rw[h1q.1] at h0;exact h0))
     rw[h1q.1] at ha2
     have hl:=opt_skip hnl
     have ha3:=zA4 (p:=Rd.andR (Rd.optR 128) Rd.anyR Prod.mk) (q:=Rd.optR 130) (f:=fun a l=>(a.1,a.2,l)) (x1:=([],acc)) (x2:=[]) ha2.2 (fun h0=>hl.2 (by rw[<-ha2.1] at h0;exact h0))
     have hrr:=hR.out
     rw[<-hl.1,ha2.1,ha3.1] at hrr
     have hov:=hO.out.rep
     refine⟨⟨([],acc,[]),F',rfl,?_,hrr,hF.out,ha3.2⟩⟩
     obtain⟨A,c,xs,rfl,hln,hP,hrow⟩:=hov
     have hxs:=zBm hrow
     subst hxs
     obtain⟨rfl,rfl⟩:=Hav.out
     refine⟨⟨_,?_,hB.out⟩⟩
     refine⟨A,c,none,0,[],rfl,⟨by show acc.length<=maxLen;unfold maxLen;omega,by unfold maxLen;simp⟩,?_,HasP.none _,rfl⟩
     exact hP.move (fun _ _=>rfl) (fun k hk=>⟨by have:=Hlo3.out;omega,hk.2⟩)
    | true=>
     rw[hnl] at hN
     go_wp2_with (go_at_call 126;fail)
     refine hN.mono ?_
     rintro e w5 ⟨rfl,hw5⟩
     obtain rfl:=hw5
     clear hN
     have hc8:=piece_any w5 lo g b F' (φ||(Rd.anyR F).isNone) 130 hR.out
     rw[show c8 130=.int .u8 130 from rfl] at hc8
     go_wp2_with (go_at_call 185;fail)
     refine hc8.mono ?_
     rintro e w8 hpost8
     obtain⟨x8,v8,F8,rfl,hrep8,hr8,hf8,hq8⟩:=hpost8.out
     clear hpost8 hc8
     unfold repT at hrep8
     subst hrep8
     replace hO:=hide ((hO.out.fr hf8 (by rintro k hk (q | q)<;>(have:=Hn.out;have:=Hlo3.out;omega))).fr (Fr.setCell (X:=fun k=>k=fb) w8 ⟨fb,4,none⟩ (.string (txt x8)) rfl) (fun k hk q=>by have:=Hn.out;have:=Hlo3.out;omega))
     have hB8:=hB.out.fr hf8 (by rintro (q | q)<;>(have:=Hn.out;omega))
     have HB8:=hide (hB8.set 4 (.string (txt x8)) (by simp))
     have HR8:=hide (hr8.fr (Fr.setCell (X:=fun k=>k=fb) w8 ⟨fb,4,none⟩ (.string (txt x8)) rfl) (by have:=Hn.out;omega) (by have:=Hn.out;omega) (fun k h1 h2=>by have:=Hn.out;omega))
     have HF8:=hide ((hF.out.trans (hf8.mono (Y:=own3 (fun k=>k=fb) g b) fun k _ q=>by rcases q with q | q;exact .inl q;exact .inr (.inl q))).trans (Fr.setCell (X:=own3 (fun k=>k=fb) g b) w8 ⟨fb,4,none⟩ (.string (txt x8)) (.inr (.inr rfl))))
     have HQ8:=hide hq8
     have k8:=hB8.cells 4 _ rfl
     have z8:=hB8.fz
     clear hr8 hf8 hq8 hB8
     rw[<-opt_piece hnl] at HR8 HQ8
     go_wp2
     go_returns
     have h1q:=opt_skip hnx
     have ha2:=zA4 (p:=Rd.optR 128) (q:=Rd.anyR) (f:=Prod.mk) (x2:=acc) h1q.2 (fun h0=>Hd.out.2 (by rw[h1q.1] at h0;exact h0))
     rw[h1q.1] at ha2
     have hl:=And.intro trivial HQ8.out
     have ha3:=zA4 (p:=Rd.andR (Rd.optR 128) Rd.anyR Prod.mk) (q:=Rd.optR 130) (f:=fun a l=>(a.1,a.2,l)) (x1:=([],acc)) (x2:=x8) ha2.2 (fun h0=>hl.2 (by rw[<-ha2.1] at h0;exact h0))
     have hrr:=HR8.out
     rw[ha2.1,ha3.1] at hrr
     have hov:=hO.out.rep
     refine⟨⟨([],acc,x8),F8,rfl,?_,hrr,HF8.out,ha3.2⟩⟩
     obtain⟨A,c,xs,rfl,hln,hP,hrow⟩:=hov
     have hxs:=zBm hrow
     subst hxs
     obtain⟨rfl,rfl⟩:=Hav.out
     refine⟨⟨_,?_,HB8.out⟩⟩
     refine⟨A,c,none,0,[],rfl,⟨by show acc.length<=maxLen;unfold maxLen;omega,by unfold maxLen;simp⟩,?_,HasP.none _,rfl⟩
     exact hP.move (fun _ _=>rfl) (fun k hk=>⟨by have:=Hlo3.out;omega,hk.2⟩)
   | true=>
    rw[hnm] at hN
    obtain⟨rfl,hnx2⟩:φ'=false/\Rd.nextIs 129 F'=true:=by cases φ'<;>simp_all
    have Hnx2:=hide hnx2
    obtain⟨Av,cv,rfl⟩:=hO.out.form
    clear hnm hnx2
    go_wp2_with (go_at_call 126;fail)
    refine hN.mono ?_
    rintro e w4 ⟨rfl,hw4⟩
    obtain rfl:=hw4
    clear hN
    go_wp2_with fail
    refine zAp (wayC ⟨fb,5,none⟩ (.slice Av acc.length cv)) [11] (by kernel_rfl) ?_
    have Hd:=hide (hR.out.fr (Fr.drew (fun _=>False) w4) id id (fun _ _ _=>id))
    have HFd:=hide (hF.out.trans (Fr.drew _ w4))
    have HOd:=hide (hO.out.fr (Fr.drew (fun _=>False) w4) (fun _ _=>id))
    have HBd:=hide (hB.out.fr (Fr.drew (fun _=>False) w4) id)
    have Hs0:Hid (w.heap.size<=w4.drew.heap.size):=hide hZ.out
    clear hR hF hO hB
    generalize w4.drew=wd at *
    refine zAe 0 (some 13) rfl rfl (by kernel_rfl) rfl (by rfl) (fun Wq=>by go_simp<;>with_reducible rfl) ?_
    try simp only[pU]
    refine zAe 1 (some 14) rfl rfl (by kernel_rfl) rfl (by rfl) (fun Wq=>by go_simp<;>with_reducible rfl) ?_
    try simp only[pU]
    refine zAe 2 (some 15) rfl rfl (by kernel_rfl) rfl (by rfl) (fun Wq=>by go_simp<;>with_reducible rfl) ?_
    try simp only[pU]
    refine zAe 3 (some 16) rfl rfl (by kernel_rfl) rfl (by rfl) (fun Wq=>by go_simp<;>with_reducible rfl) ?_
    try simp only[pU]
    refine zAm 4 (some 17) (v:=?vp14) rfl rfl (by kernel_rfl) rfl (by kernel_rfl) (by rfl) (fun Wq hW=>?yp14) ?_
    case yp14=>
     have cW:Wq.cell? ⟨fb,5,none⟩=some (.slice Av acc.length cv):=hW (HBd.out.cells 5 _ rfl)
     go_simp<;>with_reducible rfl
    try simp only[pU]
    refine zAe 5 (some 18) rfl rfl (by kernel_rfl) rfl (by rfl) (fun Wq=>by go_simp<;>with_reducible rfl) ?_
    try simp only[pU]
    refine zAf 6 rfl (by kernel_rfl) (fun K hK2=>?_)
    go_simp
    have hc:=piece_any wd lo g b F' false 129 Hd.out
    rw[show c8 129=.int .u8 129 from rfl] at hc
    refine hc.mono ?_
    rintro e w6 hpost
    obtain⟨x,v9,F6,rfl,hrep,hr6,hf6,hq6⟩:=hpost.out
    clear hpost hc
    unfold repT at hrep
    subst hrep
    rw[Bool.false_or] at hr6
    have hB6:=HBd.out.fr hf6 (by rintro (q | q)<;>(have:=Hn.out;omega))
    have hO6:=HOd.out.fr hf6 (by rintro k hk (q | q)<;>(have:=Hn.out;have:=Hlo3.out;omega))
    have hs6:=hf6.size
    have HB6:=hide hB6
    have HO6:=hide hO6
    have HR6:=hide hr6
    have Hf6:=hide hf6
    have HQ6:=hide hq6
    have Hs6:=hide hs6
    refine hK2.out _ _ (fun _ _=>HB6.out.cells 5 _ rfl) ?_
    clear hK2 K hr6 hf6 hq6 hB6 hO6 hs6
    try simp only[pU]
    refine zAf 7 rfl (by kernel_rfl) (fun K hK2=>?_)
    go_simp
    have hfa:Fr (fun _=>False) w6 (w6.alloc (.cells #[.string (txt x)] 9)):=Fr.alloc _ _ _
    have hBa:=HB6.out.fr hfa id
    refine hK2.out _ _ (fun _ _=>hBa.cells 5 _ rfl) ?_
    clear hK2 K
    obtain⟨xs,hown,hrow⟩:=HO6.out.row
    have hown3:=own_fr hown hfa (fun _ _=>id)
    have hlit:=World.ownsRow_lit (e:=9) (size:=1) w6 #[.string (txt x)] 1 (Nat.le_refl _) (by unfold maxLen;omega) rfl
    try simp only[pU]
    refine zAf 8 rfl (by kernel_rfl) (fun K hK2=>?_)
    refine stepA _ 22 9 _ 1 16 Tryz.underlying22 infoT8 rfl (by omega) (by omega) (some 21) rfl rfl (.tmp 17) (.tmp 20) rfl w.heap.size _ acc.length xs rfl hown3 _ _ 1 1 [.string (txt x)] rfl (Has.own hlit) (by intro u hu;simp only[List.mem_singleton] at hu;subst hu;rfl) (by have:=hM.out.all;omega) (by have:=Hs6.out;have:=Hs0.out;simp;omega) ?_
    intro v7 w7 h4 hb4 hg4 ht4
    have hn4:acc.length+1<=20000:=by have:=hM.out.all;omega
    have hO7:=OwnL.snoc (E:=elT) (lo:=w.heap.size) (x:=x) (cs:=[.string (txt x)]) (by have:=Hs6.out;have:=Hs0.out;omega) hown hrow rfl h4 hg4 ht4 hn4
    have hfg:Fr (fun k=>(Value.slice Av acc.length cv).ownBlock=some k) w6 w7:=(Fr.alloc _ w6 (.cells #[.string (txt x)] 9)).trans (Fr.grown hg4 fun k hk=>hk)
    have hro:∀k,(Value.slice Av acc.length cv).ownBlock=some k->w.heap.size<=k:=fun k hk=>(hown.lt k hk).1
    have hfr:Fr (fun k=>w.heap.size<=k) w6 w7:=hfg.mono fun k _ hk=>hro k hk
    have hB7:=HB6.out.fr hfr (by have:=Hn.out;have:=Hlo3.out;omega)
    have hr7:=HR6.out.fr hfr (by have:=Hlo3.out;omega) (by have:=Hn.out;have:=Hlo3.out;omega) (fun k h1 h2=>by have:=Hlo3.out;omega)
    have HB7:=hide hB7
    have HR7:=hide hr7
    have HO7:=hide hO7
    have Hfr:=hide hfr
    obtain⟨A7,c7,rfl,_,_⟩:=own_form h4
    refine hK2.out _ _ (fun _ _=>HB7.out.cells 5 _ rfl) ?_
    clear hK2 K h4 hb4 hg4 ht4 hO7 hfg hro hfr hB7 hr7 hown hrow hown3 hlit hn4 hBa hfa
    try simp only[pU]
    refine zAe 9 (some 22) rfl rfl (by kernel_rfl) rfl (by rfl) (fun Wq=>by go_simp<;>with_reducible rfl) ?_
    try simp only[pU]
    refine zAe 10 (some 23) rfl rfl (by kernel_rfl) rfl (by rfl) (fun Wq=>by go_simp<;>with_reducible rfl) ?_
    try simp only[pU]
    refine zAf 11 rfl (by kernel_rfl) (fun K hK2=>?_)
    have k5:=HB7.out.cells 5 _ rfl
    have z5:=HB7.out.fz
    go_simp
    refine hK2.out _ _ (fun h=>absurd (by decide) h) ?_
    clear hK2 K k5 z5
    try simp only[pU]
    refine zAj (by kernel_rfl) ?_ _
    have VC:Value:=.slice A7 (acc.length+1) c7
    have HBz:=hide (HB7.out.set 5 (.slice A7 (acc.length+1) c7) (by simp))
    have hfs:Fr (fun k=>k=fb) w7 (w7.setCell ⟨fb,5,none⟩ (.slice A7 (acc.length+1) c7)):=Fr.setCell _ _ _ rfl
    have HRz:=hide (HR7.out.fr hfs (by have:=Hn.out;omega) (by have:=Hn.out;omega) (fun k h1 h2=>by have:=Hn.out;omega))
    have HOz:=hide (HO7.out.fr hfs (fun k hk q=>by have:=Hn.out;have:=Hlo3.out;omega))
    have HFz:Hid (Fr (own3 (fun k=>k=fb) g b) w _):=hide ((((HFd.out.trans (Hf6.out.mono (Y:=own3 (fun k=>k=fb) g b) fun k _ q=>by rcases q with q | q;exact .inl q;exact .inr (.inl q))).trans' Hfr.out (fun k hk q=>by have:=Hn.out;have:=Hlo3.out;omega))).trans (hfs.mono fun _ _ q=>.inr (.inr q)))
    have Hst:=hide (hM.out.step (x:=x) (G:=F6) Hnx2.out (fun x0 F0 h0=>HQ6.out rfl x0 F0 h0))
    have HZz:=hide (Nat.le_trans Hs0.out (Nat.le_trans Hs6.out (Nat.le_trans Hfr.out.size hfs.size)))
    clear hfs
    go_wp2
    go_roundg (if (Rd.pieceR 0x81 F').isNone then 0 else F6.length+1)
    case measure=>have h1:=Hst.out.2;have h2:=hK.out;simp only[Bool.false_eq_true,if_false] at h2;omega
    case rel=>exact⟨F6,(Rd.pieceR 0x81 F').isNone,acc++[x],_,HRz,by simpa using HOz,by simpa using HBz,HFz,hide Hst.out.1,hide (Nat.le_refl _),HZz⟩
 | true=>
  rw[hnx] at hN
  go_enter Tryz.func184,Tryz.ntmps184
  go_wp2_with (go_at_call 126;fail)
  refine hN.mono ?_
  rintro e w1 ⟨rfl,hw1⟩
  obtain rfl:=hw1.symm
  clear hN
  have hc2:=piece_any w lo g b F φ 128 HR0.out
  rw[show c8 128=.int .u8 128 from rfl] at hc2
  go_wp2_with (go_at_call 185;fail)
  refine hc2.mono ?_
  rintro e w2 hpost2
  obtain⟨x2,v2,F2,rfl,hrep2,hr2,hf2,hq2⟩:=hpost2.out
  clear hpost2 hc2
  unfold repT at hrep2
  subst hrep2
  have hB2:=HB0.out.fr hf2 (by rintro (q | q)<;>(have:=Hn.out;omega))
  have HB2:=hide (hB2.set 3 (.string (txt x2)) (by simp))
  have HR2:=hide (hr2.fr (Fr.setCell (X:=fun k=>k=fb) w2 ⟨fb,3,none⟩ (.string (txt x2)) rfl) (by have:=Hn.out;omega) (by have:=Hn.out;omega) (fun k h1 h2=>by have:=Hn.out;omega))
  have HF2:=hide ((HF0.out.trans (hf2.mono (Y:=own3 (fun k=>k=fb) g b) fun k _ q=>by rcases q with q | q;exact .inl q;exact .inr (.inl q))).trans (Fr.setCell (X:=own3 (fun k=>k=fb) g b) w2 ⟨fb,3,none⟩ (.string (txt x2)) (.inr (.inr rfl))))
  have HQ2:=hide hq2
  have k2:=hB2.cells 3 _ rfl
  have z2:=hB2.fz
  clear hr2 hf2 hq2 hB2
  rw[<-opt_piece hnx] at HR2 HQ2
  go_wp2
  have hsm:=HR2.out.small.1
  have HM:=hide (AnyAt.start F2 (φ||(Rd.optR 128 F).isNone) hsm)
  have HO:Hid (OwnL elT 9 (w2.setCell ⟨fb,3,none⟩ (.string (txt x2))).heap.size [] (.slice none 0 0) (w2.setCell ⟨fb,3,none⟩ (.string (txt x2)))):=hide (OwnL.nil _ _)
  clear hsm
  obtain⟨W0,hW0⟩:∃W0,(w2.setCell ⟨fb,3,none⟩ (.string (txt x2)))=W0:=⟨_,rfl⟩
  rw[hW0] at HR2 HB2 HF2 HO ⊢
  have hlo3:lo2<=W0.heap.size/\g<W0.heap.size/\w.heap.size<=W0.heap.size:=⟨by have:=HF2.out.size;have:=Hn.out;omega,HR2.out.lt,HF2.out.size⟩
  have Hlo3:=hide hlo3
  clear hlo3 hW0
  go_loopg [] (if (φ||(Rd.optR 128 F).isNone) then 0 else F2.length+1) (fun kk wx=>∃(F':List Fd) (φ':Bool) (acc:List (List UInt8)) (va:Value),Hid (RdS wx lo g b F' φ')/\Hid (OwnL elT 9 W0.heap.size acc va wx)/\Hid (Blk wx fb [.int .i64 k,.string a,.string v,.string (txt x2),.string ⟨#[]⟩,va,.slice none 0 0])/\Hid (Fr (own3 (fun k=>k=fb) g b) w wx)/\Hid (AnyAt F2 (φ||(Rd.optR 128 F).isNone) F' φ' acc)/\Hid ((if φ' then 0 else F'.length+1)<=kk)/\Hid (W0.heap.size<=wx.heap.size))
  case atStart=>exact⟨F2,(φ||(Rd.optR 128 F).isNone),[],_,HR2,HO,HB2,HF2,HM,hide (Nat.le_refl _),hide (Nat.le_refl _)⟩
  case round=>
   obtain⟨F',φ',acc,va,hR,hO,hB,hF,hM,hK,hZ⟩:=hrel
   clear HR2 HB2 HF2 HO HM
   have hN:=next_any wr lo g b F' φ' 129 hR.out
   rw[show c8 129=.int .u8 129 from rfl] at hN
   cases hnm:(!φ'&&Rd.nextIs 129 F') with
   | false=>
    rw[hnm] at hN
    have hd:=hM.out.done hnm
    have Hd:=hide hd
    rw[hd.1] at hR
    clear hd
    go_wp2_with (go_at_call 126;fail)
    refine hN.mono ?_
    rintro e w4 ⟨rfl,hw4⟩
    obtain rfl:=hw4
    clear hN
    have hN:=next_any w4 lo g b F' ((φ||(Rd.optR 128 F).isNone)||(Rd.anyR F2).isNone) 130 hR.out
    rw[show c8 130=.int .u8 130 from rfl] at hN
    cases hnl:(!((φ||(Rd.optR 128 F).isNone)||(Rd.anyR F2).isNone)&&Rd.nextIs 130 F') with
    | false=>
     rw[hnl] at hN
     go_wp2_with (go_at_call 126;fail)
     refine hN.mono ?_
     rintro e w5 ⟨rfl,hw5⟩
     obtain rfl:=hw5
     clear hN
     go_wp2
     go_returns
     have ha2:=zA4 (p:=Rd.optR 128) (q:=Rd.anyR) (f:=Prod.mk) (x2:=acc) HQ2.out Hd.out.2
     have hl:=opt_skip hnl
     have ha3:=zA4 (p:=Rd.andR (Rd.optR 128) Rd.anyR Prod.mk) (q:=Rd.optR 130) (f:=fun a l=>(a.1,a.2,l)) (x1:=(x2,acc)) (x2:=[]) ha2.2 (fun h0=>hl.2 (by rw[<-ha2.1] at h0;exact h0))
     have hrr:=hR.out
     rw[<-hl.1,ha2.1,ha3.1] at hrr
     have hov:=hO.out.rep
     refine⟨⟨(x2,acc,[]),F',rfl,?_,hrr,hF.out,ha3.2⟩⟩
     obtain⟨A,c,xs,rfl,hln,hP,hrow⟩:=hov
     have hxs:=zBm hrow
     subst hxs
     obtain⟨rfl,rfl⟩:=Hav.out
     refine⟨⟨_,?_,hB.out⟩⟩
     refine⟨A,c,none,0,[],rfl,⟨by show acc.length<=maxLen;unfold maxLen;omega,by unfold maxLen;simp⟩,?_,HasP.none _,rfl⟩
     exact hP.move (fun _ _=>rfl) (fun k hk=>⟨by have:=Hlo3.out;omega,hk.2⟩)
    | true=>
     rw[hnl] at hN
     go_wp2_with (go_at_call 126;fail)
     refine hN.mono ?_
     rintro e w5 ⟨rfl,hw5⟩
     obtain rfl:=hw5
     clear hN
     have hc8:=piece_any w5 lo g b F' ((φ||(Rd.optR 128 F).isNone)||(Rd.anyR F2).isNone) 130 hR.out
     rw[show c8 130=.int .u8 130 from rfl] at hc8
     go_wp2_with (go_at_call 185;fail)
     refine hc8.mono ?_
     rintro e w8 hpost8
     obtain⟨x8,v8,F8,rfl,hrep8,hr8,hf8,hq8⟩:=hpost8.out
     clear hpost8 hc8
     unfold repT at hrep8
     subst hrep8
     replace hO:=hide ((hO.out.fr hf8 (by rintro k hk (q | q)<;>(have:=Hn.out;have:=Hlo3.out;omega))).fr (Fr.setCell (X:=fun k=>k=fb) w8 ⟨fb,4,none⟩ (.string (txt x8)) rfl) (fun k hk q=>by have:=Hn.out;have:=Hlo3.out;omega))
     have hB8:=hB.out.fr hf8 (by rintro (q | q)<;>(have:=Hn.out;omega))
     have HB8:=hide (hB8.set 4 (.string (txt x8)) (by simp))
     have HR8:=hide (hr8.fr (Fr.setCell (X:=fun k=>k=fb) w8 ⟨fb,4,none⟩ (.string (txt x8)) rfl) (by have:=Hn.out;omega) (by have:=Hn.out;omega) (fun k h1 h2=>by have:=Hn.out;omega))
     have HF8:=hide ((hF.out.trans (hf8.mono (Y:=own3 (fun k=>k=fb) g b) fun k _ q=>by rcases q with q | q;exact .inl q;exact .inr (.inl q))).trans (Fr.setCell (X:=own3 (fun k=>k=fb) g b) w8 ⟨fb,4,none⟩ (.string (txt x8)) (.inr (.inr rfl))))
     have HQ8:=hide hq8
     have k8:=hB8.cells 4 _ rfl
     have z8:=hB8.fz
     clear hr8 hf8 hq8 hB8
     rw[<-opt_piece hnl] at HR8 HQ8
     go_wp2
     go_returns
     have ha2:=zA4 (p:=Rd.optR 128) (q:=Rd.anyR) (f:=Prod.mk) (x2:=acc) HQ2.out Hd.out.2
     have hl:=And.intro trivial HQ8.out
     have ha3:=zA4 (p:=Rd.andR (Rd.optR 128) Rd.anyR Prod.mk) (q:=Rd.optR 130) (f:=fun a l=>(a.1,a.2,l)) (x1:=(x2,acc)) (x2:=x8) ha2.2 (fun h0=>hl.2 (by rw[<-ha2.1] at h0;exact h0))
     have hrr:=HR8.out
     rw[ha2.1,ha3.1] at hrr
     have hov:=hO.out.rep
     refine⟨⟨(x2,acc,x8),F8,rfl,?_,hrr,HF8.out,ha3.2⟩⟩
     obtain⟨A,c,xs,rfl,hln,hP,hrow⟩:=hov
     have hxs:=zBm hrow
     subst hxs
     obtain⟨rfl,rfl⟩:=Hav.out
     refine⟨⟨_,?_,HB8.out⟩⟩
     refine⟨A,c,none,0,[],rfl,⟨by show acc.length<=maxLen;unfold maxLen;omega,by unfold maxLen;simp⟩,?_,HasP.none _,rfl⟩
     exact hP.move (fun _ _=>rfl) (fun k hk=>⟨by have:=Hlo3.out;omega,hk.2⟩)
   | true=>
    rw[hnm] at hN
    obtain⟨rfl,hnx2⟩:φ'=false/\Rd.nextIs 129 F'=true:=by cases φ'<;>simp_all
    have Hnx2:=hide hnx2
    obtain⟨Av,cv,rfl⟩:=hO.out.form
    clear hnm hnx2
    go_wp2_with (go_at_call 126;fail)
    refine hN.mono ?_
    rintro e w4 ⟨rfl,hw4⟩
    obtain rfl:=hw4
    clear hN
    go_wp2_with fail
    refine zAp (wayC ⟨fb,5,none⟩ (.slice Av acc.length cv)) [11] (by kernel_rfl) ?_
    have Hd:=hide (hR.out.fr (Fr.drew (fun _=>False) w4) id id (fun _ _ _=>id))
    have HFd:=hide (hF.out.trans (Fr.drew _ w4))
    have HOd:=hide (hO.out.fr (Fr.drew (fun _=>False) w4) (fun _ _=>id))
    have HBd:=hide (hB.out.fr (Fr.drew (fun _=>False) w4) id)
    have Hs0:Hid (W0.heap.size<=w4.drew.heap.size):=hide hZ.out
    clear hR hF hO hB
    generalize w4.drew=wd at *
    refine zAe 0 (some 13) rfl rfl (by kernel_rfl) rfl (by rfl) (fun Wq=>by go_simp<;>with_reducible rfl) ?_
    try simp only[pU]
    refine zAe 1 (some 14) rfl rfl (by kernel_rfl) rfl (by rfl) (fun Wq=>by go_simp<;>with_reducible rfl) ?_
    try simp only[pU]
    refine zAe 2 (some 15) rfl rfl (by kernel_rfl) rfl (by rfl) (fun Wq=>by go_simp<;>with_reducible rfl) ?_
    try simp only[pU]
    refine zAe 3 (some 16) rfl rfl (by kernel_rfl) rfl (by rfl) (fun Wq=>by go_simp<;>with_reducible rfl) ?_
    try simp only[pU]
    refine zAm 4 (some 17) (v:=?vp24) rfl rfl (by kernel_rfl) rfl (by kernel_rfl) (by rfl) (fun Wq hW=>?yp24) ?_
    case yp24=>
     have cW:Wq.cell? ⟨fb,5,none⟩=some (.slice Av acc.length cv):=hW (HBd.out.cells 5 _ rfl)
     go_simp<;>with_reducible rfl
    try simp only[pU]
    refine zAe 5 (some 18) rfl rfl (by kernel_rfl) rfl (by rfl) (fun Wq=>by go_simp<;>with_reducible rfl) ?_
    try simp only[pU]
    refine zAf 6 rfl (by kernel_rfl) (fun K hK2=>?_)
    go_simp
    have hc:=piece_any wd lo g b F' false 129 Hd.out
    rw[show c8 129=.int .u8 129 from rfl] at hc
    refine hc.mono ?_
    rintro e w6 hpost
    obtain⟨x,v9,F6,rfl,hrep,hr6,hf6,hq6⟩:=hpost.out
    clear hpost hc
    unfold repT at hrep
    subst hrep
    rw[Bool.false_or] at hr6
    have hB6:=HBd.out.fr hf6 (by rintro (q | q)<;>(have:=Hn.out;omega))
    have hO6:=HOd.out.fr hf6 (by rintro k hk (q | q)<;>(have:=Hn.out;have:=Hlo3.out;omega))
    have hs6:=hf6.size
    have HB6:=hide hB6
    have HO6:=hide hO6
    have HR6:=hide hr6
    have Hf6:=hide hf6
    have HQ6:=hide hq6
    have Hs6:=hide hs6
    refine hK2.out _ _ (fun _ _=>HB6.out.cells 5 _ rfl) ?_
    clear hK2 K hr6 hf6 hq6 hB6 hO6 hs6
    try simp only[pU]
    refine zAf 7 rfl (by kernel_rfl) (fun K hK2=>?_)
    go_simp
    have hfa:Fr (fun _=>False) w6 (w6.alloc (.cells #[.string (txt x)] 9)):=Fr.alloc _ _ _
    have hBa:=HB6.out.fr hfa id
    refine hK2.out _ _ (fun _ _=>hBa.cells 5 _ rfl) ?_
    clear hK2 K
    obtain⟨xs,hown,hrow⟩:=HO6.out.row
    have hown3:=own_fr hown hfa (fun _ _=>id)
    have hlit:=World.ownsRow_lit (e:=9) (size:=1) w6 #[.string (txt x)] 1 (Nat.le_refl _) (by unfold maxLen;omega) rfl
    try simp only[pU]
    refine zAf 8 rfl (by kernel_rfl) (fun K hK2=>?_)
    refine stepA _ 22 9 _ 1 16 Tryz.underlying22 infoT8 rfl (by omega) (by omega) (some 21) rfl rfl (.tmp 17) (.tmp 20) rfl W0.heap.size _ acc.length xs rfl hown3 _ _ 1 1 [.string (txt x)] rfl (Has.own hlit) (by intro u hu;simp only[List.mem_singleton] at hu;subst hu;rfl) (by have:=hM.out.all;omega) (by have:=Hs6.out;have:=Hs0.out;simp;omega) ?_
    intro v7 w7 h4 hb4 hg4 ht4
    have hn4:acc.length+1<=20000:=by have:=hM.out.all;omega
    have hO7:=OwnL.snoc (E:=elT) (lo:=W0.heap.size) (x:=x) (cs:=[.string (txt x)]) (by have:=Hs6.out;have:=Hs0.out;omega) hown hrow rfl h4 hg4 ht4 hn4
    have hfg:Fr (fun k=>(Value.slice Av acc.length cv).ownBlock=some k) w6 w7:=(Fr.alloc _ w6 (.cells #[.string (txt x)] 9)).trans (Fr.grown hg4 fun k hk=>hk)
    have hro:∀k,(Value.slice Av acc.length cv).ownBlock=some k->W0.heap.size<=k:=fun k hk=>(hown.lt k hk).1
    have hfr:Fr (fun k=>W0.heap.size<=k) w6 w7:=hfg.mono fun k _ hk=>hro k hk
    have hB7:=HB6.out.fr hfr (by have:=Hn.out;have:=Hlo3.out;omega)
    have hr7:=HR6.out.fr hfr (by have:=Hlo3.out;omega) (by have:=Hn.out;have:=Hlo3.out;omega) (fun k h1 h2=>by have:=Hlo3.out;omega)
    have HB7:=hide hB7
    have HR7:=hide hr7
    have HO7:=hide hO7
    have Hfr:=hide hfr
    obtain⟨A7,c7,rfl,_,_⟩:=own_form h4
    refine hK2.out _ _ (fun _ _=>HB7.out.cells 5 _ rfl) ?_
    clear hK2 K h4 hb4 hg4 ht4 hO7 hfg hro hfr hB7 hr7 hown hrow hown3 hlit hn4 hBa hfa
    try simp only[pU]
    refine zAe 9 (some 22) rfl rfl (by kernel_rfl) rfl (by rfl) (fun Wq=>by go_simp<;>with_reducible rfl) ?_
    try simp only[pU]
    refine zAe 10 (some 23) rfl rfl (by kernel_rfl) rfl (by rfl) (fun Wq=>by go_simp<;>with_reducible rfl) ?_
    try simp only[pU]
    refine zAf 11 rfl (by kernel_rfl) (fun K hK2=>?_)
    have k5:=HB7.out.cells 5 _ rfl
    have z5:=HB7.out.fz
    go_simp
    refine hK2.out _ _ (fun h=>absurd (by decide) h) ?_
    clear hK2 K k5 z5
    try simp only[pU]
    refine zAj (by kernel_rfl) ?_ _
    have VC:Value:=.slice A7 (acc.length+1) c7
    have HBz:=hide (HB7.out.set 5 (.slice A7 (acc.length+1) c7) (by simp))
    have hfs:Fr (fun k=>k=fb) w7 (w7.setCell ⟨fb,5,none⟩ (.slice A7 (acc.length+1) c7)):=Fr.setCell _ _ _ rfl
    have HRz:=hide (HR7.out.fr hfs (by have:=Hn.out;omega) (by have:=Hn.out;omega) (fun k h1 h2=>by have:=Hn.out;omega))
    have HOz:=hide (HO7.out.fr hfs (fun k hk q=>by have:=Hn.out;have:=Hlo3.out;omega))
    have HFz:Hid (Fr (own3 (fun k=>k=fb) g b) w _):=hide ((((HFd.out.trans (Hf6.out.mono (Y:=own3 (fun k=>k=fb) g b) fun k _ q=>by rcases q with q | q;exact .inl q;exact .inr (.inl q))).trans' Hfr.out (fun k hk q=>by have:=Hn.out;have:=Hlo3.out;omega))).trans (hfs.mono fun _ _ q=>.inr (.inr q)))
    have Hst:=hide (hM.out.step (x:=x) (G:=F6) Hnx2.out (fun x0 F0 h0=>HQ6.out rfl x0 F0 h0))
    have HZz:=hide (Nat.le_trans Hs0.out (Nat.le_trans Hs6.out (Nat.le_trans Hfr.out.size hfs.size)))
    clear hfs
    go_wp2
    go_roundg (if (Rd.pieceR 0x81 F').isNone then 0 else F6.length+1)
    case measure=>have h1:=Hst.out.2;have h2:=hK.out;simp only[Bool.false_eq_true,if_false] at h2;omega
    case rel=>exact⟨F6,(Rd.pieceR 0x81 F').isNone,acc++[x],_,HRz,by simpa using HOz,by simpa using HBz,HFz,hide Hst.out.1,hide (Nat.le_refl _),HZz⟩
structure OwnZ (ety:TypeId) (lo:Nat) (L:List FT) (t:FT) (ys:List Value) (v:Value) (W:World):Prop where
 row:∃xs zs,W.ownsRow lo ety 7 v (L.length+1) (xs++zs)/\xs.length=L.length*7/\zs.length=7/\rowIn elF W (fun k=>lo<=k/\k<W.heap.size/\v.ownBlock≠some k) L xs
 el:FInP W (fun k=>lo<=k/\k<W.heap.size/\v.ownBlock≠some k) t ys
 len:L.length+1<=20000
section
variable {ety:TypeId} {lo:Nat} {L:List FT} {t:FT} {ys:List Value} {v:Value} {W W':World} {X:Nat->Prop}
theorem OwnZ.fr (h:OwnZ ety lo L t ys v W) (hf:Fr X W W') (hx:∀k,lo<=k->¬X k):OwnZ ety lo L t ys v W':=by
 obtain⟨xs,zs,h1,h2,h3,h4⟩:=h.row
 have key:∀k,(lo<=k/\k<W.heap.size/\v.ownBlock≠some k)->(lo<=k/\k<W'.heap.size/\v.ownBlock≠some k):=fun k hk=>⟨hk.1,Nat.lt_of_lt_of_le hk.2.1 hf.size,hk.2.2⟩
 exact⟨⟨xs,zs,own_fr h1 hf hx,h2,h3,h4.move (fun p hp=>hf.cell hp.2.1 (hx _ hp.1)) key⟩,h.el.move (fun p hp=>hf.cell hp.2.1 (hx _ hp.1)) key,h.len⟩
theorem OwnZ.form (h:OwnZ ety lo L t ys v W):∃g c,v=.slice (some ⟨g,0,none⟩) (L.length+1) c/\lo<=g/\g<W.heap.size/\W.there g (L.length*7) 7:=by
 obtain⟨xs,zs,h1,h2,h3,_⟩:=h.row
 obtain⟨g,c,hv,hg,hlt⟩:=h1.form (by omega)
 refine⟨g,c,hv,hg,hlt,fun j hj=>?_⟩
 subst hv
 have hc:=h1.cells (g:=g) rfl (L.length*7+j) (zs[j]'(by omega)) (by
  rw[List.getElem?_append_right (by omega),show L.length*7+j-xs.length=j by omega]
  exact List.getElem?_eq_getElem (by omega))
 have e:(⟨g,0,none⟩:Addr).add (L.length*7+j)=⟨g,L.length*7+j,none⟩:=by rw[Addr.add_mid];simp
 rw[e] at hc
 refine⟨by rw[hc];rfl,?_⟩
 rcases h1.2 with⟨h0,_⟩ | ⟨g',cap,cur,hv',_,hh,_⟩
 ·cases h0
 ·cases hv'
  simp[World.frozen?,hh]
theorem OwnZ.put {g c:Nat} (h:OwnZ ety lo L t ys (.slice (some ⟨g,0,none⟩) (L.length+1) c) W):OwnL elF ety lo (L++[t]) (.slice (some ⟨g,0,none⟩) (L.length+1) c) (W.setCells g (L.length*7) ys):=by
 obtain⟨xs,zs,h1,h2,h3,h4⟩:=h.row
 have hy:=h.el.len
 have h5:=own_sets h1 (L.length*7) ys (by rw[hy];omega)
 have e:(xs++zs).take (L.length*7)++ys++(xs++zs).drop (L.length*7+ys.length)=xs++ys:=by
  rw[List.take_append_of_le_length (by omega),List.take_of_length_le (by omega),List.drop_eq_nil_of_le (by simp;omega)]
  simp
 rw[e] at h5
 have hf:Fr (fun k=>k=g) W (W.setCells g (L.length*7) ys):=Fr.setCells W g _ ys rfl
 have key:∀k,(lo<=k/\k<W.heap.size/\(Value.slice (some ⟨g,0,none⟩) (L.length+1) c).ownBlock≠some k)->(lo<=k/\k<(W.setCells g (L.length*7) ys).heap.size/\(Value.slice (some ⟨g,0,none⟩) (L.length+1) c).ownBlock≠some k):=fun k hk=>⟨hk.1,Nat.lt_of_lt_of_le hk.2.1 hf.size,hk.2.2⟩
 have hr:rowIn elF W (fun k=>lo<=k/\k<W.heap.size/\(Value.slice (some ⟨g,0,none⟩) (L.length+1) c).ownBlock≠some k) (L++[t]) (xs++ys):=rowIn.snoc (E:=elF) h4 h.el
 exact⟨⟨xs++ys,by simpa[elF] using h5,hr.move (fun p hp=>hf.cell hp.2.1 (fun q=>hp.2.2 (by simp[Value.ownBlock,q]))) key⟩,by simpa using h.len⟩
theorem OwnL.room {w7 w8:World} {v':Value} {xs zs ys:List Value} {t:FT} (hown:w7.ownsRow lo ety 7 v L.length xs) (hrow:rowIn elF w7 (fun k=>lo<=k/\k<w7.heap.size/\v.ownBlock≠some k) L xs) (hx:FInP w7 (fun k=>lo<=k/\k<w7.heap.size/\v.ownBlock≠some k) t ys)
  (h8:w8.ownsRow lo ety 7 v' (L.length+1) (xs++zs)) (hz:zs.length=7) (hg:w7.grownBy w8 v.ownBlock) (ht:v'.ownBlock=v.ownBlock\/v'.ownBlock=some w7.heap.size) (hn:L.length+1<=20000):OwnZ ety lo L t ys v' w8:=by
 have hf1:Fr (fun k=>v.ownBlock=some k) w7 w8:=Fr.grown hg fun k hk=>hk
 have key:∀k,(lo<=k/\k<w7.heap.size/\v.ownBlock≠some k)->(lo<=k/\k<w8.heap.size/\v'.ownBlock≠some k):=fun k hk=>⟨hk.1,Nat.lt_of_lt_of_le hk.2.1 hf1.size,fun e=>by
  rcases ht with h | h
  ·rw [h] at e;exact hk.2.2 e
  ·rw [h] at e;cases e;have:=hk.2.1;omega⟩
 exact⟨⟨xs,zs,h8,by have:=hown.1;omega,hz,hrow.move (fun p hp=>hf1.cell hp.2.1 hp.2.2) key⟩,hx.move (fun p hp=>hf1.cell hp.2.1 hp.2.2) key,hn⟩
end
namespace Rd
def bodyR (d:Nat) (k:Int):Rdr FT:=fun G=>
 if k=0\/k=1\/k=2 then (manyR (filterR d) G).map fun p=>(FT.mk k [] [] [] [] [] p.1,p.2)
 else if k=4 then andR textR (innerR 0x30 piecesR) (fun a p=>FT.mk 4 a [] p.1 p.2.2 p.2.1 []) G
 else if k=3\/k=5\/k=6\/k=8 then andR textR textR (fun a v=>FT.mk k a v [] [] [] []) G
 else none
end Rd
theorem inner_congr {α:Type} {t:UInt8} {p q:Rdr α} {F:List Fd} (h:∀G,p G=q G):Rd.innerR t p F=Rd.innerR t q F:=by
 have:p=q:=funext h
 rw[this]
theorem filter_body (d:Nat) (t:UInt8) (c:List UInt8) (r:List Fd) (ht:t≠0x87):Rd.filterR (d+1) ((t,c)::r)=Rd.innerR t (Rd.bodyR d ((t.toNat:Int)-160)) ((t,c)::r):=by
 have key:∀n:UInt8,t≠n->(t.toNat:Int)≠(n.toNat:Int):=fun n h e=>h (UInt8.toNat_inj.1 (by omega))
 rw[Rd.filterR]
 simp only
 rw[if_neg ht]
 by_cases h1:t=0xa0\/t=0xa1\/t=0xa2
 ·rw [if_pos h1]
  refine inner_congr fun G=>?_
  unfold Rd.bodyR
  rw[if_pos (by rcases h1 with rfl | rfl | rfl<;>decide)]
 ·rw [if_neg h1]
  simp only[not_or] at h1
  have k1:=key _ h1.1
  have k2:=key _ h1.2.1
  have k3:=key _ h1.2.2
  simp only[UInt8.reduceToNat] at k1 k2 k3
  by_cases h2:t=0xa4
  ·rw [if_pos h2]
   subst h2
   refine inner_congr fun G=>?_
   unfold Rd.bodyR
   rw[if_neg (by decide),if_pos (by decide)]
  ·rw [if_neg h2]
   have k4:=key _ h2
   simp only[UInt8.reduceToNat] at k4
   by_cases h3:t=0xa3\/t=0xa5\/t=0xa6\/t=0xa8
   ·rw [if_pos h3]
    refine inner_congr fun G=>?_
    unfold Rd.bodyR
    rw[if_neg (by omega),if_neg (by omega),if_pos (by rcases h3 with rfl | rfl | rfl | rfl<;>decide)]
   ·rw [if_neg h3]
    simp only[not_or] at h3
    have k5:=key _ h3.1
    have k6:=key _ h3.2.1
    have k7:=key _ h3.2.2.1
    have k8:=key _ h3.2.2.2
    simp only[UInt8.reduceToNat] at k5 k6 k7 k8
    have hb:∀G,Rd.bodyR d ((t.toNat:Int)-160) G=none:=fun G=>by
     unfold Rd.bodyR
     rw[if_neg (by omega),if_neg (by omega),if_neg (by omega)]
    have ht2:Rd.takeR t ((t,c)::r)=some (c,r):=by simp[Rd.takeR]
    rw[inner_of ht2]
    unfold Rd.wholeR
    cases Rd.fieldsOf c with
    | none=>rfl
    | some G=>simp only[hb];rfl
theorem zBf:∀d,Eats (Rd.filterR d)
 | 0=>fun F x G h=>by cases h
 | d+1=>fun F x G h=>by
  cases F with
  | nil=>cases h
  | cons f r=>
   obtain⟨t,c⟩:=f
   by_cases ht:t=0x87
   ·subst ht
    rw[Rd.filterR] at h
    simp only[if_true] at h
    cases hp:Rd.taggedR 135 ((135,c)::r) with
    | none=>rw[hp] at h;cases h
    | some q=>obtain⟨y,H⟩:=q;rw[hp] at h;cases h;exact tagged_eats _ _ _ _ hp
   ·rw [filter_body d t c r ht] at h
    exact inner_eats _ _ _ _ _ h
end Go.Proofs.YtcpjmgfloimfhaaGreat
