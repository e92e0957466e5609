/- What reads a filter: the closure. By an AI agent. -/
import Derived.Test.YtcpjmgfloimfhaaGreatM06
set_option linter.unusedSimpArgs false
set_option linter.unusedVariables false
set_option maxRecDepth 100000
set_option maxHeartbeats 32000000
namespace Go.Proofs.YtcpjmgfloimfhaaGreat
open Go.RowKit
def FiltP (d:Nat):Prop:=∀(W:World) (lo g b:Nat) (F:List Fd) (φ:Bool),RdS W lo g b F φ->Calls Tryz.prog 173 #[.pointer (some ⟨g,0,none⟩),.int .i64 (d:Int)] W (RdPost (repE elF) (Rd.filterR d) W (own2 g b) lo g b F φ)
theorem body_parts {d:Nat} {k:Int} {F F':List Fd} {φ φ':Bool} {acc:List FT} (hk:k=0\/k=1\/k=2) (hd:φ'=(φ||(Rd.manyR (Rd.filterR d) F).isNone)/\(φ=false->∀x0 F0,Rd.manyR (Rd.filterR d) F=some (x0,F0)->acc=x0/\F'=F0)):
  φ'=(φ||(Rd.bodyR d k F).isNone)/\(φ=false->∀x0 F0,Rd.bodyR d k F=some (x0,F0)->FT.mk k [] [] [] [] [] acc=x0/\F'=F0):=by
 have e:Rd.bodyR d k F=(Rd.manyR (Rd.filterR d) F).map fun p=>(FT.mk k [] [] [] [] [] p.1,p.2):=by unfold Rd.bodyR;rw[if_pos hk]
 rw[e]
 cases hm:Rd.manyR (Rd.filterR d) F with
 | none=>rw[hm] at hd;exact⟨hd.1,fun _ x0 F0 h0=>by cases h0⟩
 | some q=>
  obtain⟨y,G⟩:=q
  rw[hm] at hd
  refine⟨hd.1,fun h x0 F0 h0=>?_⟩
  obtain⟨rfl,rfl⟩:=hd.2 h _ _ rfl
  simpa using h0
theorem infoF8:(Tryz.prog.info? 39).map (fun i=>(i.zero,i.size,i.bytes))=some (some (.agg #[.int .i64 0,.string .empty,.string .empty,.string .empty,.string .empty,.slice none 0 0,.slice none 0 0]),7,120):=by kernel_rfl
def FiltC (d:Nat) (k:Int):Prop:=∀(w:World) (b fb db lo2:Nat),fb<lo2->lo2<=w.heap.size->b≠fb->b<lo2->db<lo2->db≠fb->db≠b->
  Blk w fb [.int .i64 k,.string ⟨#[]⟩,.string ⟨#[]⟩,.string ⟨#[]⟩,.string ⟨#[]⟩,.slice none 0 0,.slice none 0 0]->w.cell? ⟨db,0,none⟩=some (.int .i64 ((d:Int)+1))->
  ClosedBy (fun t W=>StE elF fb lo2 t W) (fun k=>k=fb) (Rd.bodyR d k) w b 182 #[.pointer (some ⟨fb,0,none⟩),.pointer (some ⟨db,0,none⟩)]
theorem filtC_parts (d:Nat) (hd:d<=20) (hP:FiltP d) (k:Int) (hk:k=0\/k=1\/k=2):FiltC d k:=by
 intro w b fb db lo2 hfb hlo hbf hb2 hdb hdf hdn hB hD W lo g F φ hfr hwl hr
 have hgl:=hr.log
 have hlt:=hr.lt
 have hbo:=hr.blo
 have HB0:=hide (hB.fr hfr (fun e=>hbf e.symm))
 have HD0:Hid (W.cell? ⟨db,0,none⟩=some (.int .i64 ((d:Int)+1))):=hide ((hfr.cell (p:=⟨db,0,none⟩) (by simp only;omega) hdn).trans hD)
 have Hn:=hide (And.intro hfb (And.intro hlo (And.intro hbf (And.intro hb2 (And.intro hdb (And.intro hdf (And.intro hdn (And.intro hwl (And.intro hgl (And.intro hlt (And.intro hbo hfr.size)))))))))))
 have HR0:=hide hr
 have HF0:Hid (Fr (own3 (fun k=>k=fb) g b) W W):=hide (Fr.refl _ _)
 try simp only[List.append_toArray,List.cons_append,List.nil_append]
 have kk:=HB0.out.cells 0 _ rfl
 clear hfr hwl hr hgl hlt hbo hB hD hfb hlo hbf hb2 hdb hdf hdn
 have hk0:=hk
 have Hk:=hide hk
 have HP:=hide hP
 have hsm:=HR0.out.small.1
 have HM:=hide (Many.start (Rd.filterR d) F φ hsm)
 have HO:Hid (OwnL elF 39 W.heap.size [] (.slice none 0 0) W):=hide (OwnL.nil _ _)
 clear hsm hP hk
 rcases hk0 with rfl | rfl | rfl
 ·go_enter Tryz.func182,Tryz.ntmps182
  go_wp2
  go_loopg [] (if φ then 0 else F.length+1) (fun kn wx=>∃(F':List Fd) (φ':Bool) (acc:List FT) (vp:Value),Hid (RdS wx lo g b F' φ')/\Hid (OwnL elF 39 W.heap.size acc vp wx)/\Hid (Blk wx fb [.int .i64 0,.string ⟨#[]⟩,.string ⟨#[]⟩,.string ⟨#[]⟩,.string ⟨#[]⟩,.slice none 0 0,vp])/\Hid (Fr (own3 (fun k=>k=fb) g b) W wx)/\Hid (wx.cell? ⟨db,0,none⟩=some (.int .i64 ((d:Int)+1)))/\Hid (Many (Rd.filterR d) F φ F' φ' acc)/\Hid ((if φ' then 0 else F'.length+1)<=kn))
  case atStart=>exact⟨F,φ,[],_,HR0,HO,HB0,HF0,HD0,HM,hide (Nat.le_refl _)⟩
  case round=>
   obtain⟨F',φ',acc,vp,hR,hO,hB,hF,hD,hM,hK⟩:=hrel
   clear HR0 HO HB0 HF0 HD0 HM
   have hmo:=zA6 wr lo g b F' φ' hR.out
   cases hmb:moreB F' φ' with
   | false=>
    rw[hmb] at hmo
    have hdd:=body_parts (k:=0) (by omega) (hM.out.done hmb)
    have Hd:=hide hdd
    clear hmb hdd
    go_wp2_with (go_at_call 79;fail)
    refine hmo.mono ?_
    rintro e w1 ⟨rfl,hw1⟩
    obtain rfl:=hw1
    clear hmo
    go_wp2
    go_returns
    have hrr:=hR.out
    rw[Hd.out.1] at hrr
    obtain⟨xs,hown,hrow⟩:=hO.out.row
    obtain⟨D,dd,rfl,_,hDP⟩:=zA5 hown
    have hfs:=rowF_fs hrow
    refine⟨⟨.mk 0 [] [] [] [] [] acc,F',rfl,⟨⟨_,?_,hB.out⟩⟩,hrr,hF.out,Hd.out.2⟩⟩
    refine⟨none,0,D,dd,xs,rfl,⟨by unfold maxLen;simp,by have:=hO.out.len;unfold maxLen;omega⟩,HasP.none _,hDP.move (fun _ _=>rfl) (fun k hk=>⟨by have:=Hn.out;omega,hk.2⟩),FsInP.move (fun _ _=>rfl) (fun k hk=>⟨by have:=Hn.out;omega,hk.2.1⟩) hfs⟩
   | true=>
    rw[hmb] at hmo
    obtain⟨rfl,hne⟩:φ'=false/\F'≠[]:=by
     cases φ' with
     | true=>cases hmb
     | false=>exact⟨rfl,fun e=>by subst e;cases hmb⟩
    have Hne:=hide hne
    obtain⟨Av,cv,rfl⟩:=hO.out.form
    clear hmb hne
    go_wp2_with (go_at_call 79;fail)
    refine hmo.mono ?_
    rintro e w1 ⟨rfl,hw1⟩
    obtain rfl:=hw1
    clear hmo
    go_wp2_with fail
    refine zAp (wayCC ⟨fb,6,none⟩ (.slice Av acc.length cv) ⟨db,0,none⟩ (.int .i64 ((d:Int)+1))) [10,12] (by kernel_rfl) ?_
    have HRwd:=hide (hR.out.fr (Fr.drew (fun _=>False) w1) id id (fun _ _ _=>id))
    have HFwd:=hide (hF.out.trans (Fr.drew _ w1))
    have HOwd:=hide (hO.out.fr (Fr.drew (fun _=>False) w1) (fun _ _=>id))
    have HBwd:=hide (hB.out.fr (Fr.drew (fun _=>False) w1) id)
    have HDwd:Hid (w1.drew.cell? ⟨db,0,none⟩=some (.int .i64 ((d:Int)+1))):=hide hD.out
    have HZwd:Hid (W.heap.size<=w1.drew.heap.size):=hide HFwd.out.size
    clear hR hF hO hB hD
    generalize w1.drew=wd at *
    refine zAe 0 (some 14) rfl rfl (by kernel_rfl) rfl (by rfl) (fun Wq=>by go_simp<;>with_reducible rfl) ?_
    try simp only[pU]
    refine zAm 1 (some 15) (v:=?v0q1) rfl rfl (by kernel_rfl) rfl (by kernel_rfl) (by rfl) (fun Wq hW=>?y0q1) ?_
    case y0q1=>
     have cW:Wq.cell? ⟨fb,6,none⟩=some (.slice Av acc.length cv):=hW.1 (HBwd.out.cells 6 _ rfl)
     go_simp<;>with_reducible rfl
    try simp only[pU]
    refine zAe 2 (some 16) rfl rfl (by kernel_rfl) rfl (by rfl) (fun Wq=>by go_simp<;>with_reducible rfl) ?_
    try simp only[pU]
    refine zAm 3 (some 17) (v:=?v0q3) rfl rfl (by kernel_rfl) rfl (by kernel_rfl) (by rfl) (fun Wq hW=>?y0q3) ?_
    case y0q3=>
     have dW:Wq.cell? ⟨db,0,none⟩=some (.int .i64 ((d:Int)+1)):=hW.2 HDwd.out
     go_simp<;>with_reducible rfl
    try simp only[pU]
    refine zAe 4 (some 18) (v:=?v0q4) rfl rfl (by kernel_rfl) rfl (by rfl) (fun Wq=>?y0q4) ?_
    case y0q4=>
     have hwr:IntKind.i64.wrap (d:Int)=(d:Int):=IntWalk.i64_in _ (by omega)
     go_simp<;>with_reducible rfl
    try simp only[pU]
    refine zAe 6 (some 20) rfl rfl (by kernel_rfl) rfl (by rfl) (fun Wq=>by go_simp<;>with_reducible rfl) ?_
    try simp only[pU]
    refine zBp [5,7] (by kernel_rfl) (by simp) ?_
    refine AllZ.cons rfl (fun K hK2=>?_) (AllZ.cons rfl (fun K hK2=>?_) AllZ.nil)
    ·go_simp
     refine (HP.out wd lo g b F' false HRwd.out).mono ?_
     rintro e w5 hpost
     obtain⟨t,v9,F6,rfl,hrep,hr6,hf6,hq6⟩:=hpost.out
     clear hpost
     obtain⟨ys,rfl,hE⟩:=hrep
     rw[Bool.false_or] at hr6
     have hE7:=FInP.len hE
     obtain⟨y0,y1,y2,y3,y4,y5,y6,rfl⟩:=seven hE7
     clear hE7
     have hs6:=hf6.size
     have HRw5:=hide hr6
     have HBw5:=hide (HBwd.out.fr hf6 (by rintro (q | q)<;>(have:=Hn.out;omega)))
     have HOw5:=hide (HOwd.out.fr hf6 (by rintro k hk (q | q)<;>(have:=Hn.out;omega)))
     have HDw5:=hide ((hf6.cell (p:=⟨db,0,none⟩) (by simp only;have:=Hn.out;have:=HZwd.out;omega) (by rintro (q | q)<;>(simp only at q;have:=Hn.out;omega))).trans HDwd.out)
     have HZw5:Hid (W.heap.size<=w5.heap.size):=hide (Nat.le_trans HZwd.out hs6)
     have HFw5:=hide (HFwd.out.trans (hf6.mono (Y:=own3 (fun k=>k=fb) g b) fun k _ q=>by rcases q with q | q;exact .inl q;exact .inr (.inl q)))
     have HQ:=hide hq6
     have HEw5:Hid (FInP w5 (fun k=>W.heap.size<=k/\k<w5.heap.size/\(Value.slice Av acc.length cv).ownBlock≠some k) t [y0,y1,y2,y3,y4,y5,y6]):=hide (by
     obtain⟨xs,hown,_⟩:=HOwd.out.row
     exact FInP.move (fun _ _=>rfl) (fun k hk=>⟨by have:=HZwd.out;omega,hk.2,zBu hown k hk.1⟩) hE)
     refine hK2.out _ _ (fun _=>⟨fun _=>HBw5.out.cells 6 _ rfl,fun _=>HDw5.out⟩) ?_
     clear hK2 K hr6 hf6 hq6 hE hs6 HRwd HBwd HOwd HDwd HFwd
     try simp only[pU]
     refine zAf 7 rfl (by kernel_rfl) (fun K hK2=>?_)
     go_simp
     have hfa:Fr (fun _=>False) w5 (w5.alloc (.cells #[.int .i64 0,.string ⟨#[]⟩,.string ⟨#[]⟩,.string ⟨#[]⟩,.string ⟨#[]⟩,.slice none 0 0,.slice none 0 0] 39)):=Fr.alloc _ _ _
     have hlit:=World.ownsRow_lit (e:=39) (size:=7) w5 #[.int .i64 0,.string ⟨#[]⟩,.string ⟨#[]⟩,.string ⟨#[]⟩,.string ⟨#[]⟩,.slice none 0 0,.slice none 0 0] 1 (Nat.le_refl _) (by unfold maxLen;omega) rfl
     obtain⟨w57,hwn⟩:∃w57,w5.alloc (.cells #[.int .i64 0,.string ⟨#[]⟩,.string ⟨#[]⟩,.string ⟨#[]⟩,.string ⟨#[]⟩,.slice none 0 0,.slice none 0 0] 39)=w57:=⟨_,rfl⟩
     rw[hwn] at hfa hlit ⊢
     have hsz:w57.heap.size=w5.heap.size+1:=by rw[<-hwn];simp
     have HRw57:=hide (HRw5.out.fr hfa id id (fun _ _ _=>id))
     have HBw57:=hide (HBw5.out.fr hfa id)
     have HOw57:=hide (HOw5.out.fr hfa (fun _ _=>id))
     have HDw57:=hide ((hfa.cell (p:=⟨db,0,none⟩) (by simp only;have:=Hn.out;have:=HZw5.out;omega) id).trans HDw5.out)
     have HZw57:Hid (W.heap.size<=w57.heap.size):=hide (Nat.le_trans HZw5.out hfa.size)
     have HFw57:=hide (HFw5.out.trans (Fr.mono hfa fun _ _ q=>q.elim))
     have HZl:=hide (And.intro hsz HZw5.out)
     have HZL:Hid (HasP w57 (fun k=>k=w5.heap.size) 7 (some ⟨w5.heap.size,0,none⟩) 1 [.int .i64 0,.string ⟨#[]⟩,.string ⟨#[]⟩,.string ⟨#[]⟩,.string ⟨#[]⟩,.slice none 0 0,.slice none 0 0]):=hide (by
     obtain⟨A0,c0,e0,_,hP0⟩:=zA5 hlit
     cases e0
     exact hP0.move (fun _ _=>rfl) (fun k hk=>by omega))
     have HEw57:Hid (FInP w57 (fun k=>W.heap.size<=k/\k<w57.heap.size/\(Value.slice Av acc.length cv).ownBlock≠some k) t [y0,y1,y2,y3,y4,y5,y6]):=hide (FInP.move (fun p hp=>hfa.cell hp.2.1 id) (fun k hk=>⟨hk.1,by omega,hk.2.2⟩) HEw5.out)
     clear HEw5
     refine hK2.out _ _ (fun _=>⟨fun _=>HBw57.out.cells 6 _ rfl,fun _=>HDw57.out⟩) ?_
     clear hK2 K hfa hlit hwn hsz HRw5 HBw5 HOw5 HDw5 HFw5
     try simp only[pU]
     refine zAf 8 rfl (by kernel_rfl) (fun K hK2=>?_)
     obtain⟨xs,hown,hrow⟩:=HOw57.out.row
     have hzl:=HZL.out.has (B:=w57.heap.size) (fun k hk=>by have:=HZl.out;omega)
     refine stepA _ 37 39 _ 7 120 Tryz.underlying37 infoF8 rfl (by omega) (by omega) (some 22) rfl rfl (.tmp 15) (.tmp 21) rfl W.heap.size _ acc.length xs rfl hown _ _ 1 1 [.int .i64 0,.string ⟨#[]⟩,.string ⟨#[]⟩,.string ⟨#[]⟩,.string ⟨#[]⟩,.slice none 0 0,.slice none 0 0] rfl hzl (by intro u hu;simp only[List.mem_cons,List.not_mem_nil,or_false] at hu;rcases hu with rfl | rfl | rfl | rfl | rfl | rfl | rfl<;>rfl) (by have:=hM.out.all;omega) HZw57.out ?_
     intro v8 w8 h8 hb8 hg8 ht8
     have hn8:acc.length+1<=20000:=by have:=hM.out.all;omega
     have hZ8:=OwnL.room hown hrow HEw57.out h8 rfl hg8 ht8 hn8
     have hro:∀k,(Value.slice Av acc.length cv).ownBlock=some k->W.heap.size<=k:=fun k hk=>(hown.lt k hk).1
     have hf8:Fr (fun k=>W.heap.size<=k) w57 w8:=Fr.grown hg8 fun k hk=>hro k hk
     have HR8:=hide (HRw57.out.fr hf8 (by have:=Hn.out;omega) (by have:=Hn.out;omega) (fun k h1 h2=>by have:=Hn.out;omega))
     have HB8:=hide (HBw57.out.fr hf8 (by have:=Hn.out;omega))
     have HD8:=hide ((hf8.cell (p:=⟨db,0,none⟩) (by simp only;have:=Hn.out;have:=HZw57.out;omega) (by simp only;have:=Hn.out;omega)).trans HDw57.out)
     have HF8:Hid (Fr (own3 (fun k=>k=fb) g b) W w8):=hide (HFw57.out.trans' hf8 fun k hk q=>by omega)
     have HZs8:Hid (W.heap.size<=w8.heap.size):=hide (Nat.le_trans HZw57.out hf8.size)
     have HZ8:=hide hZ8
     obtain⟨g8,c8_,rfl,hg8a,hg8b,hth⟩:=hZ8.form
     have Hg8:=hide (And.intro hg8a (And.intro hg8b hth))
     refine hK2.out _ _ (fun _=>⟨fun _=>HB8.out.cells 6 _ rfl,fun _=>HD8.out⟩) ?_
     clear hK2 K h8 hb8 hg8 ht8 hZ8 hro hf8 hown hrow hzl hn8 hg8a hg8b hth HRw57 HBw57 HOw57 HDw57 HFw57 HEw57 HZL
     try simp only[pU]
     refine zAe 9 (some 23) (v:=?v0qb19) rfl rfl (by kernel_rfl) rfl (by rfl) (fun Wq=>?y0qb19) ?_
     case y0qb19=>
      have hix:(acc.length:Int)<(acc.length:Int)+1:=by omega
      go_simp<;>with_reducible rfl
     try simp only[pU]
     refine zAe 11 (some 24) rfl rfl (by kernel_rfl) rfl (by rfl) (fun Wq=>by go_simp<;>with_reducible rfl) ?_
     try simp only[pU]
     refine zBp [10,12] (by kernel_rfl) (by simp) ?_
     refine AllZ.cons rfl (fun K hK2=>?_) (AllZ.cons rfl (fun K hK2=>?_) AllZ.nil)
     ·have h1c:∀u∈([y0,y1,y2,y3,y4,y5,y6]:List Value),u.oneCell'=true:=FInP.one HZ8.out.el
      refine zAz w8 none rfl rfl 39 (.tmp 23) (.tmp 19) rfl g8 (acc.length*7) #[y0,y1,y2,y3,y4,y5,y6] rfl rfl Hg8.out.2.2 (by kernel_rfl) (all_oneCell_toArray h1c) ?_
      have hOp:=(HZ8.out).put
      try simp only[List.toList_toArray]
      obtain⟨w10,hw10⟩:∃w10,w8.setCells g8 (acc.length*7) [y0,y1,y2,y3,y4,y5,y6]=w10:=⟨_,rfl⟩
      have hfp:Fr (fun k=>W.heap.size<=k) w8 w10:=by rw[<-hw10];exact Fr.setCells _ _ _ _ Hg8.out.1
      rw[hw10] at hOp ⊢
      have HOp:=hide hOp
      have Hfp:=hide hfp
      refine hK2.out _ _ (fun h=>absurd (by decide) h) ?_
      clear hK2 K h1c hOp hw10 hfp
      have HB10:=hide (HB8.out.fr Hfp.out (by have:=Hn.out;omega))
      try simp only[pU]
      refine zAf 12 rfl (by kernel_rfl) (fun K hK2=>?_)
      have k6:=HB10.out.cells 6 _ rfl
      have z6:=HB10.out.fz
      go_simp
      refine hK2.out _ _ (fun h=>absurd (by decide) h) ?_
      clear hK2 K k6 z6
      try simp only[pU]
      refine zAj (by kernel_rfl) ?_ _
      have hfs:Fr (fun k=>k=fb) w10 (w10.setCell ⟨fb,6,none⟩ (.slice (some ⟨g8,0,none⟩) (acc.length+1) c8_)):=Fr.setCell _ _ _ rfl
      have HBz:Hid (Blk _ fb _):=hide (HB10.out.set 6 (.slice (some ⟨g8,0,none⟩) (acc.length+1) c8_) (by simp))
      have HOz:=hide (HOp.out.fr hfs (fun k hk q=>by have:=Hn.out;omega))
      have hFa:Fr (fun k=>k=fb\/W.heap.size<=k) w8 (w10.setCell ⟨fb,6,none⟩ (.slice (some ⟨g8,0,none⟩) (acc.length+1) c8_)):=(Hfp.out.mono fun _ _ q=>.inr q).trans (hfs.mono fun _ _ q=>.inl q)
      have HRz:=hide (HR8.out.fr hFa (by rintro (q | q)<;>(have:=Hn.out;omega)) (by rintro (q | q)<;>(have:=Hn.out;omega)) (fun k h1 h2=>by rintro (q | q)<;>(have:=Hn.out;omega)))
      have HDz:=hide ((hFa.cell (p:=⟨db,0,none⟩) (by simp only;have:=Hn.out;have:=HZs8.out;omega) (by rintro (q | q)<;>(simp only at q;have:=Hn.out;omega))).trans HD8.out)
      have HFz:Hid (Fr (own3 (fun k=>k=fb) g b) W _):=hide (HF8.out.trans' hFa fun k hk q=>by rcases q with q | q;exact .inr (.inr q);omega)
      have Hst:=hide (hM.out.step (x:=t) (G:=F6) (zBf d) Hne.out (fun x0 F0 h0=>HQ.out rfl x0 F0 h0))
      clear hFa hfs
      go_wp2
      go_roundg (if (Rd.filterR d F').isNone then 0 else F6.length+1)
      case measure=>have h1:=Hst.out.2;have h2:=hK.out;simp only[Bool.false_eq_true,if_false] at h2;omega
      case rel=>exact⟨F6,(Rd.filterR d F').isNone,acc++[t],_,HRz,by simpa using HOz,by simpa using HBz,HFz,HDz,hide Hst.out.1,hide (Nat.le_refl _)⟩
     ·have k6:=HB8.out.cells 6 _ rfl
      have z6:=HB8.out.fz
      go_simp
      obtain⟨w12,hw12⟩:∃w12,w8.setCell ⟨fb,6,none⟩ (.slice (some ⟨g8,0,none⟩) (acc.length+1) c8_)=w12:=⟨_,rfl⟩
      have hfc:Fr (fun k=>k=fb) w8 w12:=by rw[<-hw12];exact Fr.setCell _ _ _ rfl
      have HB12:Hid (Blk w12 fb _):=hide (by rw[<-hw12];exact HB8.out.set 6 (.slice (some ⟨g8,0,none⟩) (acc.length+1) c8_) (by simp))
      rw[hw12]
      have HZ12:=hide (HZ8.out.fr hfc (fun k hk q=>by have:=Hn.out;omega))
      have Hg12:Hid (w12.there g8 (acc.length*7) 7):=hide (by
     obtain⟨g9,c9,e9,_,_,h9⟩:=HZ12.out.form
     cases e9
     exact h9)
      have Hfc:=hide hfc
      clear hw12 hfc
      refine hK2.out _ _ (fun h=>absurd (by decide) h) ?_
      clear hK2 K k6 z6
      try simp only[pU]
      refine zAf 10 rfl (by kernel_rfl) (fun K hK2=>?_)
      have h1c:∀u∈([y0,y1,y2,y3,y4,y5,y6]:List Value),u.oneCell'=true:=FInP.one HZ12.out.el
      refine zAz w12 none rfl rfl 39 (.tmp 23) (.tmp 19) rfl g8 (acc.length*7) #[y0,y1,y2,y3,y4,y5,y6] rfl rfl Hg12.out (by kernel_rfl) (all_oneCell_toArray h1c) ?_
      have hOp:=(HZ12.out).put
      try simp only[List.toList_toArray]
      obtain⟨w10,hw10⟩:∃w10,w12.setCells g8 (acc.length*7) [y0,y1,y2,y3,y4,y5,y6]=w10:=⟨_,rfl⟩
      have hfp:Fr (fun k=>W.heap.size<=k) w12 w10:=by rw[<-hw10];exact Fr.setCells _ _ _ _ Hg8.out.1
      rw[hw10] at hOp ⊢
      have HOp:=hide hOp
      have Hfp:=hide hfp
      refine hK2.out _ _ (fun h=>absurd (by decide) h) ?_
      clear hK2 K h1c hOp hw10 hfp
      try simp only[pU]
      refine zAj (by kernel_rfl) ?_ _
      have HBz:Hid (Blk w10 fb _):=hide (HB12.out.fr Hfp.out (by have:=Hn.out;omega))
      have HOz:=HOp
      have hFa:Fr (fun k=>k=fb\/W.heap.size<=k) w8 w10:=(Hfc.out.mono fun _ _ q=>.inl q).trans (Hfp.out.mono fun _ _ q=>.inr q)
      have HRz:=hide (HR8.out.fr hFa (by rintro (q | q)<;>(have:=Hn.out;omega)) (by rintro (q | q)<;>(have:=Hn.out;omega)) (fun k h1 h2=>by rintro (q | q)<;>(have:=Hn.out;omega)))
      have HDz:=hide ((hFa.cell (p:=⟨db,0,none⟩) (by simp only;have:=Hn.out;have:=HZs8.out;omega) (by rintro (q | q)<;>(simp only at q;have:=Hn.out;omega))).trans HD8.out)
      have HFz:Hid (Fr (own3 (fun k=>k=fb) g b) W _):=hide (HF8.out.trans' hFa fun k hk q=>by rcases q with q | q;exact .inr (.inr q);omega)
      have Hst:=hide (hM.out.step (x:=t) (G:=F6) (zBf d) Hne.out (fun x0 F0 h0=>HQ.out rfl x0 F0 h0))
      clear hFa
      go_wp2
      go_roundg (if (Rd.filterR d F').isNone then 0 else F6.length+1)
      case measure=>have h1:=Hst.out.2;have h2:=hK.out;simp only[Bool.false_eq_true,if_false] at h2;omega
      case rel=>exact⟨F6,(Rd.filterR d F').isNone,acc++[t],_,HRz,by simpa using HOz,by simpa using HBz,HFz,HDz,hide Hst.out.1,hide (Nat.le_refl _)⟩
    ·go_simp
     have hfa:Fr (fun _=>False) wd (wd.alloc (.cells #[.int .i64 0,.string ⟨#[]⟩,.string ⟨#[]⟩,.string ⟨#[]⟩,.string ⟨#[]⟩,.slice none 0 0,.slice none 0 0] 39)):=Fr.alloc _ _ _
     have hlit:=World.ownsRow_lit (e:=39) (size:=7) wd #[.int .i64 0,.string ⟨#[]⟩,.string ⟨#[]⟩,.string ⟨#[]⟩,.string ⟨#[]⟩,.slice none 0 0,.slice none 0 0] 1 (Nat.le_refl _) (by unfold maxLen;omega) rfl
     obtain⟨w7,hwn⟩:∃w7,wd.alloc (.cells #[.int .i64 0,.string ⟨#[]⟩,.string ⟨#[]⟩,.string ⟨#[]⟩,.string ⟨#[]⟩,.slice none 0 0,.slice none 0 0] 39)=w7:=⟨_,rfl⟩
     rw[hwn] at hfa hlit ⊢
     have hsz:w7.heap.size=wd.heap.size+1:=by rw[<-hwn];simp
     have HRw7:=hide (HRwd.out.fr hfa id id (fun _ _ _=>id))
     have HBw7:=hide (HBwd.out.fr hfa id)
     have HOw7:=hide (HOwd.out.fr hfa (fun _ _=>id))
     have HDw7:=hide ((hfa.cell (p:=⟨db,0,none⟩) (by simp only;have:=Hn.out;have:=HZwd.out;omega) id).trans HDwd.out)
     have HZw7:Hid (W.heap.size<=w7.heap.size):=hide (Nat.le_trans HZwd.out hfa.size)
     have HFw7:=hide (HFwd.out.trans (Fr.mono hfa fun _ _ q=>q.elim))
     have HZl:=hide (And.intro hsz HZwd.out)
     have HZL:Hid (HasP w7 (fun k=>k=wd.heap.size) 7 (some ⟨wd.heap.size,0,none⟩) 1 [.int .i64 0,.string ⟨#[]⟩,.string ⟨#[]⟩,.string ⟨#[]⟩,.string ⟨#[]⟩,.slice none 0 0,.slice none 0 0]):=hide (by
     obtain⟨A0,c0,e0,_,hP0⟩:=zA5 hlit
     cases e0
     exact hP0.move (fun _ _=>rfl) (fun k hk=>by omega))
     refine hK2.out _ _ (fun _=>⟨fun _=>HBw7.out.cells 6 _ rfl,fun _=>HDw7.out⟩) ?_
     clear hK2 K hfa hlit hwn hsz HRwd HBwd HOwd HDwd HFwd
     try simp only[pU]
     refine zAf 5 rfl (by kernel_rfl) (fun K hK2=>?_)
     go_simp
     refine (HP.out w7 lo g b F' false HRw7.out).mono ?_
     rintro e w75 hpost
     obtain⟨t,v9,F6,rfl,hrep,hr6,hf6,hq6⟩:=hpost.out
     clear hpost
     obtain⟨ys,rfl,hE⟩:=hrep
     rw[Bool.false_or] at hr6
     have hE7:=FInP.len hE
     obtain⟨y0,y1,y2,y3,y4,y5,y6,rfl⟩:=seven hE7
     clear hE7
     have hs6:=hf6.size
     have HRw75:=hide hr6
     have HBw75:=hide (HBw7.out.fr hf6 (by rintro (q | q)<;>(have:=Hn.out;omega)))
     have HOw75:=hide (HOw7.out.fr hf6 (by rintro k hk (q | q)<;>(have:=Hn.out;omega)))
     have HDw75:=hide ((hf6.cell (p:=⟨db,0,none⟩) (by simp only;have:=Hn.out;have:=HZw7.out;omega) (by rintro (q | q)<;>(simp only at q;have:=Hn.out;omega))).trans HDw7.out)
     have HZw75:Hid (W.heap.size<=w75.heap.size):=hide (Nat.le_trans HZw7.out hs6)
     have HFw75:=hide (HFw7.out.trans (hf6.mono (Y:=own3 (fun k=>k=fb) g b) fun k _ q=>by rcases q with q | q;exact .inl q;exact .inr (.inl q)))
     have HQ:=hide hq6
     have HEw75:Hid (FInP w75 (fun k=>W.heap.size<=k/\k<w75.heap.size/\(Value.slice Av acc.length cv).ownBlock≠some k) t [y0,y1,y2,y3,y4,y5,y6]):=hide (by
     obtain⟨xs,hown,_⟩:=HOw7.out.row
     exact FInP.move (fun _ _=>rfl) (fun k hk=>⟨by have:=HZw7.out;omega,hk.2,zBu hown k hk.1⟩) hE)
     have HZs:=hide hs6
     have HZLw75:=hide ((HZL.out.fr hf6 (fun k hk=>⟨by have:=HZl.out;omega,by rintro (q | q)<;>(have:=Hn.out;have:=HZl.out;omega),hk⟩):HasP w75 (fun k=>k=wd.heap.size) 7 (some ⟨wd.heap.size,0,none⟩) 1 [.int .i64 0,.string ⟨#[]⟩,.string ⟨#[]⟩,.string ⟨#[]⟩,.string ⟨#[]⟩,.slice none 0 0,.slice none 0 0]))
     clear HZL
     have HZL:=HZLw75
     clear HZLw75
     refine hK2.out _ _ (fun _=>⟨fun _=>HBw75.out.cells 6 _ rfl,fun _=>HDw75.out⟩) ?_
     clear hK2 K hr6 hf6 hq6 hE hs6 HRw7 HBw7 HOw7 HDw7 HFw7
     try simp only[pU]
     refine zAf 8 rfl (by kernel_rfl) (fun K hK2=>?_)
     obtain⟨xs,hown,hrow⟩:=HOw75.out.row
     have hzl:=HZL.out.has (B:=w75.heap.size) (fun k hk=>by have:=HZl.out;have:=HZs.out;omega)
     refine stepA _ 37 39 _ 7 120 Tryz.underlying37 infoF8 rfl (by omega) (by omega) (some 22) rfl rfl (.tmp 15) (.tmp 21) rfl W.heap.size _ acc.length xs rfl hown _ _ 1 1 [.int .i64 0,.string ⟨#[]⟩,.string ⟨#[]⟩,.string ⟨#[]⟩,.string ⟨#[]⟩,.slice none 0 0,.slice none 0 0] rfl hzl (by intro u hu;simp only[List.mem_cons,List.not_mem_nil,or_false] at hu;rcases hu with rfl | rfl | rfl | rfl | rfl | rfl | rfl<;>rfl) (by have:=hM.out.all;omega) HZw75.out ?_
     intro v8 w8 h8 hb8 hg8 ht8
     have hn8:acc.length+1<=20000:=by have:=hM.out.all;omega
     have hZ8:=OwnL.room hown hrow HEw75.out h8 rfl hg8 ht8 hn8
     have hro:∀k,(Value.slice Av acc.length cv).ownBlock=some k->W.heap.size<=k:=fun k hk=>(hown.lt k hk).1
     have hf8:Fr (fun k=>W.heap.size<=k) w75 w8:=Fr.grown hg8 fun k hk=>hro k hk
     have HR8:=hide (HRw75.out.fr hf8 (by have:=Hn.out;omega) (by have:=Hn.out;omega) (fun k h1 h2=>by have:=Hn.out;omega))
     have HB8:=hide (HBw75.out.fr hf8 (by have:=Hn.out;omega))
     have HD8:=hide ((hf8.cell (p:=⟨db,0,none⟩) (by simp only;have:=Hn.out;have:=HZw75.out;omega) (by simp only;have:=Hn.out;omega)).trans HDw75.out)
     have HF8:Hid (Fr (own3 (fun k=>k=fb) g b) W w8):=hide (HFw75.out.trans' hf8 fun k hk q=>by omega)
     have HZs8:Hid (W.heap.size<=w8.heap.size):=hide (Nat.le_trans HZw75.out hf8.size)
     have HZ8:=hide hZ8
     obtain⟨g8,c8_,rfl,hg8a,hg8b,hth⟩:=hZ8.form
     have Hg8:=hide (And.intro hg8a (And.intro hg8b hth))
     refine hK2.out _ _ (fun _=>⟨fun _=>HB8.out.cells 6 _ rfl,fun _=>HD8.out⟩) ?_
     clear hK2 K h8 hb8 hg8 ht8 hZ8 hro hf8 hown hrow hzl hn8 hg8a hg8b hth HRw75 HBw75 HOw75 HDw75 HFw75 HEw75 HZL
     try simp only[pU]
     refine zAe 9 (some 23) (v:=?v0qe49) rfl rfl (by kernel_rfl) rfl (by rfl) (fun Wq=>?y0qe49) ?_
     case y0qe49=>
      have hix:(acc.length:Int)<(acc.length:Int)+1:=by omega
      go_simp<;>with_reducible rfl
     try simp only[pU]
     refine zAe 11 (some 24) rfl rfl (by kernel_rfl) rfl (by rfl) (fun Wq=>by go_simp<;>with_reducible rfl) ?_
     try simp only[pU]
     refine zBp [10,12] (by kernel_rfl) (by simp) ?_
     refine AllZ.cons rfl (fun K hK2=>?_) (AllZ.cons rfl (fun K hK2=>?_) AllZ.nil)
     ·have h1c:∀u∈([y0,y1,y2,y3,y4,y5,y6]:List Value),u.oneCell'=true:=FInP.one HZ8.out.el
      refine zAz w8 none rfl rfl 39 (.tmp 23) (.tmp 19) rfl g8 (acc.length*7) #[y0,y1,y2,y3,y4,y5,y6] rfl rfl Hg8.out.2.2 (by kernel_rfl) (all_oneCell_toArray h1c) ?_
      have hOp:=(HZ8.out).put
      try simp only[List.toList_toArray]
      obtain⟨w10,hw10⟩:∃w10,w8.setCells g8 (acc.length*7) [y0,y1,y2,y3,y4,y5,y6]=w10:=⟨_,rfl⟩
      have hfp:Fr (fun k=>W.heap.size<=k) w8 w10:=by rw[<-hw10];exact Fr.setCells _ _ _ _ Hg8.out.1
      rw[hw10] at hOp ⊢
      have HOp:=hide hOp
      have Hfp:=hide hfp
      refine hK2.out _ _ (fun h=>absurd (by decide) h) ?_
      clear hK2 K h1c hOp hw10 hfp
      have HB10:=hide (HB8.out.fr Hfp.out (by have:=Hn.out;omega))
      try simp only[pU]
      refine zAf 12 rfl (by kernel_rfl) (fun K hK2=>?_)
      have k6:=HB10.out.cells 6 _ rfl
      have z6:=HB10.out.fz
      go_simp
      refine hK2.out _ _ (fun h=>absurd (by decide) h) ?_
      clear hK2 K k6 z6
      try simp only[pU]
      refine zAj (by kernel_rfl) ?_ _
      have hfs:Fr (fun k=>k=fb) w10 (w10.setCell ⟨fb,6,none⟩ (.slice (some ⟨g8,0,none⟩) (acc.length+1) c8_)):=Fr.setCell _ _ _ rfl
      have HBz:Hid (Blk _ fb _):=hide (HB10.out.set 6 (.slice (some ⟨g8,0,none⟩) (acc.length+1) c8_) (by simp))
      have HOz:=hide (HOp.out.fr hfs (fun k hk q=>by have:=Hn.out;omega))
      have hFa:Fr (fun k=>k=fb\/W.heap.size<=k) w8 (w10.setCell ⟨fb,6,none⟩ (.slice (some ⟨g8,0,none⟩) (acc.length+1) c8_)):=(Hfp.out.mono fun _ _ q=>.inr q).trans (hfs.mono fun _ _ q=>.inl q)
      have HRz:=hide (HR8.out.fr hFa (by rintro (q | q)<;>(have:=Hn.out;omega)) (by rintro (q | q)<;>(have:=Hn.out;omega)) (fun k h1 h2=>by rintro (q | q)<;>(have:=Hn.out;omega)))
      have HDz:=hide ((hFa.cell (p:=⟨db,0,none⟩) (by simp only;have:=Hn.out;have:=HZs8.out;omega) (by rintro (q | q)<;>(simp only at q;have:=Hn.out;omega))).trans HD8.out)
      have HFz:Hid (Fr (own3 (fun k=>k=fb) g b) W _):=hide (HF8.out.trans' hFa fun k hk q=>by rcases q with q | q;exact .inr (.inr q);omega)
      have Hst:=hide (hM.out.step (x:=t) (G:=F6) (zBf d) Hne.out (fun x0 F0 h0=>HQ.out rfl x0 F0 h0))
      clear hFa hfs
      go_wp2
      go_roundg (if (Rd.filterR d F').isNone then 0 else F6.length+1)
      case measure=>have h1:=Hst.out.2;have h2:=hK.out;simp only[Bool.false_eq_true,if_false] at h2;omega
      case rel=>exact⟨F6,(Rd.filterR d F').isNone,acc++[t],_,HRz,by simpa using HOz,by simpa using HBz,HFz,HDz,hide Hst.out.1,hide (Nat.le_refl _)⟩
     ·have k6:=HB8.out.cells 6 _ rfl
      have z6:=HB8.out.fz
      go_simp
      obtain⟨w12,hw12⟩:∃w12,w8.setCell ⟨fb,6,none⟩ (.slice (some ⟨g8,0,none⟩) (acc.length+1) c8_)=w12:=⟨_,rfl⟩
      have hfc:Fr (fun k=>k=fb) w8 w12:=by rw[<-hw12];exact Fr.setCell _ _ _ rfl
      have HB12:Hid (Blk w12 fb _):=hide (by rw[<-hw12];exact HB8.out.set 6 (.slice (some ⟨g8,0,none⟩) (acc.length+1) c8_) (by simp))
      rw[hw12]
      have HZ12:=hide (HZ8.out.fr hfc (fun k hk q=>by have:=Hn.out;omega))
      have Hg12:Hid (w12.there g8 (acc.length*7) 7):=hide (by
     obtain⟨g9,c9,e9,_,_,h9⟩:=HZ12.out.form
     cases e9
     exact h9)
      have Hfc:=hide hfc
      clear hw12 hfc
      refine hK2.out _ _ (fun h=>absurd (by decide) h) ?_
      clear hK2 K k6 z6
      try simp only[pU]
      refine zAf 10 rfl (by kernel_rfl) (fun K hK2=>?_)
      have h1c:∀u∈([y0,y1,y2,y3,y4,y5,y6]:List Value),u.oneCell'=true:=FInP.one HZ12.out.el
      refine zAz w12 none rfl rfl 39 (.tmp 23) (.tmp 19) rfl g8 (acc.length*7) #[y0,y1,y2,y3,y4,y5,y6] rfl rfl Hg12.out (by kernel_rfl) (all_oneCell_toArray h1c) ?_
      have hOp:=(HZ12.out).put
      try simp only[List.toList_toArray]
      obtain⟨w10,hw10⟩:∃w10,w12.setCells g8 (acc.length*7) [y0,y1,y2,y3,y4,y5,y6]=w10:=⟨_,rfl⟩
      have hfp:Fr (fun k=>W.heap.size<=k) w12 w10:=by rw[<-hw10];exact Fr.setCells _ _ _ _ Hg8.out.1
      rw[hw10] at hOp ⊢
      have HOp:=hide hOp
      have Hfp:=hide hfp
      refine hK2.out _ _ (fun h=>absurd (by decide) h) ?_
      clear hK2 K h1c hOp hw10 hfp
      try simp only[pU]
      refine zAj (by kernel_rfl) ?_ _
      have HBz:Hid (Blk w10 fb _):=hide (HB12.out.fr Hfp.out (by have:=Hn.out;omega))
      have HOz:=HOp
      have hFa:Fr (fun k=>k=fb\/W.heap.size<=k) w8 w10:=(Hfc.out.mono fun _ _ q=>.inl q).trans (Hfp.out.mono fun _ _ q=>.inr q)
      have HRz:=hide (HR8.out.fr hFa (by rintro (q | q)<;>(have:=Hn.out;omega)) (by rintro (q | q)<;>(have:=Hn.out;omega)) (fun k h1 h2=>by rintro (q | q)<;>(have:=Hn.out;omega)))
      have HDz:=hide ((hFa.cell (p:=⟨db,0,none⟩) (by simp only;have:=Hn.out;have:=HZs8.out;omega) (by rintro (q | q)<;>(simp only at q;have:=Hn.out;omega))).trans HD8.out)
      have HFz:Hid (Fr (own3 (fun k=>k=fb) g b) W _):=hide (HF8.out.trans' hFa fun k hk q=>by rcases q with q | q;exact .inr (.inr q);omega)
      have Hst:=hide (hM.out.step (x:=t) (G:=F6) (zBf d) Hne.out (fun x0 F0 h0=>HQ.out rfl x0 F0 h0))
      clear hFa
      go_wp2
      go_roundg (if (Rd.filterR d F').isNone then 0 else F6.length+1)
      case measure=>have h1:=Hst.out.2;have h2:=hK.out;simp only[Bool.false_eq_true,if_false] at h2;omega
      case rel=>exact⟨F6,(Rd.filterR d F').isNone,acc++[t],_,HRz,by simpa using HOz,by simpa using HBz,HFz,HDz,hide Hst.out.1,hide (Nat.le_refl _)⟩
 ·go_enter Tryz.func182,Tryz.ntmps182
  go_wp2
  go_loopg [] (if φ then 0 else F.length+1) (fun kn wx=>∃(F':List Fd) (φ':Bool) (acc:List FT) (vp:Value),Hid (RdS wx lo g b F' φ')/\Hid (OwnL elF 39 W.heap.size acc vp wx)/\Hid (Blk wx fb [.int .i64 1,.string ⟨#[]⟩,.string ⟨#[]⟩,.string ⟨#[]⟩,.string ⟨#[]⟩,.slice none 0 0,vp])/\Hid (Fr (own3 (fun k=>k=fb) g b) W wx)/\Hid (wx.cell? ⟨db,0,none⟩=some (.int .i64 ((d:Int)+1)))/\Hid (Many (Rd.filterR d) F φ F' φ' acc)/\Hid ((if φ' then 0 else F'.length+1)<=kn))
  case atStart=>exact⟨F,φ,[],_,HR0,HO,HB0,HF0,HD0,HM,hide (Nat.le_refl _)⟩
  case round=>
   obtain⟨F',φ',acc,vp,hR,hO,hB,hF,hD,hM,hK⟩:=hrel
   clear HR0 HO HB0 HF0 HD0 HM
   have hmo:=zA6 wr lo g b F' φ' hR.out
   cases hmb:moreB F' φ' with
   | false=>
    rw[hmb] at hmo
    have hdd:=body_parts (k:=1) (by omega) (hM.out.done hmb)
    have Hd:=hide hdd
    clear hmb hdd
    go_wp2_with (go_at_call 79;fail)
    refine hmo.mono ?_
    rintro e w1 ⟨rfl,hw1⟩
    obtain rfl:=hw1
    clear hmo
    go_wp2
    go_returns
    have hrr:=hR.out
    rw[Hd.out.1] at hrr
    obtain⟨xs,hown,hrow⟩:=hO.out.row
    obtain⟨D,dd,rfl,_,hDP⟩:=zA5 hown
    have hfs:=rowF_fs hrow
    refine⟨⟨.mk 1 [] [] [] [] [] acc,F',rfl,⟨⟨_,?_,hB.out⟩⟩,hrr,hF.out,Hd.out.2⟩⟩
    refine⟨none,0,D,dd,xs,rfl,⟨by unfold maxLen;simp,by have:=hO.out.len;unfold maxLen;omega⟩,HasP.none _,hDP.move (fun _ _=>rfl) (fun k hk=>⟨by have:=Hn.out;omega,hk.2⟩),FsInP.move (fun _ _=>rfl) (fun k hk=>⟨by have:=Hn.out;omega,hk.2.1⟩) hfs⟩
   | true=>
    rw[hmb] at hmo
    obtain⟨rfl,hne⟩:φ'=false/\F'≠[]:=by
     cases φ' with
     | true=>cases hmb
     | false=>exact⟨rfl,fun e=>by subst e;cases hmb⟩
    have Hne:=hide hne
    obtain⟨Av,cv,rfl⟩:=hO.out.form
    clear hmb hne
    go_wp2_with (go_at_call 79;fail)
    refine hmo.mono ?_
    rintro e w1 ⟨rfl,hw1⟩
    obtain rfl:=hw1
    clear hmo
    go_wp2_with fail
    refine zAp (wayCC ⟨fb,6,none⟩ (.slice Av acc.length cv) ⟨db,0,none⟩ (.int .i64 ((d:Int)+1))) [10,12] (by kernel_rfl) ?_
    have HRwd:=hide (hR.out.fr (Fr.drew (fun _=>False) w1) id id (fun _ _ _=>id))
    have HFwd:=hide (hF.out.trans (Fr.drew _ w1))
    have HOwd:=hide (hO.out.fr (Fr.drew (fun _=>False) w1) (fun _ _=>id))
    have HBwd:=hide (hB.out.fr (Fr.drew (fun _=>False) w1) id)
    have HDwd:Hid (w1.drew.cell? ⟨db,0,none⟩=some (.int .i64 ((d:Int)+1))):=hide hD.out
    have HZwd:Hid (W.heap.size<=w1.drew.heap.size):=hide HFwd.out.size
    clear hR hF hO hB hD
    generalize w1.drew=wd at *
    refine zAe 0 (some 14) rfl rfl (by kernel_rfl) rfl (by rfl) (fun Wq=>by go_simp<;>with_reducible rfl) ?_
    try simp only[pU]
    refine zAm 1 (some 15) (v:=?v1q1) rfl rfl (by kernel_rfl) rfl (by kernel_rfl) (by rfl) (fun Wq hW=>?y1q1) ?_
    case y1q1=>
     have cW:Wq.cell? ⟨fb,6,none⟩=some (.slice Av acc.length cv):=hW.1 (HBwd.out.cells 6 _ rfl)
     go_simp<;>with_reducible rfl
    try simp only[pU]
    refine zAe 2 (some 16) rfl rfl (by kernel_rfl) rfl (by rfl) (fun Wq=>by go_simp<;>with_reducible rfl) ?_
    try simp only[pU]
    refine zAm 3 (some 17) (v:=?v1q3) rfl rfl (by kernel_rfl) rfl (by kernel_rfl) (by rfl) (fun Wq hW=>?y1q3) ?_
    case y1q3=>
     have dW:Wq.cell? ⟨db,0,none⟩=some (.int .i64 ((d:Int)+1)):=hW.2 HDwd.out
     go_simp<;>with_reducible rfl
    try simp only[pU]
    refine zAe 4 (some 18) (v:=?v1q4) rfl rfl (by kernel_rfl) rfl (by rfl) (fun Wq=>?y1q4) ?_
    case y1q4=>
     have hwr:IntKind.i64.wrap (d:Int)=(d:Int):=IntWalk.i64_in _ (by omega)
     go_simp<;>with_reducible rfl
    try simp only[pU]
    refine zAe 6 (some 20) rfl rfl (by kernel_rfl) rfl (by rfl) (fun Wq=>by go_simp<;>with_reducible rfl) ?_
    try simp only[pU]
    refine zBp [5,7] (by kernel_rfl) (by simp) ?_
    refine AllZ.cons rfl (fun K hK2=>?_) (AllZ.cons rfl (fun K hK2=>?_) AllZ.nil)
    ·go_simp
     refine (HP.out wd lo g b F' false HRwd.out).mono ?_
     rintro e w5 hpost
     obtain⟨t,v9,F6,rfl,hrep,hr6,hf6,hq6⟩:=hpost.out
     clear hpost
     obtain⟨ys,rfl,hE⟩:=hrep
     rw[Bool.false_or] at hr6
     have hE7:=FInP.len hE
     obtain⟨y0,y1,y2,y3,y4,y5,y6,rfl⟩:=seven hE7
     clear hE7
     have hs6:=hf6.size
     have HRw5:=hide hr6
     have HBw5:=hide (HBwd.out.fr hf6 (by rintro (q | q)<;>(have:=Hn.out;omega)))
     have HOw5:=hide (HOwd.out.fr hf6 (by rintro k hk (q | q)<;>(have:=Hn.out;omega)))
     have HDw5:=hide ((hf6.cell (p:=⟨db,0,none⟩) (by simp only;have:=Hn.out;have:=HZwd.out;omega) (by rintro (q | q)<;>(simp only at q;have:=Hn.out;omega))).trans HDwd.out)
     have HZw5:Hid (W.heap.size<=w5.heap.size):=hide (Nat.le_trans HZwd.out hs6)
     have HFw5:=hide (HFwd.out.trans (hf6.mono (Y:=own3 (fun k=>k=fb) g b) fun k _ q=>by rcases q with q | q;exact .inl q;exact .inr (.inl q)))
     have HQ:=hide hq6
     have HEw5:Hid (FInP w5 (fun k=>W.heap.size<=k/\k<w5.heap.size/\(Value.slice Av acc.length cv).ownBlock≠some k) t [y0,y1,y2,y3,y4,y5,y6]):=hide (by
     obtain⟨xs,hown,_⟩:=HOwd.out.row
     exact FInP.move (fun _ _=>rfl) (fun k hk=>⟨by have:=HZwd.out;omega,hk.2,zBu hown k hk.1⟩) hE)
     refine hK2.out _ _ (fun _=>⟨fun _=>HBw5.out.cells 6 _ rfl,fun _=>HDw5.out⟩) ?_
     clear hK2 K hr6 hf6 hq6 hE hs6 HRwd HBwd HOwd HDwd HFwd
     try simp only[pU]
     refine zAf 7 rfl (by kernel_rfl) (fun K hK2=>?_)
     go_simp
     have hfa:Fr (fun _=>False) w5 (w5.alloc (.cells #[.int .i64 0,.string ⟨#[]⟩,.string ⟨#[]⟩,.string ⟨#[]⟩,.string ⟨#[]⟩,.slice none 0 0,.slice none 0 0] 39)):=Fr.alloc _ _ _
     have hlit:=World.ownsRow_lit (e:=39) (size:=7) w5 #[.int .i64 0,.string ⟨#[]⟩,.string ⟨#[]⟩,.string ⟨#[]⟩,.string ⟨#[]⟩,.slice none 0 0,.slice none 0 0] 1 (Nat.le_refl _) (by unfold maxLen;omega) rfl
     obtain⟨w57,hwn⟩:∃w57,w5.alloc (.cells #[.int .i64 0,.string ⟨#[]⟩,.string ⟨#[]⟩,.string ⟨#[]⟩,.string ⟨#[]⟩,.slice none 0 0,.slice none 0 0] 39)=w57:=⟨_,rfl⟩
     rw[hwn] at hfa hlit ⊢
     have hsz:w57.heap.size=w5.heap.size+1:=by rw[<-hwn];simp
     have HRw57:=hide (HRw5.out.fr hfa id id (fun _ _ _=>id))
     have HBw57:=hide (HBw5.out.fr hfa id)
     have HOw57:=hide (HOw5.out.fr hfa (fun _ _=>id))
     have HDw57:=hide ((hfa.cell (p:=⟨db,0,none⟩) (by simp only;have:=Hn.out;have:=HZw5.out;omega) id).trans HDw5.out)
     have HZw57:Hid (W.heap.size<=w57.heap.size):=hide (Nat.le_trans HZw5.out hfa.size)
     have HFw57:=hide (HFw5.out.trans (Fr.mono hfa fun _ _ q=>q.elim))
     have HZl:=hide (And.intro hsz HZw5.out)
     have HZL:Hid (HasP w57 (fun k=>k=w5.heap.size) 7 (some ⟨w5.heap.size,0,none⟩) 1 [.int .i64 0,.string ⟨#[]⟩,.string ⟨#[]⟩,.string ⟨#[]⟩,.string ⟨#[]⟩,.slice none 0 0,.slice none 0 0]):=hide (by
     obtain⟨A0,c0,e0,_,hP0⟩:=zA5 hlit
     cases e0
     exact hP0.move (fun _ _=>rfl) (fun k hk=>by omega))
     have HEw57:Hid (FInP w57 (fun k=>W.heap.size<=k/\k<w57.heap.size/\(Value.slice Av acc.length cv).ownBlock≠some k) t [y0,y1,y2,y3,y4,y5,y6]):=hide (FInP.move (fun p hp=>hfa.cell hp.2.1 id) (fun k hk=>⟨hk.1,by omega,hk.2.2⟩) HEw5.out)
     clear HEw5
     refine hK2.out _ _ (fun _=>⟨fun _=>HBw57.out.cells 6 _ rfl,fun _=>HDw57.out⟩) ?_
     clear hK2 K hfa hlit hwn hsz HRw5 HBw5 HOw5 HDw5 HFw5
     try simp only[pU]
     refine zAf 8 rfl (by kernel_rfl) (fun K hK2=>?_)
     obtain⟨xs,hown,hrow⟩:=HOw57.out.row
     have hzl:=HZL.out.has (B:=w57.heap.size) (fun k hk=>by have:=HZl.out;omega)
     refine stepA _ 37 39 _ 7 120 Tryz.underlying37 infoF8 rfl (by omega) (by omega) (some 22) rfl rfl (.tmp 15) (.tmp 21) rfl W.heap.size _ acc.length xs rfl hown _ _ 1 1 [.int .i64 0,.string ⟨#[]⟩,.string ⟨#[]⟩,.string ⟨#[]⟩,.string ⟨#[]⟩,.slice none 0 0,.slice none 0 0] rfl hzl (by intro u hu;simp only[List.mem_cons,List.not_mem_nil,or_false] at hu;rcases hu with rfl | rfl | rfl | rfl | rfl | rfl | rfl<;>rfl) (by have:=hM.out.all;omega) HZw57.out ?_
     intro v8 w8 h8 hb8 hg8 ht8
     have hn8:acc.length+1<=20000:=by have:=hM.out.all;omega
     have hZ8:=OwnL.room hown hrow HEw57.out h8 rfl hg8 ht8 hn8
     have hro:∀k,(Value.slice Av acc.length cv).ownBlock=some k->W.heap.size<=k:=fun k hk=>(hown.lt k hk).1
     have hf8:Fr (fun k=>W.heap.size<=k) w57 w8:=Fr.grown hg8 fun k hk=>hro k hk
     have HR8:=hide (HRw57.out.fr hf8 (by have:=Hn.out;omega) (by have:=Hn.out;omega) (fun k h1 h2=>by have:=Hn.out;omega))
     have HB8:=hide (HBw57.out.fr hf8 (by have:=Hn.out;omega))
     have HD8:=hide ((hf8.cell (p:=⟨db,0,none⟩) (by simp only;have:=Hn.out;have:=HZw57.out;omega) (by simp only;have:=Hn.out;omega)).trans HDw57.out)
     have HF8:Hid (Fr (own3 (fun k=>k=fb) g b) W w8):=hide (HFw57.out.trans' hf8 fun k hk q=>by omega)
     have HZs8:Hid (W.heap.size<=w8.heap.size):=hide (Nat.le_trans HZw57.out hf8.size)
     have HZ8:=hide hZ8
     obtain⟨g8,c8_,rfl,hg8a,hg8b,hth⟩:=hZ8.form
     have Hg8:=hide (And.intro hg8a (And.intro hg8b hth))
     refine hK2.out _ _ (fun _=>⟨fun _=>HB8.out.cells 6 _ rfl,fun _=>HD8.out⟩) ?_
     clear hK2 K h8 hb8 hg8 ht8 hZ8 hro hf8 hown hrow hzl hn8 hg8a hg8b hth HRw57 HBw57 HOw57 HDw57 HFw57 HEw57 HZL
     try simp only[pU]
     refine zAe 9 (some 23) (v:=?v1qb19) rfl rfl (by kernel_rfl) rfl (by rfl) (fun Wq=>?y1qb19) ?_
     case y1qb19=>
      have hix:(acc.length:Int)<(acc.length:Int)+1:=by omega
      go_simp<;>with_reducible rfl
     try simp only[pU]
     refine zAe 11 (some 24) rfl rfl (by kernel_rfl) rfl (by rfl) (fun Wq=>by go_simp<;>with_reducible rfl) ?_
     try simp only[pU]
     refine zBp [10,12] (by kernel_rfl) (by simp) ?_
     refine AllZ.cons rfl (fun K hK2=>?_) (AllZ.cons rfl (fun K hK2=>?_) AllZ.nil)
     ·have h1c:∀u∈([y0,y1,y2,y3,y4,y5,y6]:List Value),u.oneCell'=true:=FInP.one HZ8.out.el
      refine zAz w8 none rfl rfl 39 (.tmp 23) (.tmp 19) rfl g8 (acc.length*7) #[y0,y1,y2,y3,y4,y5,y6] rfl rfl Hg8.out.2.2 (by kernel_rfl) (all_oneCell_toArray h1c) ?_
      have hOp:=(HZ8.out).put
      try simp only[List.toList_toArray]
      obtain⟨w10,hw10⟩:∃w10,w8.setCells g8 (acc.length*7) [y0,y1,y2,y3,y4,y5,y6]=w10:=⟨_,rfl⟩
      have hfp:Fr (fun k=>W.heap.size<=k) w8 w10:=by rw[<-hw10];exact Fr.setCells _ _ _ _ Hg8.out.1
      rw[hw10] at hOp ⊢
      have HOp:=hide hOp
      have Hfp:=hide hfp
      refine hK2.out _ _ (fun h=>absurd (by decide) h) ?_
      clear hK2 K h1c hOp hw10 hfp
      have HB10:=hide (HB8.out.fr Hfp.out (by have:=Hn.out;omega))
      try simp only[pU]
      refine zAf 12 rfl (by kernel_rfl) (fun K hK2=>?_)
      have k6:=HB10.out.cells 6 _ rfl
      have z6:=HB10.out.fz
      go_simp
      refine hK2.out _ _ (fun h=>absurd (by decide) h) ?_
      clear hK2 K k6 z6
      try simp only[pU]
      refine zAj (by kernel_rfl) ?_ _
      have hfs:Fr (fun k=>k=fb) w10 (w10.setCell ⟨fb,6,none⟩ (.slice (some ⟨g8,0,none⟩) (acc.length+1) c8_)):=Fr.setCell _ _ _ rfl
      have HBz:Hid (Blk _ fb _):=hide (HB10.out.set 6 (.slice (some ⟨g8,0,none⟩) (acc.length+1) c8_) (by simp))
      have HOz:=hide (HOp.out.fr hfs (fun k hk q=>by have:=Hn.out;omega))
      have hFa:Fr (fun k=>k=fb\/W.heap.size<=k) w8 (w10.setCell ⟨fb,6,none⟩ (.slice (some ⟨g8,0,none⟩) (acc.length+1) c8_)):=(Hfp.out.mono fun _ _ q=>.inr q).trans (hfs.mono fun _ _ q=>.inl q)
      have HRz:=hide (HR8.out.fr hFa (by rintro (q | q)<;>(have:=Hn.out;omega)) (by rintro (q | q)<;>(have:=Hn.out;omega)) (fun k h1 h2=>by rintro (q | q)<;>(have:=Hn.out;omega)))
      have HDz:=hide ((hFa.cell (p:=⟨db,0,none⟩) (by simp only;have:=Hn.out;have:=HZs8.out;omega) (by rintro (q | q)<;>(simp only at q;have:=Hn.out;omega))).trans HD8.out)
      have HFz:Hid (Fr (own3 (fun k=>k=fb) g b) W _):=hide (HF8.out.trans' hFa fun k hk q=>by rcases q with q | q;exact .inr (.inr q);omega)
      have Hst:=hide (hM.out.step (x:=t) (G:=F6) (zBf d) Hne.out (fun x0 F0 h0=>HQ.out rfl x0 F0 h0))
      clear hFa hfs
      go_wp2
      go_roundg (if (Rd.filterR d F').isNone then 0 else F6.length+1)
      case measure=>have h1:=Hst.out.2;have h2:=hK.out;simp only[Bool.false_eq_true,if_false] at h2;omega
      case rel=>exact⟨F6,(Rd.filterR d F').isNone,acc++[t],_,HRz,by simpa using HOz,by simpa using HBz,HFz,HDz,hide Hst.out.1,hide (Nat.le_refl _)⟩
     ·have k6:=HB8.out.cells 6 _ rfl
      have z6:=HB8.out.fz
      go_simp
      obtain⟨w12,hw12⟩:∃w12,w8.setCell ⟨fb,6,none⟩ (.slice (some ⟨g8,0,none⟩) (acc.length+1) c8_)=w12:=⟨_,rfl⟩
      have hfc:Fr (fun k=>k=fb) w8 w12:=by rw[<-hw12];exact Fr.setCell _ _ _ rfl
      have HB12:Hid (Blk w12 fb _):=hide (by rw[<-hw12];exact HB8.out.set 6 (.slice (some ⟨g8,0,none⟩) (acc.length+1) c8_) (by simp))
      rw[hw12]
      have HZ12:=hide (HZ8.out.fr hfc (fun k hk q=>by have:=Hn.out;omega))
      have Hg12:Hid (w12.there g8 (acc.length*7) 7):=hide (by
     obtain⟨g9,c9,e9,_,_,h9⟩:=HZ12.out.form
     cases e9
     exact h9)
      have Hfc:=hide hfc
      clear hw12 hfc
      refine hK2.out _ _ (fun h=>absurd (by decide) h) ?_
      clear hK2 K k6 z6
      try simp only[pU]
      refine zAf 10 rfl (by kernel_rfl) (fun K hK2=>?_)
      have h1c:∀u∈([y0,y1,y2,y3,y4,y5,y6]:List Value),u.oneCell'=true:=FInP.one HZ12.out.el
      refine zAz w12 none rfl rfl 39 (.tmp 23) (.tmp 19) rfl g8 (acc.length*7) #[y0,y1,y2,y3,y4,y5,y6] rfl rfl Hg12.out (by kernel_rfl) (all_oneCell_toArray h1c) ?_
      have hOp:=(HZ12.out).put
      try simp only[List.toList_toArray]
      obtain⟨w10,hw10⟩:∃w10,w12.setCells g8 (acc.length*7) [y0,y1,y2,y3,y4,y5,y6]=w10:=⟨_,rfl⟩
      have hfp:Fr (fun k=>W.heap.size<=k) w12 w10:=by rw[<-hw10];exact Fr.setCells _ _ _ _ Hg8.out.1
      rw[hw10] at hOp ⊢
      have HOp:=hide hOp
      have Hfp:=hide hfp
      refine hK2.out _ _ (fun h=>absurd (by decide) h) ?_
      clear hK2 K h1c hOp hw10 hfp
      try simp only[pU]
      refine zAj (by kernel_rfl) ?_ _
      have HBz:Hid (Blk w10 fb _):=hide (HB12.out.fr Hfp.out (by have:=Hn.out;omega))
      have HOz:=HOp
      have hFa:Fr (fun k=>k=fb\/W.heap.size<=k) w8 w10:=(Hfc.out.mono fun _ _ q=>.inl q).trans (Hfp.out.mono fun _ _ q=>.inr q)
      have HRz:=hide (HR8.out.fr hFa (by rintro (q | q)<;>(have:=Hn.out;omega)) (by rintro (q | q)<;>(have:=Hn.out;omega)) (fun k h1 h2=>by rintro (q | q)<;>(have:=Hn.out;omega)))
      have HDz:=hide ((hFa.cell (p:=⟨db,0,none⟩) (by simp only;have:=Hn.out;have:=HZs8.out;omega) (by rintro (q | q)<;>(simp only at q;have:=Hn.out;omega))).trans HD8.out)
      have HFz:Hid (Fr (own3 (fun k=>k=fb) g b) W _):=hide (HF8.out.trans' hFa fun k hk q=>by rcases q with q | q;exact .inr (.inr q);omega)
      have Hst:=hide (hM.out.step (x:=t) (G:=F6) (zBf d) Hne.out (fun x0 F0 h0=>HQ.out rfl x0 F0 h0))
      clear hFa
      go_wp2
      go_roundg (if (Rd.filterR d F').isNone then 0 else F6.length+1)
      case measure=>have h1:=Hst.out.2;have h2:=hK.out;simp only[Bool.false_eq_true,if_false] at h2;omega
      case rel=>exact⟨F6,(Rd.filterR d F').isNone,acc++[t],_,HRz,by simpa using HOz,by simpa using HBz,HFz,HDz,hide Hst.out.1,hide (Nat.le_refl _)⟩
    ·go_simp
     have hfa:Fr (fun _=>False) wd (wd.alloc (.cells #[.int .i64 0,.string ⟨#[]⟩,.string ⟨#[]⟩,.string ⟨#[]⟩,.string ⟨#[]⟩,.slice none 0 0,.slice none 0 0] 39)):=Fr.alloc _ _ _
     have hlit:=World.ownsRow_lit (e:=39) (size:=7) wd #[.int .i64 0,.string ⟨#[]⟩,.string ⟨#[]⟩,.string ⟨#[]⟩,.string ⟨#[]⟩,.slice none 0 0,.slice none 0 0] 1 (Nat.le_refl _) (by unfold maxLen;omega) rfl
     obtain⟨w7,hwn⟩:∃w7,wd.alloc (.cells #[.int .i64 0,.string ⟨#[]⟩,.string ⟨#[]⟩,.string ⟨#[]⟩,.string ⟨#[]⟩,.slice none 0 0,.slice none 0 0] 39)=w7:=⟨_,rfl⟩
     rw[hwn] at hfa hlit ⊢
     have hsz:w7.heap.size=wd.heap.size+1:=by rw[<-hwn];simp
     have HRw7:=hide (HRwd.out.fr hfa id id (fun _ _ _=>id))
     have HBw7:=hide (HBwd.out.fr hfa id)
     have HOw7:=hide (HOwd.out.fr hfa (fun _ _=>id))
     have HDw7:=hide ((hfa.cell (p:=⟨db,0,none⟩) (by simp only;have:=Hn.out;have:=HZwd.out;omega) id).trans HDwd.out)
     have HZw7:Hid (W.heap.size<=w7.heap.size):=hide (Nat.le_trans HZwd.out hfa.size)
     have HFw7:=hide (HFwd.out.trans (Fr.mono hfa fun _ _ q=>q.elim))
     have HZl:=hide (And.intro hsz HZwd.out)
     have HZL:Hid (HasP w7 (fun k=>k=wd.heap.size) 7 (some ⟨wd.heap.size,0,none⟩) 1 [.int .i64 0,.string ⟨#[]⟩,.string ⟨#[]⟩,.string ⟨#[]⟩,.string ⟨#[]⟩,.slice none 0 0,.slice none 0 0]):=hide (by
     obtain⟨A0,c0,e0,_,hP0⟩:=zA5 hlit
     cases e0
     exact hP0.move (fun _ _=>rfl) (fun k hk=>by omega))
     refine hK2.out _ _ (fun _=>⟨fun _=>HBw7.out.cells 6 _ rfl,fun _=>HDw7.out⟩) ?_
     clear hK2 K hfa hlit hwn hsz HRwd HBwd HOwd HDwd HFwd
     try simp only[pU]
     refine zAf 5 rfl (by kernel_rfl) (fun K hK2=>?_)
     go_simp
     refine (HP.out w7 lo g b F' false HRw7.out).mono ?_
     rintro e w75 hpost
     obtain⟨t,v9,F6,rfl,hrep,hr6,hf6,hq6⟩:=hpost.out
     clear hpost
     obtain⟨ys,rfl,hE⟩:=hrep
     rw[Bool.false_or] at hr6
     have hE7:=FInP.len hE
     obtain⟨y0,y1,y2,y3,y4,y5,y6,rfl⟩:=seven hE7
     clear hE7
     have hs6:=hf6.size
     have HRw75:=hide hr6
     have HBw75:=hide (HBw7.out.fr hf6 (by rintro (q | q)<;>(have:=Hn.out;omega)))
     have HOw75:=hide (HOw7.out.fr hf6 (by rintro k hk (q | q)<;>(have:=Hn.out;omega)))
     have HDw75:=hide ((hf6.cell (p:=⟨db,0,none⟩) (by simp only;have:=Hn.out;have:=HZw7.out;omega) (by rintro (q | q)<;>(simp only at q;have:=Hn.out;omega))).trans HDw7.out)
     have HZw75:Hid (W.heap.size<=w75.heap.size):=hide (Nat.le_trans HZw7.out hs6)
     have HFw75:=hide (HFw7.out.trans (hf6.mono (Y:=own3 (fun k=>k=fb) g b) fun k _ q=>by rcases q with q | q;exact .inl q;exact .inr (.inl q)))
     have HQ:=hide hq6
     have HEw75:Hid (FInP w75 (fun k=>W.heap.size<=k/\k<w75.heap.size/\(Value.slice Av acc.length cv).ownBlock≠some k) t [y0,y1,y2,y3,y4,y5,y6]):=hide (by
     obtain⟨xs,hown,_⟩:=HOw7.out.row
     exact FInP.move (fun _ _=>rfl) (fun k hk=>⟨by have:=HZw7.out;omega,hk.2,zBu hown k hk.1⟩) hE)
     have HZs:=hide hs6
     have HZLw75:=hide ((HZL.out.fr hf6 (fun k hk=>⟨by have:=HZl.out;omega,by rintro (q | q)<;>(have:=Hn.out;have:=HZl.out;omega),hk⟩):HasP w75 (fun k=>k=wd.heap.size) 7 (some ⟨wd.heap.size,0,none⟩) 1 [.int .i64 0,.string ⟨#[]⟩,.string ⟨#[]⟩,.string ⟨#[]⟩,.string ⟨#[]⟩,.slice none 0 0,.slice none 0 0]))
     clear HZL
     have HZL:=HZLw75
     clear HZLw75
     refine hK2.out _ _ (fun _=>⟨fun _=>HBw75.out.cells 6 _ rfl,fun _=>HDw75.out⟩) ?_
     clear hK2 K hr6 hf6 hq6 hE hs6 HRw7 HBw7 HOw7 HDw7 HFw7
     try simp only[pU]
     refine zAf 8 rfl (by kernel_rfl) (fun K hK2=>?_)
     obtain⟨xs,hown,hrow⟩:=HOw75.out.row
     have hzl:=HZL.out.has (B:=w75.heap.size) (fun k hk=>by have:=HZl.out;have:=HZs.out;omega)
     refine stepA _ 37 39 _ 7 120 Tryz.underlying37 infoF8 rfl (by omega) (by omega) (some 22) rfl rfl (.tmp 15) (.tmp 21) rfl W.heap.size _ acc.length xs rfl hown _ _ 1 1 [.int .i64 0,.string ⟨#[]⟩,.string ⟨#[]⟩,.string ⟨#[]⟩,.string ⟨#[]⟩,.slice none 0 0,.slice none 0 0] rfl hzl (by intro u hu;simp only[List.mem_cons,List.not_mem_nil,or_false] at hu;rcases hu with rfl | rfl | rfl | rfl | rfl | rfl | rfl<;>rfl) (by have:=hM.out.all;omega) HZw75.out ?_
     intro v8 w8 h8 hb8 hg8 ht8
     have hn8:acc.length+1<=20000:=by have:=hM.out.all;omega
     have hZ8:=OwnL.room hown hrow HEw75.out h8 rfl hg8 ht8 hn8
     have hro:∀k,(Value.slice Av acc.length cv).ownBlock=some k->W.heap.size<=k:=fun k hk=>(hown.lt k hk).1
     have hf8:Fr (fun k=>W.heap.size<=k) w75 w8:=Fr.grown hg8 fun k hk=>hro k hk
     have HR8:=hide (HRw75.out.fr hf8 (by have:=Hn.out;omega) (by have:=Hn.out;omega) (fun k h1 h2=>by have:=Hn.out;omega))
     have HB8:=hide (HBw75.out.fr hf8 (by have:=Hn.out;omega))
     have HD8:=hide ((hf8.cell (p:=⟨db,0,none⟩) (by simp only;have:=Hn.out;have:=HZw75.out;omega) (by simp only;have:=Hn.out;omega)).trans HDw75.out)
     have HF8:Hid (Fr (own3 (fun k=>k=fb) g b) W w8):=hide (HFw75.out.trans' hf8 fun k hk q=>by omega)
     have HZs8:Hid (W.heap.size<=w8.heap.size):=hide (Nat.le_trans HZw75.out hf8.size)
     have HZ8:=hide hZ8
     obtain⟨g8,c8_,rfl,hg8a,hg8b,hth⟩:=hZ8.form
     have Hg8:=hide (And.intro hg8a (And.intro hg8b hth))
     refine hK2.out _ _ (fun _=>⟨fun _=>HB8.out.cells 6 _ rfl,fun _=>HD8.out⟩) ?_
     clear hK2 K h8 hb8 hg8 ht8 hZ8 hro hf8 hown hrow hzl hn8 hg8a hg8b hth HRw75 HBw75 HOw75 HDw75 HFw75 HEw75 HZL
     try simp only[pU]
     refine zAe 9 (some 23) (v:=?v1qe49) rfl rfl (by kernel_rfl) rfl (by rfl) (fun Wq=>?y1qe49) ?_
     case y1qe49=>
      have hix:(acc.length:Int)<(acc.length:Int)+1:=by omega
      go_simp<;>with_reducible rfl
     try simp only[pU]
     refine zAe 11 (some 24) rfl rfl (by kernel_rfl) rfl (by rfl) (fun Wq=>by go_simp<;>with_reducible rfl) ?_
     try simp only[pU]
     refine zBp [10,12] (by kernel_rfl) (by simp) ?_
     refine AllZ.cons rfl (fun K hK2=>?_) (AllZ.cons rfl (fun K hK2=>?_) AllZ.nil)
     ·have h1c:∀u∈([y0,y1,y2,y3,y4,y5,y6]:List Value),u.oneCell'=true:=FInP.one HZ8.out.el
      refine zAz w8 none rfl rfl 39 (.tmp 23) (.tmp 19) rfl g8 (acc.length*7) #[y0,y1,y2,y3,y4,y5,y6] rfl rfl Hg8.out.2.2 (by kernel_rfl) (all_oneCell_toArray h1c) ?_
      have hOp:=(HZ8.out).put
      try simp only[List.toList_toArray]
      obtain⟨w10,hw10⟩:∃w10,w8.setCells g8 (acc.length*7) [y0,y1,y2,y3,y4,y5,y6]=w10:=⟨_,rfl⟩
      have hfp:Fr (fun k=>W.heap.size<=k) w8 w10:=by rw[<-hw10];exact Fr.setCells _ _ _ _ Hg8.out.1
      rw[hw10] at hOp ⊢
      have HOp:=hide hOp
      have Hfp:=hide hfp
      refine hK2.out _ _ (fun h=>absurd (by decide) h) ?_
      clear hK2 K h1c hOp hw10 hfp
      have HB10:=hide (HB8.out.fr Hfp.out (by have:=Hn.out;omega))
      try simp only[pU]
      refine zAf 12 rfl (by kernel_rfl) (fun K hK2=>?_)
      have k6:=HB10.out.cells 6 _ rfl
      have z6:=HB10.out.fz
      go_simp
      refine hK2.out _ _ (fun h=>absurd (by decide) h) ?_
      clear hK2 K k6 z6
      try simp only[pU]
      refine zAj (by kernel_rfl) ?_ _
      have hfs:Fr (fun k=>k=fb) w10 (w10.setCell ⟨fb,6,none⟩ (.slice (some ⟨g8,0,none⟩) (acc.length+1) c8_)):=Fr.setCell _ _ _ rfl
      have HBz:Hid (Blk _ fb _):=hide (HB10.out.set 6 (.slice (some ⟨g8,0,none⟩) (acc.length+1) c8_) (by simp))
      have HOz:=hide (HOp.out.fr hfs (fun k hk q=>by have:=Hn.out;omega))
      have hFa:Fr (fun k=>k=fb\/W.heap.size<=k) w8 (w10.setCell ⟨fb,6,none⟩ (.slice (some ⟨g8,0,none⟩) (acc.length+1) c8_)):=(Hfp.out.mono fun _ _ q=>.inr q).trans (hfs.mono fun _ _ q=>.inl q)
      have HRz:=hide (HR8.out.fr hFa (by rintro (q | q)<;>(have:=Hn.out;omega)) (by rintro (q | q)<;>(have:=Hn.out;omega)) (fun k h1 h2=>by rintro (q | q)<;>(have:=Hn.out;omega)))
      have HDz:=hide ((hFa.cell (p:=⟨db,0,none⟩) (by simp only;have:=Hn.out;have:=HZs8.out;omega) (by rintro (q | q)<;>(simp only at q;have:=Hn.out;omega))).trans HD8.out)
      have HFz:Hid (Fr (own3 (fun k=>k=fb) g b) W _):=hide (HF8.out.trans' hFa fun k hk q=>by rcases q with q | q;exact .inr (.inr q);omega)
      have Hst:=hide (hM.out.step (x:=t) (G:=F6) (zBf d) Hne.out (fun x0 F0 h0=>HQ.out rfl x0 F0 h0))
      clear hFa hfs
      go_wp2
      go_roundg (if (Rd.filterR d F').isNone then 0 else F6.length+1)
      case measure=>have h1:=Hst.out.2;have h2:=hK.out;simp only[Bool.false_eq_true,if_false] at h2;omega
      case rel=>exact⟨F6,(Rd.filterR d F').isNone,acc++[t],_,HRz,by simpa using HOz,by simpa using HBz,HFz,HDz,hide Hst.out.1,hide (Nat.le_refl _)⟩
     ·have k6:=HB8.out.cells 6 _ rfl
      have z6:=HB8.out.fz
      go_simp
      obtain⟨w12,hw12⟩:∃w12,w8.setCell ⟨fb,6,none⟩ (.slice (some ⟨g8,0,none⟩) (acc.length+1) c8_)=w12:=⟨_,rfl⟩
      have hfc:Fr (fun k=>k=fb) w8 w12:=by rw[<-hw12];exact Fr.setCell _ _ _ rfl
      have HB12:Hid (Blk w12 fb _):=hide (by rw[<-hw12];exact HB8.out.set 6 (.slice (some ⟨g8,0,none⟩) (acc.length+1) c8_) (by simp))
      rw[hw12]
      have HZ12:=hide (HZ8.out.fr hfc (fun k hk q=>by have:=Hn.out;omega))
      have Hg12:Hid (w12.there g8 (acc.length*7) 7):=hide (by
     obtain⟨g9,c9,e9,_,_,h9⟩:=HZ12.out.form
     cases e9
     exact h9)
      have Hfc:=hide hfc
      clear hw12 hfc
      refine hK2.out _ _ (fun h=>absurd (by decide) h) ?_
      clear hK2 K k6 z6
      try simp only[pU]
      refine zAf 10 rfl (by kernel_rfl) (fun K hK2=>?_)
      have h1c:∀u∈([y0,y1,y2,y3,y4,y5,y6]:List Value),u.oneCell'=true:=FInP.one HZ12.out.el
      refine zAz w12 none rfl rfl 39 (.tmp 23) (.tmp 19) rfl g8 (acc.length*7) #[y0,y1,y2,y3,y4,y5,y6] rfl rfl Hg12.out (by kernel_rfl) (all_oneCell_toArray h1c) ?_
      have hOp:=(HZ12.out).put
      try simp only[List.toList_toArray]
      obtain⟨w10,hw10⟩:∃w10,w12.setCells g8 (acc.length*7) [y0,y1,y2,y3,y4,y5,y6]=w10:=⟨_,rfl⟩
      have hfp:Fr (fun k=>W.heap.size<=k) w12 w10:=by rw[<-hw10];exact Fr.setCells _ _ _ _ Hg8.out.1
      rw[hw10] at hOp ⊢
      have HOp:=hide hOp
      have Hfp:=hide hfp
      refine hK2.out _ _ (fun h=>absurd (by decide) h) ?_
      clear hK2 K h1c hOp hw10 hfp
      try simp only[pU]
      refine zAj (by kernel_rfl) ?_ _
      have HBz:Hid (Blk w10 fb _):=hide (HB12.out.fr Hfp.out (by have:=Hn.out;omega))
      have HOz:=HOp
      have hFa:Fr (fun k=>k=fb\/W.heap.size<=k) w8 w10:=(Hfc.out.mono fun _ _ q=>.inl q).trans (Hfp.out.mono fun _ _ q=>.inr q)
      have HRz:=hide (HR8.out.fr hFa (by rintro (q | q)<;>(have:=Hn.out;omega)) (by rintro (q | q)<;>(have:=Hn.out;omega)) (fun k h1 h2=>by rintro (q | q)<;>(have:=Hn.out;omega)))
      have HDz:=hide ((hFa.cell (p:=⟨db,0,none⟩) (by simp only;have:=Hn.out;have:=HZs8.out;omega) (by rintro (q | q)<;>(simp only at q;have:=Hn.out;omega))).trans HD8.out)
      have HFz:Hid (Fr (own3 (fun k=>k=fb) g b) W _):=hide (HF8.out.trans' hFa fun k hk q=>by rcases q with q | q;exact .inr (.inr q);omega)
      have Hst:=hide (hM.out.step (x:=t) (G:=F6) (zBf d) Hne.out (fun x0 F0 h0=>HQ.out rfl x0 F0 h0))
      clear hFa
      go_wp2
      go_roundg (if (Rd.filterR d F').isNone then 0 else F6.length+1)
      case measure=>have h1:=Hst.out.2;have h2:=hK.out;simp only[Bool.false_eq_true,if_false] at h2;omega
      case rel=>exact⟨F6,(Rd.filterR d F').isNone,acc++[t],_,HRz,by simpa using HOz,by simpa using HBz,HFz,HDz,hide Hst.out.1,hide (Nat.le_refl _)⟩
 ·go_enter Tryz.func182,Tryz.ntmps182
  go_wp2
  go_loopg [] (if φ then 0 else F.length+1) (fun kn wx=>∃(F':List Fd) (φ':Bool) (acc:List FT) (vp:Value),Hid (RdS wx lo g b F' φ')/\Hid (OwnL elF 39 W.heap.size acc vp wx)/\Hid (Blk wx fb [.int .i64 2,.string ⟨#[]⟩,.string ⟨#[]⟩,.string ⟨#[]⟩,.string ⟨#[]⟩,.slice none 0 0,vp])/\Hid (Fr (own3 (fun k=>k=fb) g b) W wx)/\Hid (wx.cell? ⟨db,0,none⟩=some (.int .i64 ((d:Int)+1)))/\Hid (Many (Rd.filterR d) F φ F' φ' acc)/\Hid ((if φ' then 0 else F'.length+1)<=kn))
  case atStart=>exact⟨F,φ,[],_,HR0,HO,HB0,HF0,HD0,HM,hide (Nat.le_refl _)⟩
  case round=>
   obtain⟨F',φ',acc,vp,hR,hO,hB,hF,hD,hM,hK⟩:=hrel
   clear HR0 HO HB0 HF0 HD0 HM
   have hmo:=zA6 wr lo g b F' φ' hR.out
   cases hmb:moreB F' φ' with
   | false=>
    rw[hmb] at hmo
    have hdd:=body_parts (k:=2) (by omega) (hM.out.done hmb)
    have Hd:=hide hdd
    clear hmb hdd
    go_wp2_with (go_at_call 79;fail)
    refine hmo.mono ?_
    rintro e w1 ⟨rfl,hw1⟩
    obtain rfl:=hw1
    clear hmo
    go_wp2
    go_returns
    have hrr:=hR.out
    rw[Hd.out.1] at hrr
    obtain⟨xs,hown,hrow⟩:=hO.out.row
    obtain⟨D,dd,rfl,_,hDP⟩:=zA5 hown
    have hfs:=rowF_fs hrow
    refine⟨⟨.mk 2 [] [] [] [] [] acc,F',rfl,⟨⟨_,?_,hB.out⟩⟩,hrr,hF.out,Hd.out.2⟩⟩
    refine⟨none,0,D,dd,xs,rfl,⟨by unfold maxLen;simp,by have:=hO.out.len;unfold maxLen;omega⟩,HasP.none _,hDP.move (fun _ _=>rfl) (fun k hk=>⟨by have:=Hn.out;omega,hk.2⟩),FsInP.move (fun _ _=>rfl) (fun k hk=>⟨by have:=Hn.out;omega,hk.2.1⟩) hfs⟩
   | true=>
    rw[hmb] at hmo
    obtain⟨rfl,hne⟩:φ'=false/\F'≠[]:=by
     cases φ' with
     | true=>cases hmb
     | false=>exact⟨rfl,fun e=>by subst e;cases hmb⟩
    have Hne:=hide hne
    obtain⟨Av,cv,rfl⟩:=hO.out.form
    clear hmb hne
    go_wp2_with (go_at_call 79;fail)
    refine hmo.mono ?_
    rintro e w1 ⟨rfl,hw1⟩
    obtain rfl:=hw1
    clear hmo
    go_wp2_with fail
    refine zAp (wayCC ⟨fb,6,none⟩ (.slice Av acc.length cv) ⟨db,0,none⟩ (.int .i64 ((d:Int)+1))) [10,12] (by kernel_rfl) ?_
    have HRwd:=hide (hR.out.fr (Fr.drew (fun _=>False) w1) id id (fun _ _ _=>id))
    have HFwd:=hide (hF.out.trans (Fr.drew _ w1))
    have HOwd:=hide (hO.out.fr (Fr.drew (fun _=>False) w1) (fun _ _=>id))
    have HBwd:=hide (hB.out.fr (Fr.drew (fun _=>False) w1) id)
    have HDwd:Hid (w1.drew.cell? ⟨db,0,none⟩=some (.int .i64 ((d:Int)+1))):=hide hD.out
    have HZwd:Hid (W.heap.size<=w1.drew.heap.size):=hide HFwd.out.size
    clear hR hF hO hB hD
    generalize w1.drew=wd at *
    refine zAe 0 (some 14) rfl rfl (by kernel_rfl) rfl (by rfl) (fun Wq=>by go_simp<;>with_reducible rfl) ?_
    try simp only[pU]
    refine zAm 1 (some 15) (v:=?v2q1) rfl rfl (by kernel_rfl) rfl (by kernel_rfl) (by rfl) (fun Wq hW=>?y2q1) ?_
    case y2q1=>
     have cW:Wq.cell? ⟨fb,6,none⟩=some (.slice Av acc.length cv):=hW.1 (HBwd.out.cells 6 _ rfl)
     go_simp<;>with_reducible rfl
    try simp only[pU]
    refine zAe 2 (some 16) rfl rfl (by kernel_rfl) rfl (by rfl) (fun Wq=>by go_simp<;>with_reducible rfl) ?_
    try simp only[pU]
    refine zAm 3 (some 17) (v:=?v2q3) rfl rfl (by kernel_rfl) rfl (by kernel_rfl) (by rfl) (fun Wq hW=>?y2q3) ?_
    case y2q3=>
     have dW:Wq.cell? ⟨db,0,none⟩=some (.int .i64 ((d:Int)+1)):=hW.2 HDwd.out
     go_simp<;>with_reducible rfl
    try simp only[pU]
    refine zAe 4 (some 18) (v:=?v2q4) rfl rfl (by kernel_rfl) rfl (by rfl) (fun Wq=>?y2q4) ?_
    case y2q4=>
     have hwr:IntKind.i64.wrap (d:Int)=(d:Int):=IntWalk.i64_in _ (by omega)
     go_simp<;>with_reducible rfl
    try simp only[pU]
    refine zAe 6 (some 20) rfl rfl (by kernel_rfl) rfl (by rfl) (fun Wq=>by go_simp<;>with_reducible rfl) ?_
    try simp only[pU]
    refine zBp [5,7] (by kernel_rfl) (by simp) ?_
    refine AllZ.cons rfl (fun K hK2=>?_) (AllZ.cons rfl (fun K hK2=>?_) AllZ.nil)
    ·go_simp
     refine (HP.out wd lo g b F' false HRwd.out).mono ?_
     rintro e w5 hpost
     obtain⟨t,v9,F6,rfl,hrep,hr6,hf6,hq6⟩:=hpost.out
     clear hpost
     obtain⟨ys,rfl,hE⟩:=hrep
     rw[Bool.false_or] at hr6
     have hE7:=FInP.len hE
     obtain⟨y0,y1,y2,y3,y4,y5,y6,rfl⟩:=seven hE7
     clear hE7
     have hs6:=hf6.size
     have HRw5:=hide hr6
     have HBw5:=hide (HBwd.out.fr hf6 (by rintro (q | q)<;>(have:=Hn.out;omega)))
     have HOw5:=hide (HOwd.out.fr hf6 (by rintro k hk (q | q)<;>(have:=Hn.out;omega)))
     have HDw5:=hide ((hf6.cell (p:=⟨db,0,none⟩) (by simp only;have:=Hn.out;have:=HZwd.out;omega) (by rintro (q | q)<;>(simp only at q;have:=Hn.out;omega))).trans HDwd.out)
     have HZw5:Hid (W.heap.size<=w5.heap.size):=hide (Nat.le_trans HZwd.out hs6)
     have HFw5:=hide (HFwd.out.trans (hf6.mono (Y:=own3 (fun k=>k=fb) g b) fun k _ q=>by rcases q with q | q;exact .inl q;exact .inr (.inl q)))
     have HQ:=hide hq6
     have HEw5:Hid (FInP w5 (fun k=>W.heap.size<=k/\k<w5.heap.size/\(Value.slice Av acc.length cv).ownBlock≠some k) t [y0,y1,y2,y3,y4,y5,y6]):=hide (by
     obtain⟨xs,hown,_⟩:=HOwd.out.row
     exact FInP.move (fun _ _=>rfl) (fun k hk=>⟨by have:=HZwd.out;omega,hk.2,zBu hown k hk.1⟩) hE)
     refine hK2.out _ _ (fun _=>⟨fun _=>HBw5.out.cells 6 _ rfl,fun _=>HDw5.out⟩) ?_
     clear hK2 K hr6 hf6 hq6 hE hs6 HRwd HBwd HOwd HDwd HFwd
     try simp only[pU]
     refine zAf 7 rfl (by kernel_rfl) (fun K hK2=>?_)
     go_simp
     have hfa:Fr (fun _=>False) w5 (w5.alloc (.cells #[.int .i64 0,.string ⟨#[]⟩,.string ⟨#[]⟩,.string ⟨#[]⟩,.string ⟨#[]⟩,.slice none 0 0,.slice none 0 0] 39)):=Fr.alloc _ _ _
     have hlit:=World.ownsRow_lit (e:=39) (size:=7) w5 #[.int .i64 0,.string ⟨#[]⟩,.string ⟨#[]⟩,.string ⟨#[]⟩,.string ⟨#[]⟩,.slice none 0 0,.slice none 0 0] 1 (Nat.le_refl _) (by unfold maxLen;omega) rfl
     obtain⟨w57,hwn⟩:∃w57,w5.alloc (.cells #[.int .i64 0,.string ⟨#[]⟩,.string ⟨#[]⟩,.string ⟨#[]⟩,.string ⟨#[]⟩,.slice none 0 0,.slice none 0 0] 39)=w57:=⟨_,rfl⟩
     rw[hwn] at hfa hlit ⊢
     have hsz:w57.heap.size=w5.heap.size+1:=by rw[<-hwn];simp
     have HRw57:=hide (HRw5.out.fr hfa id id (fun _ _ _=>id))
     have HBw57:=hide (HBw5.out.fr hfa id)
     have HOw57:=hide (HOw5.out.fr hfa (fun _ _=>id))
     have HDw57:=hide ((hfa.cell (p:=⟨db,0,none⟩) (by simp only;have:=Hn.out;have:=HZw5.out;omega) id).trans HDw5.out)
     have HZw57:Hid (W.heap.size<=w57.heap.size):=hide (Nat.le_trans HZw5.out hfa.size)
     have HFw57:=hide (HFw5.out.trans (Fr.mono hfa fun _ _ q=>q.elim))
     have HZl:=hide (And.intro hsz HZw5.out)
     have HZL:Hid (HasP w57 (fun k=>k=w5.heap.size) 7 (some ⟨w5.heap.size,0,none⟩) 1 [.int .i64 0,.string ⟨#[]⟩,.string ⟨#[]⟩,.string ⟨#[]⟩,.string ⟨#[]⟩,.slice none 0 0,.slice none 0 0]):=hide (by
     obtain⟨A0,c0,e0,_,hP0⟩:=zA5 hlit
     cases e0
     exact hP0.move (fun _ _=>rfl) (fun k hk=>by omega))
     have HEw57:Hid (FInP w57 (fun k=>W.heap.size<=k/\k<w57.heap.size/\(Value.slice Av acc.length cv).ownBlock≠some k) t [y0,y1,y2,y3,y4,y5,y6]):=hide (FInP.move (fun p hp=>hfa.cell hp.2.1 id) (fun k hk=>⟨hk.1,by omega,hk.2.2⟩) HEw5.out)
     clear HEw5
     refine hK2.out _ _ (fun _=>⟨fun _=>HBw57.out.cells 6 _ rfl,fun _=>HDw57.out⟩) ?_
     clear hK2 K hfa hlit hwn hsz HRw5 HBw5 HOw5 HDw5 HFw5
     try simp only[pU]
     refine zAf 8 rfl (by kernel_rfl) (fun K hK2=>?_)
     obtain⟨xs,hown,hrow⟩:=HOw57.out.row
     have hzl:=HZL.out.has (B:=w57.heap.size) (fun k hk=>by have:=HZl.out;omega)
     refine stepA _ 37 39 _ 7 120 Tryz.underlying37 infoF8 rfl (by omega) (by omega) (some 22) rfl rfl (.tmp 15) (.tmp 21) rfl W.heap.size _ acc.length xs rfl hown _ _ 1 1 [.int .i64 0,.string ⟨#[]⟩,.string ⟨#[]⟩,.string ⟨#[]⟩,.string ⟨#[]⟩,.slice none 0 0,.slice none 0 0] rfl hzl (by intro u hu;simp only[List.mem_cons,List.not_mem_nil,or_false] at hu;rcases hu with rfl | rfl | rfl | rfl | rfl | rfl | rfl<;>rfl) (by have:=hM.out.all;omega) HZw57.out ?_
     intro v8 w8 h8 hb8 hg8 ht8
     have hn8:acc.length+1<=20000:=by have:=hM.out.all;omega
     have hZ8:=OwnL.room hown hrow HEw57.out h8 rfl hg8 ht8 hn8
     have hro:∀k,(Value.slice Av acc.length cv).ownBlock=some k->W.heap.size<=k:=fun k hk=>(hown.lt k hk).1
     have hf8:Fr (fun k=>W.heap.size<=k) w57 w8:=Fr.grown hg8 fun k hk=>hro k hk
     have HR8:=hide (HRw57.out.fr hf8 (by have:=Hn.out;omega) (by have:=Hn.out;omega) (fun k h1 h2=>by have:=Hn.out;omega))
     have HB8:=hide (HBw57.out.fr hf8 (by have:=Hn.out;omega))
     have HD8:=hide ((hf8.cell (p:=⟨db,0,none⟩) (by simp only;have:=Hn.out;have:=HZw57.out;omega) (by simp only;have:=Hn.out;omega)).trans HDw57.out)
     have HF8:Hid (Fr (own3 (fun k=>k=fb) g b) W w8):=hide (HFw57.out.trans' hf8 fun k hk q=>by omega)
     have HZs8:Hid (W.heap.size<=w8.heap.size):=hide (Nat.le_trans HZw57.out hf8.size)
     have HZ8:=hide hZ8
     obtain⟨g8,c8_,rfl,hg8a,hg8b,hth⟩:=hZ8.form
     have Hg8:=hide (And.intro hg8a (And.intro hg8b hth))
     refine hK2.out _ _ (fun _=>⟨fun _=>HB8.out.cells 6 _ rfl,fun _=>HD8.out⟩) ?_
     clear hK2 K h8 hb8 hg8 ht8 hZ8 hro hf8 hown hrow hzl hn8 hg8a hg8b hth HRw57 HBw57 HOw57 HDw57 HFw57 HEw57 HZL
     try simp only[pU]
     refine zAe 9 (some 23) (v:=?v2qb19) rfl rfl (by kernel_rfl) rfl (by rfl) (fun Wq=>?y2qb19) ?_
     case y2qb19=>
      have hix:(acc.length:Int)<(acc.length:Int)+1:=by omega
      go_simp<;>with_reducible rfl
     try simp only[pU]
     refine zAe 11 (some 24) rfl rfl (by kernel_rfl) rfl (by rfl) (fun Wq=>by go_simp<;>with_reducible rfl) ?_
     try simp only[pU]
     refine zBp [10,12] (by kernel_rfl) (by simp) ?_
     refine AllZ.cons rfl (fun K hK2=>?_) (AllZ.cons rfl (fun K hK2=>?_) AllZ.nil)
     ·have h1c:∀u∈([y0,y1,y2,y3,y4,y5,y6]:List Value),u.oneCell'=true:=FInP.one HZ8.out.el
      refine zAz w8 none rfl rfl 39 (.tmp 23) (.tmp 19) rfl g8 (acc.length*7) #[y0,y1,y2,y3,y4,y5,y6] rfl rfl Hg8.out.2.2 (by kernel_rfl) (all_oneCell_toArray h1c) ?_
      have hOp:=(HZ8.out).put
      try simp only[List.toList_toArray]
      obtain⟨w10,hw10⟩:∃w10,w8.setCells g8 (acc.length*7) [y0,y1,y2,y3,y4,y5,y6]=w10:=⟨_,rfl⟩
      have hfp:Fr (fun k=>W.heap.size<=k) w8 w10:=by rw[<-hw10];exact Fr.setCells _ _ _ _ Hg8.out.1
      rw[hw10] at hOp ⊢
      have HOp:=hide hOp
      have Hfp:=hide hfp
      refine hK2.out _ _ (fun h=>absurd (by decide) h) ?_
      clear hK2 K h1c hOp hw10 hfp
      have HB10:=hide (HB8.out.fr Hfp.out (by have:=Hn.out;omega))
      try simp only[pU]
      refine zAf 12 rfl (by kernel_rfl) (fun K hK2=>?_)
      have k6:=HB10.out.cells 6 _ rfl
      have z6:=HB10.out.fz
      go_simp
      refine hK2.out _ _ (fun h=>absurd (by decide) h) ?_
      clear hK2 K k6 z6
      try simp only[pU]
      refine zAj (by kernel_rfl) ?_ _
      have hfs:Fr (fun k=>k=fb) w10 (w10.setCell ⟨fb,6,none⟩ (.slice (some ⟨g8,0,none⟩) (acc.length+1) c8_)):=Fr.setCell _ _ _ rfl
      have HBz:Hid (Blk _ fb _):=hide (HB10.out.set 6 (.slice (some ⟨g8,0,none⟩) (acc.length+1) c8_) (by simp))
      have HOz:=hide (HOp.out.fr hfs (fun k hk q=>by have:=Hn.out;omega))
      have hFa:Fr (fun k=>k=fb\/W.heap.size<=k) w8 (w10.setCell ⟨fb,6,none⟩ (.slice (some ⟨g8,0,none⟩) (acc.length+1) c8_)):=(Hfp.out.mono fun _ _ q=>.inr q).trans (hfs.mono fun _ _ q=>.inl q)
      have HRz:=hide (HR8.out.fr hFa (by rintro (q | q)<;>(have:=Hn.out;omega)) (by rintro (q | q)<;>(have:=Hn.out;omega)) (fun k h1 h2=>by rintro (q | q)<;>(have:=Hn.out;omega)))
      have HDz:=hide ((hFa.cell (p:=⟨db,0,none⟩) (by simp only;have:=Hn.out;have:=HZs8.out;omega) (by rintro (q | q)<;>(simp only at q;have:=Hn.out;omega))).trans HD8.out)
      have HFz:Hid (Fr (own3 (fun k=>k=fb) g b) W _):=hide (HF8.out.trans' hFa fun k hk q=>by rcases q with q | q;exact .inr (.inr q);omega)
      have Hst:=hide (hM.out.step (x:=t) (G:=F6) (zBf d) Hne.out (fun x0 F0 h0=>HQ.out rfl x0 F0 h0))
      clear hFa hfs
      go_wp2
      go_roundg (if (Rd.filterR d F').isNone then 0 else F6.length+1)
      case measure=>have h1:=Hst.out.2;have h2:=hK.out;simp only[Bool.false_eq_true,if_false] at h2;omega
      case rel=>exact⟨F6,(Rd.filterR d F').isNone,acc++[t],_,HRz,by simpa using HOz,by simpa using HBz,HFz,HDz,hide Hst.out.1,hide (Nat.le_refl _)⟩
     ·have k6:=HB8.out.cells 6 _ rfl
      have z6:=HB8.out.fz
      go_simp
      obtain⟨w12,hw12⟩:∃w12,w8.setCell ⟨fb,6,none⟩ (.slice (some ⟨g8,0,none⟩) (acc.length+1) c8_)=w12:=⟨_,rfl⟩
      have hfc:Fr (fun k=>k=fb) w8 w12:=by rw[<-hw12];exact Fr.setCell _ _ _ rfl
      have HB12:Hid (Blk w12 fb _):=hide (by rw[<-hw12];exact HB8.out.set 6 (.slice (some ⟨g8,0,none⟩) (acc.length+1) c8_) (by simp))
      rw[hw12]
      have HZ12:=hide (HZ8.out.fr hfc (fun k hk q=>by have:=Hn.out;omega))
      have Hg12:Hid (w12.there g8 (acc.length*7) 7):=hide (by
     obtain⟨g9,c9,e9,_,_,h9⟩:=HZ12.out.form
     cases e9
     exact h9)
      have Hfc:=hide hfc
      clear hw12 hfc
      refine hK2.out _ _ (fun h=>absurd (by decide) h) ?_
      clear hK2 K k6 z6
      try simp only[pU]
      refine zAf 10 rfl (by kernel_rfl) (fun K hK2=>?_)
      have h1c:∀u∈([y0,y1,y2,y3,y4,y5,y6]:List Value),u.oneCell'=true:=FInP.one HZ12.out.el
      refine zAz w12 none rfl rfl 39 (.tmp 23) (.tmp 19) rfl g8 (acc.length*7) #[y0,y1,y2,y3,y4,y5,y6] rfl rfl Hg12.out (by kernel_rfl) (all_oneCell_toArray h1c) ?_
      have hOp:=(HZ12.out).put
      try simp only[List.toList_toArray]
      obtain⟨w10,hw10⟩:∃w10,w12.setCells g8 (acc.length*7) [y0,y1,y2,y3,y4,y5,y6]=w10:=⟨_,rfl⟩
      have hfp:Fr (fun k=>W.heap.size<=k) w12 w10:=by rw[<-hw10];exact Fr.setCells _ _ _ _ Hg8.out.1
      rw[hw10] at hOp ⊢
      have HOp:=hide hOp
      have Hfp:=hide hfp
      refine hK2.out _ _ (fun h=>absurd (by decide) h) ?_
      clear hK2 K h1c hOp hw10 hfp
      try simp only[pU]
      refine zAj (by kernel_rfl) ?_ _
      have HBz:Hid (Blk w10 fb _):=hide (HB12.out.fr Hfp.out (by have:=Hn.out;omega))
      have HOz:=HOp
      have hFa:Fr (fun k=>k=fb\/W.heap.size<=k) w8 w10:=(Hfc.out.mono fun _ _ q=>.inl q).trans (Hfp.out.mono fun _ _ q=>.inr q)
      have HRz:=hide (HR8.out.fr hFa (by rintro (q | q)<;>(have:=Hn.out;omega)) (by rintro (q | q)<;>(have:=Hn.out;omega)) (fun k h1 h2=>by rintro (q | q)<;>(have:=Hn.out;omega)))
      have HDz:=hide ((hFa.cell (p:=⟨db,0,none⟩) (by simp only;have:=Hn.out;have:=HZs8.out;omega) (by rintro (q | q)<;>(simp only at q;have:=Hn.out;omega))).trans HD8.out)
      have HFz:Hid (Fr (own3 (fun k=>k=fb) g b) W _):=hide (HF8.out.trans' hFa fun k hk q=>by rcases q with q | q;exact .inr (.inr q);omega)
      have Hst:=hide (hM.out.step (x:=t) (G:=F6) (zBf d) Hne.out (fun x0 F0 h0=>HQ.out rfl x0 F0 h0))
      clear hFa
      go_wp2
      go_roundg (if (Rd.filterR d F').isNone then 0 else F6.length+1)
      case measure=>have h1:=Hst.out.2;have h2:=hK.out;simp only[Bool.false_eq_true,if_false] at h2;omega
      case rel=>exact⟨F6,(Rd.filterR d F').isNone,acc++[t],_,HRz,by simpa using HOz,by simpa using HBz,HFz,HDz,hide Hst.out.1,hide (Nat.le_refl _)⟩
    ·go_simp
     have hfa:Fr (fun _=>False) wd (wd.alloc (.cells #[.int .i64 0,.string ⟨#[]⟩,.string ⟨#[]⟩,.string ⟨#[]⟩,.string ⟨#[]⟩,.slice none 0 0,.slice none 0 0] 39)):=Fr.alloc _ _ _
     have hlit:=World.ownsRow_lit (e:=39) (size:=7) wd #[.int .i64 0,.string ⟨#[]⟩,.string ⟨#[]⟩,.string ⟨#[]⟩,.string ⟨#[]⟩,.slice none 0 0,.slice none 0 0] 1 (Nat.le_refl _) (by unfold maxLen;omega) rfl
     obtain⟨w7,hwn⟩:∃w7,wd.alloc (.cells #[.int .i64 0,.string ⟨#[]⟩,.string ⟨#[]⟩,.string ⟨#[]⟩,.string ⟨#[]⟩,.slice none 0 0,.slice none 0 0] 39)=w7:=⟨_,rfl⟩
     rw[hwn] at hfa hlit ⊢
     have hsz:w7.heap.size=wd.heap.size+1:=by rw[<-hwn];simp
     have HRw7:=hide (HRwd.out.fr hfa id id (fun _ _ _=>id))
     have HBw7:=hide (HBwd.out.fr hfa id)
     have HOw7:=hide (HOwd.out.fr hfa (fun _ _=>id))
     have HDw7:=hide ((hfa.cell (p:=⟨db,0,none⟩) (by simp only;have:=Hn.out;have:=HZwd.out;omega) id).trans HDwd.out)
     have HZw7:Hid (W.heap.size<=w7.heap.size):=hide (Nat.le_trans HZwd.out hfa.size)
     have HFw7:=hide (HFwd.out.trans (Fr.mono hfa fun _ _ q=>q.elim))
     have HZl:=hide (And.intro hsz HZwd.out)
     have HZL:Hid (HasP w7 (fun k=>k=wd.heap.size) 7 (some ⟨wd.heap.size,0,none⟩) 1 [.int .i64 0,.string ⟨#[]⟩,.string ⟨#[]⟩,.string ⟨#[]⟩,.string ⟨#[]⟩,.slice none 0 0,.slice none 0 0]):=hide (by
     obtain⟨A0,c0,e0,_,hP0⟩:=zA5 hlit
     cases e0
     exact hP0.move (fun _ _=>rfl) (fun k hk=>by omega))
     refine hK2.out _ _ (fun _=>⟨fun _=>HBw7.out.cells 6 _ rfl,fun _=>HDw7.out⟩) ?_
     clear hK2 K hfa hlit hwn hsz HRwd HBwd HOwd HDwd HFwd
     try simp only[pU]
     refine zAf 5 rfl (by kernel_rfl) (fun K hK2=>?_)
     go_simp
     refine (HP.out w7 lo g b F' false HRw7.out).mono ?_
     rintro e w75 hpost
     obtain⟨t,v9,F6,rfl,hrep,hr6,hf6,hq6⟩:=hpost.out
     clear hpost
     obtain⟨ys,rfl,hE⟩:=hrep
     rw[Bool.false_or] at hr6
     have hE7:=FInP.len hE
     obtain⟨y0,y1,y2,y3,y4,y5,y6,rfl⟩:=seven hE7
     clear hE7
     have hs6:=hf6.size
     have HRw75:=hide hr6
     have HBw75:=hide (HBw7.out.fr hf6 (by rintro (q | q)<;>(have:=Hn.out;omega)))
     have HOw75:=hide (HOw7.out.fr hf6 (by rintro k hk (q | q)<;>(have:=Hn.out;omega)))
     have HDw75:=hide ((hf6.cell (p:=⟨db,0,none⟩) (by simp only;have:=Hn.out;have:=HZw7.out;omega) (by rintro (q | q)<;>(simp only at q;have:=Hn.out;omega))).trans HDw7.out)
     have HZw75:Hid (W.heap.size<=w75.heap.size):=hide (Nat.le_trans HZw7.out hs6)
     have HFw75:=hide (HFw7.out.trans (hf6.mono (Y:=own3 (fun k=>k=fb) g b) fun k _ q=>by rcases q with q | q;exact .inl q;exact .inr (.inl q)))
     have HQ:=hide hq6
     have HEw75:Hid (FInP w75 (fun k=>W.heap.size<=k/\k<w75.heap.size/\(Value.slice Av acc.length cv).ownBlock≠some k) t [y0,y1,y2,y3,y4,y5,y6]):=hide (by
     obtain⟨xs,hown,_⟩:=HOw7.out.row
     exact FInP.move (fun _ _=>rfl) (fun k hk=>⟨by have:=HZw7.out;omega,hk.2,zBu hown k hk.1⟩) hE)
     have HZs:=hide hs6
     have HZLw75:=hide ((HZL.out.fr hf6 (fun k hk=>⟨by have:=HZl.out;omega,by rintro (q | q)<;>(have:=Hn.out;have:=HZl.out;omega),hk⟩):HasP w75 (fun k=>k=wd.heap.size) 7 (some ⟨wd.heap.size,0,none⟩) 1 [.int .i64 0,.string ⟨#[]⟩,.string ⟨#[]⟩,.string ⟨#[]⟩,.string ⟨#[]⟩,.slice none 0 0,.slice none 0 0]))
     clear HZL
     have HZL:=HZLw75
     clear HZLw75
     refine hK2.out _ _ (fun _=>⟨fun _=>HBw75.out.cells 6 _ rfl,fun _=>HDw75.out⟩) ?_
     clear hK2 K hr6 hf6 hq6 hE hs6 HRw7 HBw7 HOw7 HDw7 HFw7
     try simp only[pU]
     refine zAf 8 rfl (by kernel_rfl) (fun K hK2=>?_)
     obtain⟨xs,hown,hrow⟩:=HOw75.out.row
     have hzl:=HZL.out.has (B:=w75.heap.size) (fun k hk=>by have:=HZl.out;have:=HZs.out;omega)
     refine stepA _ 37 39 _ 7 120 Tryz.underlying37 infoF8 rfl (by omega) (by omega) (some 22) rfl rfl (.tmp 15) (.tmp 21) rfl W.heap.size _ acc.length xs rfl hown _ _ 1 1 [.int .i64 0,.string ⟨#[]⟩,.string ⟨#[]⟩,.string ⟨#[]⟩,.string ⟨#[]⟩,.slice none 0 0,.slice none 0 0] rfl hzl (by intro u hu;simp only[List.mem_cons,List.not_mem_nil,or_false] at hu;rcases hu with rfl | rfl | rfl | rfl | rfl | rfl | rfl<;>rfl) (by have:=hM.out.all;omega) HZw75.out ?_
     intro v8 w8 h8 hb8 hg8 ht8
     have hn8:acc.length+1<=20000:=by have:=hM.out.all;omega
     have hZ8:=OwnL.room hown hrow HEw75.out h8 rfl hg8 ht8 hn8
     have hro:∀k,(Value.slice Av acc.length cv).ownBlock=some k->W.heap.size<=k:=fun k hk=>(hown.lt k hk).1
     have hf8:Fr (fun k=>W.heap.size<=k) w75 w8:=Fr.grown hg8 fun k hk=>hro k hk
     have HR8:=hide (HRw75.out.fr hf8 (by have:=Hn.out;omega) (by have:=Hn.out;omega) (fun k h1 h2=>by have:=Hn.out;omega))
     have HB8:=hide (HBw75.out.fr hf8 (by have:=Hn.out;omega))
     have HD8:=hide ((hf8.cell (p:=⟨db,0,none⟩) (by simp only;have:=Hn.out;have:=HZw75.out;omega) (by simp only;have:=Hn.out;omega)).trans HDw75.out)
     have HF8:Hid (Fr (own3 (fun k=>k=fb) g b) W w8):=hide (HFw75.out.trans' hf8 fun k hk q=>by omega)
     have HZs8:Hid (W.heap.size<=w8.heap.size):=hide (Nat.le_trans HZw75.out hf8.size)
     have HZ8:=hide hZ8
     obtain⟨g8,c8_,rfl,hg8a,hg8b,hth⟩:=hZ8.form
     have Hg8:=hide (And.intro hg8a (And.intro hg8b hth))
     refine hK2.out _ _ (fun _=>⟨fun _=>HB8.out.cells 6 _ rfl,fun _=>HD8.out⟩) ?_
     clear hK2 K h8 hb8 hg8 ht8 hZ8 hro hf8 hown hrow hzl hn8 hg8a hg8b hth HRw75 HBw75 HOw75 HDw75 HFw75 HEw75 HZL
     try simp only[pU]
     refine zAe 9 (some 23) (v:=?v2qe49) rfl rfl (by kernel_rfl) rfl (by rfl) (fun Wq=>?y2qe49) ?_
     case y2qe49=>
      have hix:(acc.length:Int)<(acc.length:Int)+1:=by omega
      go_simp<;>with_reducible rfl
     try simp only[pU]
     refine zAe 11 (some 24) rfl rfl (by kernel_rfl) rfl (by rfl) (fun Wq=>by go_simp<;>with_reducible rfl) ?_
     try simp only[pU]
     refine zBp [10,12] (by kernel_rfl) (by simp) ?_
     refine AllZ.cons rfl (fun K hK2=>?_) (AllZ.cons rfl (fun K hK2=>?_) AllZ.nil)
     ·have h1c:∀u∈([y0,y1,y2,y3,y4,y5,y6]:List Value),u.oneCell'=true:=FInP.one HZ8.out.el
      refine zAz w8 none rfl rfl 39 (.tmp 23) (.tmp 19) rfl g8 (acc.length*7) #[y0,y1,y2,y3,y4,y5,y6] rfl rfl Hg8.out.2.2 (by kernel_rfl) (all_oneCell_toArray h1c) ?_
      have hOp:=(HZ8.out).put
      try simp only[List.toList_toArray]
      obtain⟨w10,hw10⟩:∃w10,w8.setCells g8 (acc.length*7) [y0,y1,y2,y3,y4,y5,y6]=w10:=⟨_,rfl⟩
      have hfp:Fr (fun k=>W.heap.size<=k) w8 w10:=by rw[<-hw10];exact Fr.setCells _ _ _ _ Hg8.out.1
      rw[hw10] at hOp ⊢
      have HOp:=hide hOp
      have Hfp:=hide hfp
      refine hK2.out _ _ (fun h=>absurd (by decide) h) ?_
      clear hK2 K h1c hOp hw10 hfp
      have HB10:=hide (HB8.out.fr Hfp.out (by have:=Hn.out;omega))
      try simp only[pU]
      refine zAf 12 rfl (by kernel_rfl) (fun K hK2=>?_)
      have k6:=HB10.out.cells 6 _ rfl
      have z6:=HB10.out.fz
      go_simp
      refine hK2.out _ _ (fun h=>absurd (by decide) h) ?_
      clear hK2 K k6 z6
      try simp only[pU]
      refine zAj (by kernel_rfl) ?_ _
      have hfs:Fr (fun k=>k=fb) w10 (w10.setCell ⟨fb,6,none⟩ (.slice (some ⟨g8,0,none⟩) (acc.length+1) c8_)):=Fr.setCell _ _ _ rfl
      have HBz:Hid (Blk _ fb _):=hide (HB10.out.set 6 (.slice (some ⟨g8,0,none⟩) (acc.length+1) c8_) (by simp))
      have HOz:=hide (HOp.out.fr hfs (fun k hk q=>by have:=Hn.out;omega))
      have hFa:Fr (fun k=>k=fb\/W.heap.size<=k) w8 (w10.setCell ⟨fb,6,none⟩ (.slice (some ⟨g8,0,none⟩) (acc.length+1) c8_)):=(Hfp.out.mono fun _ _ q=>.inr q).trans (hfs.mono fun _ _ q=>.inl q)
      have HRz:=hide (HR8.out.fr hFa (by rintro (q | q)<;>(have:=Hn.out;omega)) (by rintro (q | q)<;>(have:=Hn.out;omega)) (fun k h1 h2=>by rintro (q | q)<;>(have:=Hn.out;omega)))
      have HDz:=hide ((hFa.cell (p:=⟨db,0,none⟩) (by simp only;have:=Hn.out;have:=HZs8.out;omega) (by rintro (q | q)<;>(simp only at q;have:=Hn.out;omega))).trans HD8.out)
      have HFz:Hid (Fr (own3 (fun k=>k=fb) g b) W _):=hide (HF8.out.trans' hFa fun k hk q=>by rcases q with q | q;exact .inr (.inr q);omega)
      have Hst:=hide (hM.out.step (x:=t) (G:=F6) (zBf d) Hne.out (fun x0 F0 h0=>HQ.out rfl x0 F0 h0))
      clear hFa hfs
      go_wp2
      go_roundg (if (Rd.filterR d F').isNone then 0 else F6.length+1)
      case measure=>have h1:=Hst.out.2;have h2:=hK.out;simp only[Bool.false_eq_true,if_false] at h2;omega
      case rel=>exact⟨F6,(Rd.filterR d F').isNone,acc++[t],_,HRz,by simpa using HOz,by simpa using HBz,HFz,HDz,hide Hst.out.1,hide (Nat.le_refl _)⟩
     ·have k6:=HB8.out.cells 6 _ rfl
      have z6:=HB8.out.fz
      go_simp
      obtain⟨w12,hw12⟩:∃w12,w8.setCell ⟨fb,6,none⟩ (.slice (some ⟨g8,0,none⟩) (acc.length+1) c8_)=w12:=⟨_,rfl⟩
      have hfc:Fr (fun k=>k=fb) w8 w12:=by rw[<-hw12];exact Fr.setCell _ _ _ rfl
      have HB12:Hid (Blk w12 fb _):=hide (by rw[<-hw12];exact HB8.out.set 6 (.slice (some ⟨g8,0,none⟩) (acc.length+1) c8_) (by simp))
      rw[hw12]
      have HZ12:=hide (HZ8.out.fr hfc (fun k hk q=>by have:=Hn.out;omega))
      have Hg12:Hid (w12.there g8 (acc.length*7) 7):=hide (by
     obtain⟨g9,c9,e9,_,_,h9⟩:=HZ12.out.form
     cases e9
     exact h9)
      have Hfc:=hide hfc
      clear hw12 hfc
      refine hK2.out _ _ (fun h=>absurd (by decide) h) ?_
      clear hK2 K k6 z6
      try simp only[pU]
      refine zAf 10 rfl (by kernel_rfl) (fun K hK2=>?_)
      have h1c:∀u∈([y0,y1,y2,y3,y4,y5,y6]:List Value),u.oneCell'=true:=FInP.one HZ12.out.el
      refine zAz w12 none rfl rfl 39 (.tmp 23) (.tmp 19) rfl g8 (acc.length*7) #[y0,y1,y2,y3,y4,y5,y6] rfl rfl Hg12.out (by kernel_rfl) (all_oneCell_toArray h1c) ?_
      have hOp:=(HZ12.out).put
      try simp only[List.toList_toArray]
      obtain⟨w10,hw10⟩:∃w10,w12.setCells g8 (acc.length*7) [y0,y1,y2,y3,y4,y5,y6]=w10:=⟨_,rfl⟩
      have hfp:Fr (fun k=>W.heap.size<=k) w12 w10:=by rw[<-hw10];exact Fr.setCells _ _ _ _ Hg8.out.1
      rw[hw10] at hOp ⊢
      have HOp:=hide hOp
      have Hfp:=hide hfp
      refine hK2.out _ _ (fun h=>absurd (by decide) h) ?_
      clear hK2 K h1c hOp hw10 hfp
      try simp only[pU]
      refine zAj (by kernel_rfl) ?_ _
      have HBz:Hid (Blk w10 fb _):=hide (HB12.out.fr Hfp.out (by have:=Hn.out;omega))
      have HOz:=HOp
      have hFa:Fr (fun k=>k=fb\/W.heap.size<=k) w8 w10:=(Hfc.out.mono fun _ _ q=>.inl q).trans (Hfp.out.mono fun _ _ q=>.inr q)
      have HRz:=hide (HR8.out.fr hFa (by rintro (q | q)<;>(have:=Hn.out;omega)) (by rintro (q | q)<;>(have:=Hn.out;omega)) (fun k h1 h2=>by rintro (q | q)<;>(have:=Hn.out;omega)))
      have HDz:=hide ((hFa.cell (p:=⟨db,0,none⟩) (by simp only;have:=Hn.out;have:=HZs8.out;omega) (by rintro (q | q)<;>(simp only at q;have:=Hn.out;omega))).trans HD8.out)
      have HFz:Hid (Fr (own3 (fun k=>k=fb) g b) W _):=hide (HF8.out.trans' hFa fun k hk q=>by rcases q with q | q;exact .inr (.inr q);omega)
      have Hst:=hide (hM.out.step (x:=t) (G:=F6) (zBf d) Hne.out (fun x0 F0 h0=>HQ.out rfl x0 F0 h0))
      clear hFa
      go_wp2
      go_roundg (if (Rd.filterR d F').isNone then 0 else F6.length+1)
      case measure=>have h1:=Hst.out.2;have h2:=hK.out;simp only[Bool.false_eq_true,if_false] at h2;omega
      case rel=>exact⟨F6,(Rd.filterR d F').isNone,acc++[t],_,HRz,by simpa using HOz,by simpa using HBz,HFz,HDz,hide Hst.out.1,hide (Nat.le_refl _)⟩
end Go.Proofs.YtcpjmgfloimfhaaGreat
