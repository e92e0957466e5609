/- Several texts in one: DFewC, DFewX, DChgL, DLawA, DLawB, BulkC. By an AI agent. -/
import Derived.Test.YtadlmhclpaifoaaGreatDoorDV
import Derived.Test.YtadlmhclpaifoaaGreatDoorEY
import Derived.Test.YtadlmhclpaifoaaGreatDoorDM
import Derived.Test.YtadlmhclpaifoaaGreatDoorEX
import Derived.Test.YtadlmhclpaifoaaGreatDoorDY
import Derived.Test.YtadlmhclpaifoaaGreatDoorOpenEnts
import Derived.Test.YtadlmhclpaifoaaGreatDoorOpenChgs
set_option linter.unusedSimpArgs false
set_option linter.unusedVariables false
set_option maxRecDepth 100000
set_option maxHeartbeats 32000000
namespace Go.Proofs.YtadlmhclpaifoaaGreatDoor
open Go Go.RowKit
structure FewR (w wx:World) (v:Value) (zs:List Value) (M:List EN):Prop where
 own:wx.ownsRow w.heap.size 26 2 v M.length zs
 ents:ENsP wx (fun b=>b<wx.heap.size/\some b≠v.ownBlock) zs M
 base:Below w.heap.size w wx
theorem own_old {w:World} {base size n b:Nat} {e:TypeId} {v:Value} {xs:List Value} (h:w.ownsRow base e size v n xs) (hb:b<base):some b≠v.ownBlock:=by
 rcases h.2 with⟨rfl,rfl⟩ | ⟨g,cap,cur,rfl,hg,_⟩
 ·simp [Value.ownBlock]
 ·simp [Value.ownBlock];omega
theorem FewR.grow {w wx w':World} {v:Value} {zs:List Value} {M:List EN} (h:FewR w wx v zs M) (hb:Below wx.heap.size wx w'):FewR w w' v zs M:=
 ⟨zAd h.own hb,h.ents.move (fun p hp=>hb.cell hp.1) fun b hb2=>⟨Nat.lt_of_lt_of_le hb2.1 hb.size,hb2.2⟩,h.base.trans (hb.mono h.base.size)⟩
theorem FewR.snoc {w wr wb w5:World} {v v':Value} {zs:List Value} {M:List EN} (h:FewR w wr v zs M) {a:EA} {V:Option Addr} {cv:Nat} (hV:Has w w.heap.size 1 V a.2.length (strs a.2)) (hc:a.2.length<=cv) (hm:cv<=maxLen)
  (hb:Below wr.heap.size wr wb) (hlt:wr.heap.size<wb.heap.size) (c0:wb.cell? ⟨wr.heap.size,0,none⟩=some (.string (txt a.1))) (c1:wb.cell? ⟨wr.heap.size,1,none⟩=some (.slice V a.2.length cv))
  (hown:w5.ownsRow w.heap.size 26 2 v' (M.length+1) (zs++[.string ⟨#[]⟩,.slice (some ⟨wr.heap.size,0,none⟩) 1 1])) (hb5:Below w.heap.size wb w5) (hg:wb.grownBy w5 v.ownBlock) (ht:v'.ownBlock=v.ownBlock\/v'.ownBlock=some wb.heap.size):
  FewR w w5 v' (zs++[.string ⟨#[]⟩,.slice (some ⟨wr.heap.size,0,none⟩) 1 1]) (M++[([],[a])]):=by
 have hg1:=h.grow hb;have hH:HasP wb (fun b=>b<wb.heap.size/\some b≠v.ownBlock) 2 (some ⟨wr.heap.size,0,none⟩) 1 [.string (txt a.1),.slice V a.2.length cv]:=⟨rfl,.inr ⟨_,rfl,⟨hlt,(zQ9 h.own h.base.size _ (b1:=wb.heap.size) ⟨Nat.le_refl _,hlt⟩).2.2⟩,fun j u hu=>by
  match j,hu with
  | 0,hu=>rw[<-Option.some.inj hu];exact c0
  | 1,hu=>rw[<-Option.some.inj hu];exact c1
  | j+2,hu=>simp at hu⟩⟩
 have hVb:HasP wb (fun b=>b<wb.heap.size/\some b≠v.ownBlock) 1 V a.2.length (strs a.2):=by have h1:HasP w (fun b=>b<w.heap.size) 1 V a.2.length (strs a.2):=hV;exact h1.move (fun p hp=>hg1.base.cell hp) fun b hb2=>⟨Nat.lt_of_lt_of_le hb2 hg1.base.size,own_old h.own hb2⟩
 have hE:EAsP wb (fun b=>b<wb.heap.size/\some b≠v.ownBlock) [.string (txt a.1),.slice V a.2.length cv] [a]:=EAsP.nil.snoc hc hm hVb;have h2:=hg1.ents.snoc (a:=([],[a])) (A:=some ⟨wr.heap.size,0,none⟩) (c:=1) (Nat.le_refl _) (by unfold maxLen;omega) hH hE;refine⟨by rw[List.length_append];exact hown,?_,hg1.base.trans hb5⟩;refine h2.move (fun p hp=>World.cell?_of_block (hg.block _ hp.1 hp.2)) fun b hb2=>⟨Nat.lt_of_lt_of_le hb2.1 hg.size,?_⟩
 rcases ht with ht | ht
 ·rw [ht];exact hb2.2
 ·rw [ht];intro q;injection q with q
  have:=hb2.1;omega
def chE (c:CH):EN:=([],[c.2])
theorem ch_bulk {a:CH} (h:a.2.2.length<=1048576/\∀u∈a.2.2,u.length<=1048576):BulkN (chE a):=
 ⟨by simp[chE],by simp[chE],fun b hb=>by
  obtain rfl:=List.mem_singleton.1 hb
  exact h⟩
structure SmallC (cs:List CH):Prop where
 len:cs.length<=3000
 cnt:cntC cs<=3000
 each:∀a∈cs,a.2.2.length<=3000/\∀u∈a.2.2,u.length<=400000
theorem zSx {cs:List CH} (h:nW (cs.map chE)<=3000):SmallC cs:=by
 have hs:=zK8 h;refine⟨by have:=hs.len;rwa [List.length_map] at this,?_,fun a ha=>?_⟩
 ·refine Nat.le_trans ?_ h;unfold cntC nW;rw[List.map_map];clear h hs
  induction cs with
  | nil=>simp
  | cons c cs ih=>
   simp only[List.map_cons,List.sum_cons];have:c.2.2.length<=(eW ∘ chE) c:=by
    simp only[Function.comp];unfold eW chE aW;simp;omega
   omega
 ·exact hs.each (chE a) (List.mem_map_of_mem ha) a.2 (by simp[chE])
theorem zJy (cs:List CH) (w:World) (C:Option Addr) (m k:Nat) (ys:List Value) (hC:Has w w.heap.size 3 C m ys) (hCs:CHs w w.heap.size ys cs) (hm:m<=1048576) (hcv:∀a∈cs,a.2.2.length<=1048576/\∀u∈a.2.2,u.length<=1048576):
  Calls Tryz.prog 15 #[.slice C m k] w fun e w'=>e=.returned (.bool (decide (nW (cs.map chE)<=3000)))/\Below w.heap.size w w':=by
 obtain⟨b,hb⟩:∃b,decide (nW (cs.map chE)<=3000)=b:=⟨_,rfl⟩;rw[hb];have Hbb:=hide hb;clear hb;have hml:=hC.chs_n hCs;have HC:=hide hC;have HCs:=hide hCs;have Hml:=hide hml;have Hcv:=hide hcv;clear hC hCs hml hcv;go_enter Tryz.func15,Tryz.ntmps15;go_wp2
 go_loopg [3,7] m (fun r s3 s7 wx=>∃(i:Nat) (zs:List Value) (M:List EN),i+r=m/\s7=.int .i64 (i:Int)/\Hid (FewR w wx s3 zs M)/\Hid (M=(cs.take i).map chE))
 case atStart=>exact⟨0,[],[],by omega,rfl,hide ⟨nil_own _ _ _ _,ENsP.nil,Below.refl _ _⟩,hide rfl⟩
 case round=>
  obtain⟨i,zs,M,hig,rfl,hR,hM⟩:=hrel;obtain⟨A,cc,rfl,_,hA⟩:=zAh hR.out.own;cases gk with
  | zero=>
   obtain rfl:i=m:=by omega
   have hiz:¬((i:Int)<(i:Int)):=by omega
   have hMl:M.length=i:=by rw[hM.out,List.length_map,List.length_take,Hml.out];exact Nat.min_self _
   have hMe:M=cs.map chE:=by rw[hM.out,List.take_of_length_le (by rw[Hml.out];exact Nat.le_refl _)]
   have hS:=zG2 M wr A M.length cc zs hA (hR.out.ents.ens fun b hb=>hb.1) (by omega) (fun e he=>by
    rw[hMe] at he
    obtain⟨a,ha,rfl⟩:=List.mem_map.1 he
    exact ch_bulk (Hcv.out a ha))
   rw[hMe,Hbb.out,<-hMe,hMl] at hS;have HS:=hide hS;have HB:=hide hR.out.base;rw[hMl];clear hS hA hR hMl hMe;go_wp2_with (go_at_call 25;fail);refine HS.out.mono ?_;rintro e w2 ⟨rfl,hw2⟩;obtain rfl:=hw2.symm;clear hw2 HS;go_wp2;go_ret;exact⟨rfl,HB.out⟩
  | succ r=>
   have hi:i<m:=by omega
   have hiz:(i:Int)<(m:Int):=by omega
   obtain⟨a,ha⟩:∃a,cs[i]?=some a:=⟨_,List.getElem?_eq_getElem (by rw[<-Hml.out];exact hi)⟩;have ham:=List.mem_of_getElem? ha;obtain⟨g,o,hCe,hg,hat⟩:=HC.out.ch HCs.out (fun h=>by rw[h] at ha;simp at ha);obtain⟨V,cv,hat⟩:=hat i a ha;have hCe2:=hide hCe;subst hCe;have hat2:=hat.below hg hR.out.base;have e1:=hat2.e1;have e2:=hat2.e2;have e3:wr.cell? ⟨g,o+i*3+1+1,none⟩=some (.slice V a.2.2.length cv):=hat2.e2;obtain⟨TA,hTA⟩:∃S,txt a.2.1=S:=⟨_,rfl⟩;rw[hTA] at e1;have Hat:=hide hat;have Hch:=hide (show (cs.take (i+1)).map chE=(cs.take i).map chE++[([],[a.2])] by rw[List.take_add_one,ha,List.map_append];rfl);obtain⟨kv,hkv⟩:∃kv,a.2.2.length=kv:=⟨_,rfl⟩;rw[hkv] at e2 e3;have hbA:=below1 wr (.cells #[.string TA,.slice V kv cv] 41);have hXA:=BoxE.new wr TA V kv cv 41;obtain⟨wa,hwa⟩:∃wa,wr.alloc (.cells #[.string TA,.slice V kv cv] 41)=wa:=⟨_,rfl⟩;rw[hwa] at hbA hXA;have hbB:=below1 wa (.cells #[.string ⟨#[]⟩,.slice (some ⟨wr.heap.size,0,none⟩) 1 1] 26);have hlit:=litY wa (.string ⟨#[]⟩) (.slice (some ⟨wr.heap.size,0,none⟩) 1 1) 26 rfl rfl;have hH:=Has.own hlit;have hsz:wa.heap.size=wr.heap.size+1:=by rw[<-hwa];simp
   rw[hsz] at hH;have hbb:=hbA.trans (hbB.mono hbA.size);have hown:=zAd hR.out.own hbb;have hs4:w.heap.size<=_:=Nat.le_trans hR.out.base.size hbb.size;have h1c:∀u∈[Value.string ⟨#[]⟩,Value.slice (some ⟨wr.heap.size,0,none⟩) 1 1],u.oneCell'=true:=by simp[Value.oneCell']
   have hai:M.length+1<=2000000:=by rw[hM.out,List.length_map,List.length_take];omega
   have hcB:=hXA.grow hbB;have HF:=hide (And.intro hbb (And.intro (show wr.heap.size<(wa.alloc (.cells #[.string ⟨#[]⟩,.slice (some ⟨wr.heap.size,0,none⟩) 1 1] 26)).heap.size from hcB.lt) (And.intro hcB.c0 hcB.c1)));have HTA:=hide hTA;have Hkv:=hide hkv;subst hwa;clear hsz hat hat2 hbA hXA hbB hlit hbb hcB ha ham hA hTA hkv;go_wp2_with (at_builtin;go_must (refine appN _ 49 26 _ 2 40 Tryz.underlying49 infoEN rfl (by omega) (by omega) rfl (.tmp 10) (.tmp 18) rfl w.heap.size _ M.length zs rfl hown _ _ 1 1 [.string ⟨#[]⟩,.slice (some ⟨wr.heap.size,0,none⟩) 1 1] rfl hH h1c hai hs4 ?_));intro v5 w5 hown5 hb5 hg5 ht5;obtain⟨hbb,hlt,hc0,hc1⟩:=HF.out;have hc0:=hc0.trans (show some (Value.string TA)=some (.string (txt a.2.1)) by rw[HTA.out]);have hc1:=hc1.trans (show some (Value.slice V kv cv)=some (.slice V a.2.2.length cv) by rw[Hkv.out]);have HR5:=hide (hR.out.snoc Hat.out.has Hat.out.cap Hat.out.most hbb hlt hc0 hc1 hown5 hb5 hg5 (by simpa using ht5));have HM5:Hid (M++[(([],[a.2]):EN)]=(cs.take (i+1)).map chE):=hide (by rw[Hch.out,hM.out]);clear hbb hlt hc0 hc1 hown5 hb5 hg5 ht5 hown hH h1c hs4 hR hM e1 e2 e3 HF;go_wp2
   go_roundg r
   case measure=>omega
   case rel=>exact⟨i+1,_,_,by omega,by go_num,HR5,HM5⟩
theorem CHs.one {w:World} {B:Nat} {op:Int} {a:EA} {V:Option Addr} {c:Nat} (hV:Has w B 1 V a.2.length (strs a.2)) (hc:a.2.length<=c) (hm:c<=maxLen):CHs w B [.int .i64 op,.string (txt a.1),.slice V a.2.length c] [(op,a)]:=
 ⟨rfl,fun i x hx=>by
  match i,hx with
  | 0,hx=>
   obtain rfl:=Option.some.inj hx
   exact⟨V,c,rfl,rfl,rfl,hc,hm,hV⟩
  | i+1,hx=>simp at hx⟩
theorem CHs.append {w:World} {B:Nat} {xs ys:List Value} {L M:List CH} (h:CHs w B xs L) (k:CHs w B ys M):CHs w B (xs++ys) (L++M):=by
 have hl:=h.len;refine⟨by rw[List.length_append,List.length_append,h.len,k.len];omega,fun i x hx=>?_⟩;by_cases hi:i<L.length
 ·rw [List.getElem?_append_left hi] at hx;obtain⟨A,c,h1,h2,h3,h4⟩:=h.each i x hx;exact⟨A,c,by rw[List.getElem?_append_left (by omega)];exact h1,by rw[List.getElem?_append_left (by omega)];exact h2,by rw[List.getElem?_append_left (by omega)];exact h3,h4⟩
 ·rw [List.getElem?_append_right (by omega)] at hx;obtain⟨A,c,h1,h2,h3,h4⟩:=k.each _ x hx;refine⟨A,c,?_,?_,?_,h4⟩
  ·rw [List.getElem?_append_right (by omega),hl,show i*3-L.length*3=(i-L.length)*3 by omega];exact h1
  ·rw [List.getElem?_append_right (by omega),hl,show i*3+1-L.length*3=(i-L.length)*3+1 by omega];exact h2
  ·rw [List.getElem?_append_right (by omega),hl,show i*3+2-L.length*3=(i-L.length)*3+2 by omega];exact h3
theorem cntC_app (L M:List CH):cntC (L++M)=cntC L+cntC M:=by
 unfold cntC;rw[List.map_append,List.sum_append]
theorem zAs {xs:List Value} {w:World} {B:Nat} {L:List CH} (h:CHs w B xs L):∀u∈xs,u.oneCell'=true:=by
 intro u hu;obtain⟨j,hj,rfl⟩:=List.mem_iff_getElem.1 hu;have hl:=h.len;obtain⟨a,ha⟩:∃a,L[j/3]?=some a:=⟨_,List.getElem?_eq_getElem (by omega)⟩;obtain⟨A,c,h1,h2,h3,_⟩:=h.each _ a ha;have hg:=List.getElem?_eq_getElem hj;have hm:j % 3=0\/j % 3=1\/j % 3=2:=by omega
 rcases hm with e | e | e
 ·rw [show j/3*3=j by omega,hg] at h1;rw[Option.some.inj h1];rfl
 ·rw [show j/3*3+1=j by omega,hg] at h2;rw[Option.some.inj h2];rfl
 ·rw [show j/3*3+2=j by omega,hg] at h3;rw[Option.some.inj h3];rfl
theorem infoC:(Tryz.prog.info? 43).map (fun i=>(i.zero,i.size,i.bytes))=some (some (.agg #[.int .i64 0,.string .empty,.slice none 0 0]),3,48):=by kernel_rfl
open Go Go.RowKit Go.Proofs.YtadlmhclpaifoaaGreatDoor.Opens
theorem zHk {n v:List UInt8} (h:(valV n v).2=0):v.length<=200:=by
 cases vway n v with
 | other _ e=>
  rw[e] at h;unfold norm at h;split at h
  ·simp at h
  ·split at h
   ·simp at h
   ·split at h
    ·simp at h
    ·rename_i hn;omega
 | short _ hv e=>omega
 | long _ _ hw e=>rw[e] at h;simp at h
 | none _ _ hw _ e=>omega
 | name _ _ hw _ _ e=>omega
theorem zF6 {nm:List UInt8} {L:List EA} (h:FormedE nm L):L.length<=14/\nm.length<=1000/\∀a∈L,a.2.length<=1000000/\∀u∈a.2,u.length<=1000000:=by
 have hl:=h.loose;have hn:=(zCc (l:=nm) (by rw[hl.norm])).2;rw[hl.norm] at hn;refine⟨hl.attrs.le,hn,fun a ha=>?_⟩;have hf:=hl.attrs.each a ha;exact⟨by have:=hf.hi;omega,fun u hu=>by have:=zHk (hf.ok u hu);omega⟩
theorem cnt_w (L:List EA):cntE L<=(L.map aW).sum:=by
 unfold cntE
 induction L with
 | nil=>simp
 | cons a L ih=>
  simp only[List.map_cons,List.sum_cons];unfold aW;unfold aW at ih;omega
theorem zAm (w:World) (hT:TM w):Calls Tryz.prog 9 #[] w fun e w'=>e=.returned (.bool true)/\Below w.heap.size w w':=by
 have hb1:=below1 w (.cells #[.string ⟨#[65]⟩] 9);have hX1:Blk (w.alloc (.cells #[.string ⟨#[65]⟩] 9)) w.heap.size [.string ⟨#[65]⟩]:=Blk.new w [.string ⟨#[65]⟩] 9;obtain⟨w1,hw1⟩:∃w1,w.alloc (.cells #[.string ⟨#[65]⟩] 9)=w1:=⟨_,rfl⟩;have hs1:w1.heap.size=w.heap.size+1:=by rw[<-hw1];simp
 rw[hw1] at hb1 hX1;have hb2:=below1 w1 (.cells #[.string ⟨#[112,101,114,115,111,110]⟩] 9);have hX2:Blk (w1.alloc (.cells #[.string ⟨#[112,101,114,115,111,110]⟩] 9)) w1.heap.size [.string ⟨#[112,101,114,115,111,110]⟩]:=Blk.new w1 [.string ⟨#[112,101,114,115,111,110]⟩] 9;obtain⟨w2,hw2⟩:∃w2,w1.alloc (.cells #[.string ⟨#[112,101,114,115,111,110]⟩] 9)=w2:=⟨_,rfl⟩;have hs2:w2.heap.size=w.heap.size+2:=by rw[<-hw2];simp[hs1]
 rw[hw2] at hb2 hX2;rw[hs1] at hX2;obtain⟨us,hus⟩:∃us:List Value,[.string ⟨#[99,110]⟩,.slice (some ⟨w.heap.size,0,none⟩) 1 1,.string ⟨#[111,98,106,101,99,116,99,108,97,115,115]⟩,.slice (some ⟨w.heap.size+1,0,none⟩) 1 1]=us:=⟨_,rfl⟩;have hb3:=below1 w2 (.cells us.toArray 41);have hX3:Blk (w2.alloc (.cells us.toArray 41)) w2.heap.size us:=Blk.new w2 us 41;obtain⟨w3,hw3⟩:∃w3,w2.alloc (.cells us.toArray 41)=w3:=⟨_,rfl⟩;rw[hw3] at hb3 hX3;rw[hs2] at hX3;have hY1:=(hX1.grow hb2).grow hb3;have hY2:=hX2.grow hb3;have hbb:Below w.heap.size w w3:=(hb1.trans (hb2.mono (by omega))).trans (hb3.mono (by omega));have blkH:∀{w:World} {h:Nat} {us:List Value} (t:Blk w h us) (size n:Nat) (hl:us.length=n*size),Has w w.heap.size size (some ⟨h,0,none⟩) n us:=fun {w h us} t size n hl=>⟨hl,.inr ⟨_,rfl,t.lt,fun j u hu=>by
  have:=t.cells j u hu
  rwa [show (⟨h,0,none⟩:Addr).add j=⟨h,j,none⟩ by unfold Addr.add;split<;>simp_all]⟩⟩
 have h1:=blkH hY1 1 1 rfl;have h2:=blkH hY2 1 1 rfl;have h3:=blkH hX3 2 2 (by rw[<-hus];rfl);have hE:EAs w3 w3.heap.size us awA:=by
  rw[<-hus];refine⟨rfl,fun i a ha=>?_⟩
  match i,ha with
  | 0,ha=>obtain rfl:=Option.some.inj ha;exact⟨_,1,rfl,rfl,by decide,by unfold maxLen;omega,h1⟩
  | 1,ha=>obtain rfl:=Option.some.inj ha;exact⟨_,1,rfl,rfl,by decide,by unfold maxLen;omega,h2⟩
  | k+2,ha=>cases ha
 have hM:=zUd awN awA w3 _ 2 2 us h3 hE (hT.below hbb) (by decide) (by decide) (fun a ha=>by
  rcases List.mem_cons.1 ha with rfl | ha
  ·decide
  ·obtain rfl:=List.mem_singleton.1 ha;decide) (fun a ha v hv=>by
  rcases List.mem_cons.1 ha with rfl | ha
  ·obtain rfl:=List.mem_singleton.1 hv;decide
  ·obtain rfl:=List.mem_singleton.1 ha
   obtain rfl:=List.mem_singleton.1 hv
   decide) (by decide)
 have hfm:FormedE awM awB:=by
  rcases zMx awN awA with h | h
  ·rw [zOb] at h;exact h.2
  ·rw [zOb] at h;exact absurd rfl h.1
 rw[zOb] at hM;change Calls Tryz.prog 11 #[.string ⟨#[67,78,61,97,44,100,99,61,120]⟩,.slice (some ⟨w.heap.size+2,0,none⟩) 2 2] w3 (MadePost awM awB 0 w3) at hM;have hF:∀(w:World) (A:Option Addr) (c:Nat) (xs:List Value),Has w w.heap.size 2 A 2 xs->EAs w w.heap.size xs awB->TM w->Calls Tryz.prog 14 #[.agg #[.string (txt awM),.slice A 2 c]] w fun e w'=>e=.returned (.bool true)/\Below w.heap.size w w':=fun w A c xs hA hL hT=>by
  have hsm:=zF6 hfm;have:=zDk awM awB w A 2 c xs hA hL (by decide) (by omega) hsm.2.2 hT;rw[zAn hfm] at this;exact this
 have q:((txt awM).toList==[99,110,61,97,44,100,99,61,120])=true:=by rw[zAe];decide
 have hTw:=hT.below hbb;subst hus;have HM:=hide hM;have HF:=hide hF;have HB:=hide hbb;have HTw:=hide hTw;have Hw:=hide (And.intro hw1 (And.intro hw2 hw3));have Hs:=hide (And.intro hs1 hs2);clear hM hF hbb hE h1 h2 h3 hY1 hY2 hX1 hX2 hX3 hb1 hb2 hb3 hw1 hw2 hw3 hs1 hs2 hT hfm hTw blkH;generalize hMN:txt awM=MN at *;have HMN:=hide hMN;clear hMN;go_enter Tryz.func9,Tryz.ntmps9;go_wp2_with (go_at_call 11;fail);rw[Hw.out.1];(try rw[Hs.out.1]);rw[Hw.out.2.1];(try rw[Hs.out.2]);rw[Hw.out.2.2];refine HM.out.mono ?_;rintro e w5 hpost;obtain⟨A5,c5,ys5,rfl,_,_,hh5,he5,hb5⟩:=hpost.out;rw[HMN.out];have hl:awB.length=2:=rfl;rw[hl] at hh5 ⊢;have h5:=hh5.has (B:=w5.heap.size) fun b hb=>hb.2
 have e5:=he5.eas (B:=w5.heap.size) fun b hb=>hb.2
 have HB5:=hTz HB hb5;have HT5:=hide (HTw.out.below hb5);have hbx:=below1 w5 (.cells #[.string MN,.slice A5 2 c5] 26);have hX:=BoxE.new w5 MN A5 2 c5 26;have x0:=hX.c0;have x1:=hX.c1;have HFc:=hide (HF.out _ A5 c5 ys5 ((h5.below hbx).upto hbx.size) (e5.grow hbx) (HT5.out.below hbx));have HB6:=hTz HB5 hbx;clear hpost hh5 he5 hb5 h5 e5 HB5 HT5 hbx hX HM HF HB HTw Hw Hs hl;go_wp2_with (go_at_call 14;fail);refine HFc.out.mono ?_;rintro e w7 ⟨rfl,hb7⟩;have HB7:=hTz HB6 hb7;clear hb7 HFc HB6 x0 x1;go_wp2;go_ret;exact⟨rfl,HB7.out⟩
theorem zKl (s:List UInt8) (L:List EA) (w:World) (A:Option Addr) (c:Nat) (xs:List Value) (hA:Has w w.heap.size 2 A 1 xs) (hL:ENs w w.heap.size xs [(s,L)]) (hb:BulkN (s,L)) (k:Nat):
  Calls Tryz.prog 10 #[.slice A 1 c] w fun e w'=>e=.returned (.bool (decide (nW [(s,L)]<=3000)))/\w'=w:=by
 have hS:=zG2 [(s,L)] w A 1 c xs hA hL (by omega) (fun e he=>by obtain rfl:=List.mem_singleton.1 he;exact hb);generalize decide (nW [(s,L)]<=3000)=b at *;have HS:=hide hS;clear hS hA hL hb;go_enter Tryz.func10,Tryz.ntmps10;go_wp2_with (go_at_call 25;fail);refine HS.out.mono ?_;rintro e w2 ⟨rfl,hw2⟩;obtain rfl:=hw2.symm;clear hw2 HS;go_wp2;go_ret;exact⟨rfl,rfl⟩
structure LW (w0 w:World):Prop where
 base:Below w0.heap.size w0 w
 tm:TM w
theorem LW.grow {w0 w w':World} (h:LW w0 w) (hb:Below w.heap.size w w'):LW w0 w':=⟨h.base.trans (hb.mono h.base.size),h.tm.below hb⟩
structure TB (w:World) (q:Nat) (S:ByteArray) (A:Option Addr) (n c:Nat) (xs:List Value) (L:List EA):Prop where
 box:BoxE w q S A n c
 has:Has w w.heap.size 2 A n xs
 attrs:EAs w w.heap.size xs L
theorem TB.grow {w w':World} {q:Nat} {S:ByteArray} {A:Option Addr} {n c:Nat} {xs:List Value} {L:List EA} (h:TB w q S A n c xs L) (hb:Below w.heap.size w w'):TB w' q S A n c xs L:=
 ⟨h.box.grow hb,(h.has.below hb).upto hb.size,h.attrs.grow hb⟩
structure CV (w:World) (C:Option Addr) (m:Nat) (ys:List Value) (cs:List CH):Prop where
 has:Has w w.heap.size 3 C m ys
 chs:CHs w w.heap.size ys cs
theorem CV.grow {w w':World} {C:Option Addr} {m:Nat} {ys:List Value} {cs:List CH} (h:CV w C m ys cs) (hb:Below w.heap.size w w'):CV w' C m ys cs:=
 ⟨(h.has.below hb).upto hb.size,h.chs.grow hb⟩
structure OffT (w:World) (h:Nat) (A:Option Addr) (n:Nat) (ys:List Value) (L:List EA):Prop where
 has:HasP w (fun b=>b<w.heap.size/\b≠h) 2 A n ys
 attrs:EAsP w (fun b=>b<w.heap.size/\b≠h) ys L
section
variable {w w':World} {h lo n:Nat} {A:Option Addr} {ys:List Value} {L:List EA}
theorem OffT.late (h1:HasP w (NewB lo w.heap.size) 2 A n ys) (h2:EAsP w (NewB lo w.heap.size) ys L) (hl:h<lo):OffT w h A n ys L:=
 ⟨h1.move (fun p _=>rfl) fun b hb=>⟨hb.2,by have:=hb.1;omega⟩,h2.move (fun p _=>rfl) fun b hb=>⟨hb.2,by have:=hb.1;omega⟩⟩
theorem OffT.early (h1:HasP w (NewB lo w.heap.size) 2 A n ys) (h2:EAsP w (NewB lo w.heap.size) ys L) (hb:Below w.heap.size w w'):OffT w' w.heap.size A n ys L:=
 ⟨h1.move (fun p hp=>hb.cell hp.2) fun b hb2=>⟨Nat.lt_of_lt_of_le hb2.2 hb.size,by have:=hb2.2;omega⟩,h2.move (fun p hp=>hb.cell hp.2) fun b hb2=>⟨Nat.lt_of_lt_of_le hb2.2 hb.size,by have:=hb2.2;omega⟩⟩
theorem OffT.put (t:OffT w h A n ys L) (us:List Value):OffT (w.setCells h 0 us) h A n ys L:=by
 have hg:=zA4 h us 0 w;have hc:∀p:Addr,(p.block<w.heap.size/\p.block≠h)->(w.setCells h 0 us).cell? p=w.cell? p:=fun p hp=>World.cell?_of_block (hg.block _ hp.1 (fun e=>hp.2 (Option.some.inj e)))
 exact⟨t.has.move hc fun b hb=>⟨Nat.lt_of_lt_of_le hb.1 hg.size,hb.2⟩,t.attrs.move hc fun b hb=>⟨Nat.lt_of_lt_of_le hb.1 hg.size,hb.2⟩⟩
theorem OffT.box {us:List Value} {S:ByteArray} {c:Nat} (t:OffT w h A n ys L) (hB:Blk w h us) (hl:us.length=2):TB (w.setCells h 0 [.string S,.slice A n c]) h S A n c ys L:=by
 have t2:=t.put [.string S,.slice A n c];have hb:=hB.sets 0 [.string S,.slice A n c] (by simp[hl]) [.string S,.slice A n c] (by simp[hl]);exact⟨⟨hb.lt,hb.cells 0 _ rfl,hb.cells 1 _ rfl⟩,t2.has.has fun b hb2=>hb2.1,t2.attrs.eas fun b hb2=>hb2.1⟩
end
structure FitE (nm:List UInt8) (L:List EA):Prop where
 nm:nm.length<=1000000
 len:L.length<=1000000
 typ:∀a∈L,a.1.length<=1048576
 val:∀a∈L,a.2.length<=1000000/\∀u∈a.2,u.length<=1000000
 cnt:cntE L<=900000
structure FitC (k:Nat) (cs:List CH):Prop where
 len:cs.length<=k
 typ:∀a∈cs,a.2.1.length<=1048576
 val:∀a∈cs,a.2.2.length<=1000000/\∀u∈a.2.2,u.length<=1000000
 cnt:cntC cs<=k
theorem zG1 {s:List UInt8} {L:List EA} (h:nW [(s,L)]<=3000) (ht:∀a∈L,a.1.length<=1048576):FitE s L:=by
 have hsm:=zK8 h;have h1:=hsm.name (s,L) (by simp);have h2:=hsm.attrs (s,L) (by simp);have h3:=hsm.each (s,L) (by simp);simp only at h1 h2 h3;have h4:=cnt_w L;unfold nW eW at h;simp only[List.map_cons,List.map_nil,List.sum_cons,List.sum_nil] at h;exact⟨by omega,by omega,ht,fun a ha=>⟨by have:=(h3 a ha).1;omega,fun u hu=>by have:=(h3 a ha).2 u hu;omega⟩,by omega⟩
theorem zBe {s:List UInt8} {L:List EA} (h:FormedE s L):FitE s L:=by
 have hsm:=zF6 h;refine⟨by omega,by omega,fun a ha=>?_,hsm.2.2,?_⟩
 ·have:=zDx (h.loose.attrs.each a ha).name;omega
 ·have:=zE8 (fun a:EA=>a.2.length) L 20 fun a ha=>(h.loose.attrs.each a ha).hi
  unfold cntE;omega
theorem zNt {cs:List CH} (h:nW (cs.map chE)<=3000) (ht:∀a∈cs,a.2.1.length<=1048576):FitC 3000 cs:=by
 have hs:=zSx h;exact⟨hs.len,ht,fun a ha=>⟨by have:=(hs.each a ha).1;omega,fun u hu=>by have:=(hs.each a ha).2 u hu;omega⟩,hs.cnt⟩
theorem FitC.app {k l:Nat} {cs ds:List CH} (h:FitC k cs) (g:FitC l ds):FitC (k+l) (cs++ds):=
 ⟨by rw[List.length_append];exact Nat.add_le_add h.len g.len,fun a ha=>by
  rcases List.mem_append.1 ha with ha | ha
  ·exact h.typ a ha
  ·exact g.typ a ha,fun a ha=>by
  rcases List.mem_append.1 ha with ha | ha
  ·exact h.val a ha
  ·exact g.val a ha,by rw[cntC_app];exact Nat.add_le_add h.cnt g.cnt⟩
theorem zJ4 {op:Int} {a:EA} {k:Nat} (h1:a.1.length<=1048576) (h2:a.2.length<=k) (hk:1<=k/\k<=1000000) (h3:∀u∈a.2,u.length<=1000000):FitC k [(op,a)]:=
 ⟨by simpa using hk.1,fun b hb=>by obtain rfl:=List.mem_singleton.1 hb;exact h1,fun b hb=>by
  obtain rfl:=List.mem_singleton.1 hb
  exact⟨by simp only;omega,h3⟩,by simpa[cntC] using h2⟩
theorem zB1 {nm X:List UInt8} {L G:List EA} {cs:List CH} {g:Int} {k:Nat} (h:modifyE nm L cs=(X,G,g)) (hE:FitE nm L) (hC:FitC k cs) (hk:k<=90000) (w:World) (A:Option Addr) (n c:Nat) (xs:List Value) (C:Option Addr) (m kk:Nat) (ys:List Value)
  (hA:Has w w.heap.size 2 A n xs) (hL:EAs w w.heap.size xs L) (hcv:CV w C m ys cs) (hT:TM w):
  Calls Tryz.prog 17 #[.agg #[.string (txt nm),.slice A n c],.slice C m kk] w (MadePost X G g w):=by
 have:=zM3 nm L cs w A n c xs hA hL (by rw[hA.eas_n hL];exact hE.len) C m kk ys hcv.has hcv.chs (by rw[hcv.has.chs_n hcv.chs];have:=hC.len;omega) hE.nm hE.typ hE.val hC.typ hC.val (by have:=hE.cnt;have:=hC.cnt;omega) hT
 rwa [h] at this
theorem zIx {N:Nat} {e:EN} (hN:N<=1048576) (h1:e.1.length<=N) (h2:SmE N e.2):BulkN e/\∀a∈e.2,a.1.length<=1048576:=
 ⟨⟨Nat.le_trans h1 hN,Nat.le_trans h2.len hN,fun a ha=>⟨Nat.le_trans (h2.each a ha).vals hN,fun u hu=>Nat.le_trans ((h2.each a ha).each u hu) hN⟩⟩,fun a ha=>Nat.le_trans (h2.each a ha).name hN⟩
theorem zD4 (nm:List UInt8) (G:List EA) (hG:FitE nm G):∀(w:World) (B B':Option Addr) (cB cB':Nat) (zs zs':List Value),Has w w.heap.size 2 B G.length zs->EAs w w.heap.size zs G->Has w w.heap.size 2 B' G.length zs'->EAs w w.heap.size zs' G->Calls Tryz.prog 13 #[.agg #[.string (txt nm),.slice B G.length cB],.agg #[.string (txt nm),.slice B' G.length cB']] w fun e w'=>e=.returned (.bool true)/\Below w.heap.size w w':=fun w B B' cB cB' zs zs' h1 h2 h3 h4=>by
 have hl:=hG.len;have:=zNq (nm,G) (nm,G) w B B' cB cB' zs zs' h1 h2 h3 h4 (by unfold maxLen;simp only;omega) (by unfold maxLen;simp only;omega);rw[zAn rfl] at this;exact this
theorem zI1 (w:World) (op:Int) (name:List UInt8) (vs:List (List UInt8)) (TN:ByteArray) (hN:txt name=TN) (V:Option Addr) (k cv:Nat) (hk:vs.length=k) (hV:Has w w.heap.size 1 V k (strs vs)) (hc:k<=cv) (hm:cv<=maxLen):
  CV (w.alloc (.cells #[.int .i64 op,.string TN,.slice V k cv] 43)) (some ⟨w.heap.size,0,none⟩) 1 [.int .i64 op,.string TN,.slice V k cv] [(op,(name,vs))]:=by
 subst hN hk;have hb:=below1 w (.cells #[.int .i64 op,.string (txt name),.slice V vs.length cv] 43);have hl:(w.alloc (.cells #[.int .i64 op,.string (txt name),.slice V vs.length cv] 43)).ownsRow w.heap.size 43 3 (.slice (some ⟨w.heap.size,0,none⟩) 1 1) 1 [.int .i64 op,.string (txt name),.slice V vs.length cv]:=
  World.ownsRow_lit w #[.int .i64 op,.string (txt name),.slice V vs.length cv] 1 (Nat.le_refl _) (by unfold maxLen;omega) rfl
 exact⟨Has.own hl,CHs.one (a:=(name,vs)) ((hV.below hb).upto hb.size) hc hm⟩
theorem zIa {N:Nat} {cs:List CH} (hN:N<=1048576) (h:SmC N cs):cs.length<=1048576/\∀a∈cs,a.2.1.length<=1048576/\a.2.2.length<=1048576/\∀u∈a.2.2,u.length<=1048576:=
 ⟨Nat.le_trans h.len hN,fun a ha=>⟨Nat.le_trans (h.each a ha).name hN,Nat.le_trans (h.each a ha).vals hN,fun u hu=>Nat.le_trans ((h.each a ha).each u hu) hN⟩⟩
end Go.Proofs.YtadlmhclpaifoaaGreatDoor
