/- slices.Concat of rows of bytes; fields that are laid together. By an AI agent. -/
import Derived.Test.YtcpjmgfloimfhaaGreatM17
set_option linter.unusedSimpArgs false
set_option linter.unusedVariables false
set_option maxRecDepth 100000
set_option maxHeartbeats 16000000
namespace Go.Proofs.YtcpjmgfloimfhaaGreat
open Go.RowKit
structure SLs (w:World) (L:List (List UInt8)) (A:Option Addr) (n:Nat):Prop where
 len:L.length=n
 out:∃xs,Has w w.heap.size 1 A n xs/\∀(i:Nat) (l:List UInt8),L[i]?=some l->∃B c,xs[i]?=some (Value.slice B l.length c)/\Has w w.heap.size 1 B l.length (bys l)
theorem SLs.at_ {w:World} {L:List (List UInt8)} {A:Option Addr} {n:Nat} (h:SLs w L A n) (hn:0<n):∃g o,A=some ⟨g,o,none⟩/\g<w.heap.size/\∀(i:Nat) (l:List UInt8),L[i]?=some l->∃B c,w.cell? ⟨g,o+i,none⟩=some (.slice B l.length c)/\Has w w.heap.size 1 B l.length (bys l):=by
 obtain⟨xs,h1,h2⟩:=h.out
 have hl:=h1.1
 obtain⟨g,o,e,hg,hc⟩:=h1.lies (by omega)
 refine⟨g,o,e,hg,fun i l hi=>?_⟩
 obtain⟨B,c,q1,q2⟩:=h2 i l hi
 exact⟨B,c,hc i _ q1,q2⟩
theorem SLs.two {w:World} {h:Nat} {l m:List UInt8} {A B:Option Addr} {c d:Nat} (hlt:h<w.heap.size) (c0:w.cell? ⟨h,0,none⟩=some (.slice A l.length c)) (c1:w.cell? ⟨h,1,none⟩=some (.slice B m.length d)) (hA:Has w w.heap.size 1 A l.length (bys l)) (hB:Has w w.heap.size 1 B m.length (bys m)):
  SLs w [l,m] (some ⟨h,0,none⟩) 2:=by
 refine⟨rfl,[.slice A l.length c,.slice B m.length d],⟨rfl,.inr ⟨_,rfl,hlt,fun j u hu=>?_⟩⟩,fun i x hi=>?_⟩
 ·have e:(⟨h,0,none⟩:Addr).add j=⟨h,j,none⟩:=by unfold Addr.add;split<;>simp_all
  rw[e]
  match j,hu with
  | 0,hu=>cases hu;exact c0
  | 1,hu=>cases hu;exact c1
 ·match i,hi with
  | 0,hi=>cases hi;exact⟨A,c,rfl,hA⟩
  | 1,hi=>cases hi;exact⟨B,d,rfl,hB⟩
def tot (L:List (List UInt8)):Nat:=L.flatten.length
theorem flat_take {L:List (List UInt8)} {i:Nat} {l:List UInt8} (h:L[i]?=some l):(L.take (i+1)).flatten=(L.take i).flatten++l:=by
 rw[List.take_add_one,h];simp
theorem tot_take (L:List (List UInt8)) (i:Nat):tot (L.take i)<=tot L:=by
 have:L.flatten=(L.take i).flatten++(L.drop i).flatten:=by rw[<-List.flatten_append,List.take_append_drop]
 unfold tot
 rw[this,List.length_append]
 omega
theorem grow8_any (n:Nat) (hn:n<=1073741824) (w:World):
  Calls Tryz.prog 98 #[.slice none 0 0,.int .i64 (n:Int)] w fun e w'=>∃v,e=.returned v/\w'.ownsRow w.heap.size 5 1 v 0 (bys [])/\Below w.heap.size w w':=by
 by_cases h0:n=0
 ·subst h0
  go_enter Tryz.func98,Tryz.ntmps98
  go_wp2
  go_ret
  exact⟨_,rfl,World.ownsRow_nil _ _ _ _,Below.refl _ _⟩
 ·have z0:¬((n:Int)<0):=by omega
  have z1:((0:Int)<(n:Int)):=by omega
  obtain⟨i0,hi,hz0,hz1,hz2⟩:=info_parts info8
  have happ:=Lib.run_append_nil_zeros (P:=Tryz.prog) w 33 3 33 5 i0 (.int .u8 0) .i64 .i64 Tryz.underlying33 Tryz.underlying3 hi hz0 n (by omega) (by omega) (by omega) (by rw[hz2];omega)
  generalize hcap:grownCap w n 0 5=cap2 at happ
  have hcapge:n<=cap2:=by rw[<-hcap];exact grownCap_ge w _ 0 5
  have hcaple:cap2<=maxLen:=by rw[<-hcap];exact grownCap_le_maxLen w _ 0 5 (by unfold maxLen;omega)
  generalize hZ:(Builtin.zeroCells (Value.int .u8 0).cells n++Builtin.zeroCells (Value.int .u8 0).cells (cap2-n))=Z at happ
  have hZs:Z.size=cap2:=by rw[<-hZ];simp[size_zeroCells,Value.cells];omega
  have hown:(w.drew.alloc (.cells Z 5)).ownsRow w.heap.size 5 1 (.slice (some ⟨w.heap.size,0,none⟩) 0 cap2) 0 (bys []):=
   ⟨rfl,.inr ⟨w.heap.size,cap2,Z,rfl,Nat.le_refl _,heap_alloc_new w.drew _,Nat.zero_le _,hcaple,by omega,by simp[bys]⟩⟩
  have hb:Below w.heap.size w (w.drew.alloc (.cells Z 5)):=((Below.refl _ _).drew).alloc (Nat.le_refl _) _
  have Hown:=hide hown
  have Hb:=hide hb
  have hcm:(cap2:Int)<=9223372036854775807:=by unfold maxLen at hcaple;omega
  clear hcap hZ hZs hown hb hi hz0 hz1 hz2 hcaple
  go_enter Tryz.func98,Tryz.ntmps98
  go_wp2_with (at_builtin;refine Lib.wpList_append_run _ rfl _ _ _ _ rfl _ _ rfl rfl _ _ happ ?_)
  go_wp2
  go_ret
  exact⟨_,rfl,Hown.out,Hb.out⟩
theorem zA9 (w:World) (A:Option Addr) (n c:Nat) (L:List (List UInt8)) (hS:SLs w L A n) (hn:n<=1000) (ht:tot L<=1073741824):
  Calls Tryz.prog 60 #[.slice A n c] w (WPost L.flatten w):=by
 have HS:=hide hS
 have Hlen:=hide hS.len
 have HT:=hide ht
 have hG:=grow8_any (tot L) ht w
 have HG:=hide hG
 clear hS ht hG
 go_enter Tryz.func60,Tryz.ntmps60
 go_wp2
 go_loopg [3,11] n (fun k s3 s11 wx=>∃i m:Nat,i+k=n/\s11=.int .i64 (i:Int)/\s3=.int .i64 (m:Int)/\Hid (tot (L.take i)=m)/\wx=w)
 case atStart=>exact⟨0,0,by omega,rfl,rfl,hide rfl,rfl⟩
 case round=>
  obtain⟨i,m,hig,rfl,rfl,hm,hw0⟩:=hrel
  obtain rfl:=hw0.symm
  clear hw0
  cases gk with
  | succ r=>
   have hin:i<n:=by omega
   have hiz:(i:Int)<(n:Int):=by omega
   obtain⟨g,o,rfl,hg,hat⟩:=HS.out.at_ (by omega)
   obtain⟨l,hl⟩:∃l,L[i]?=some l:=⟨_,List.getElem?_eq_getElem (by rw[Hlen.out];exact hin)⟩
   obtain⟨B,cc,k1,_⟩:=hat i l hl
   have hmm:tot (L.take (i+1))=m+l.length:=by unfold tot;rw[flat_take hl,List.length_append];have:=hm.out;unfold tot at this;omega
   have hle:m+l.length<=1073741824:=by have:=tot_take L (i+1);have:=HT.out;omega
   obtain⟨d,hd⟩:∃d,l.length=d:=⟨_,rfl⟩
   rw[hd] at k1 hmm hle
   have z0:¬((m:Int)+(d:Int)<0):=by omega
   have Hmm:=hide hmm
   clear hat hl hmm hm HS HG HT Hlen hd
   go_wp2
   go_roundg r
   case measure=>omega
   case rel=>exact⟨i+1,m+d,by omega,by go_num,by go_num,Hmm,rfl⟩
  | zero=>
   obtain rfl:i=n:=by omega
   have hjz:¬((i:Int)<(i:Int)):=by omega
   have hmt:m=tot L:=by have:=hm.out;rw[List.take_of_length_le (by rw[Hlen.out];exact Nat.le_refl _)] at this;exact this.symm
   subst hmt
   clear hm
   obtain⟨t,htt⟩:∃t,tot L=t:=⟨_,rfl⟩
   rw[htt] at HG HT
   have Htt:=hide htt
   rw[htt]
   clear htt
   go_wp2_with (go_at_call 98;fail)
   refine HG.out.mono ?_
   rintro e w1 ⟨v1,rfl,hown,hb1⟩
   have HB1:=hide hb1
   clear HG hb1
   go_wp2
   go_loopg [6,27] i (fun k s6 s27 wx=>∃j:Nat,∃acc:List UInt8,j+k=i/\s27=.int .i64 (j:Int)/\Hid ((L.take j).flatten=acc)/\Hid (wx.ownsRow w.heap.size 5 1 s6 acc.length (bys acc))/\Hid (Below w.heap.size w wx))
   case atStart=>exact⟨0,[],by omega,rfl,hide rfl,hide hown,HB1⟩
   case round=>
    obtain⟨j,acc,hjg,rfl,hacc,hor,hB1⟩:=hrel
    clear hown HB1
    cases gk with
    | succ r=>
     have hjn:j<i:=by omega
     have hjz2:(j:Int)<(i:Int):=by omega
     obtain⟨g,o,hAe,hg,hat⟩:=HS.out.at_ (by omega)
     subst hAe
     obtain⟨l,hl⟩:∃l,L[j]?=some l:=⟨_,List.getElem?_eq_getElem (by rw[Hlen.out];exact hjn)⟩
     obtain⟨B,cc,k1,hB⟩:=hat j l hl
     have k2:=(hB1.out.cell (p:=⟨g,o+j,none⟩) hg).trans k1
     have hB2:=hB.below hB1.out
     have hs1:=hB1.out.size
     have hf:=flat_take hl
     rw[hacc.out] at hf
     have hle:(acc++l).length<=1073741824:=by have:=tot_take L (j+1);unfold tot at this;rw[hf] at this;have:=HT.out;have:=Htt.out;unfold tot at *;omega
     obtain⟨ys,hys⟩:∃ys,acc++l=ys:=⟨_,rfl⟩
     rw[hys] at hf hle
     have hyl:acc.length+l.length=ys.length:=by rw[<-hys,List.length_append]
     obtain⟨a,ha⟩:∃a,acc.length=a:=⟨_,rfl⟩
     obtain⟨d,hd⟩:∃d,l.length=d:=⟨_,rfl⟩
     rw[hd] at k1 k2 hB2
     rw[ha,hd] at hyl
     have hor2:=hor.out
     rw[ha] at hor2
     have Hys:=hide hys
     have Hyl:=hide hyl
     have Hf:=hide hf
     clear hat hl hacc hor hB hf HS HT Htt Hlen hys k1 ha hd
     go_wp2_with (at_builtin;go_must (refine app8g _ rfl (.tmp 31) (.tmp 32) rfl w.heap.size _ a acc rfl hor2 _ _ d cc l rfl hB2 ys Hys Hyl (by omega) hs1 ?_))
     intro v' w6 hor6 hb6 _
     have hB6:=hide (hB1.out.trans hb6)
     have Hor6:=hide hor6
     clear hor2 hor6 hb6 hB2 hs1 hB1 k2
     go_wp2
     go_roundg r
     case measure=>omega
     case rel=>exact⟨j+1,ys,by omega,by go_num,Hf,Hor6,hB6⟩
    | zero=>
     obtain rfl:j=i:=by omega
     have hjz3:¬((j:Int)<(j:Int)):=by omega
     have hfin:L.flatten=acc:=by rw[<-hacc.out,List.take_of_length_le (by rw[Hlen.out];exact Nat.le_refl _)]
     have Hfin:=hide hfin
     clear HS HT Htt Hlen hacc hfin
     go_wp2
     go_ret
     exact⟨⟨_,rfl,by rw[Hfin.out];exact hor.out,hB1.out⟩⟩
end Go.Proofs.YtcpjmgfloimfhaaGreat
