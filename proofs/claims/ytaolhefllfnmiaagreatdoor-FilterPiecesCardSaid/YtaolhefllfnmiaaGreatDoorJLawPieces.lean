/- The walk of FilterPieces: whatever the pieces, true. By an AI agent. -/
import Derived.Test.YtaolhefllfnmiaaGreatDoorJW
import Derived.Test.YtaolhefllfnmiaaGreatDoorHX
set_option maxRecDepth 100000
set_option maxHeartbeats 64000000
namespace Go.Proofs.YtaolhefllfnmiaaGreatDoor
open Go.RowKit
set_option linter.unusedVariables false
def upL:List UInt8:=[117,115,101,114,80,97,115,115,119,111,114,100]
theorem up_typ:(typ upL).2=2:=by decide
theorem up_norm {s:List UInt8} (h1:1≤s.length) (h2:s.length≤200):norm upL s=(s,0):=by
 unfold norm
 rw[up_typ,if_neg (by decide),if_neg (by decide),if_neg ?_,if_neg (by decide)]
 rintro (h | h | h)
 ·omega
 ·omega
 ·exact h ⟨fun h=>absurd h (by decide),fun h=>absurd h (by decide),fun h=>absurd h (by decide)⟩
theorem up_eval {f l ms:List UInt8} {any:List (List UInt8)} (hf:FT.formed (.mk 4 upL [] f l any [])=true) (hfit:FitsAt (f++ms) f.length any) (h1:1≤(f++ms++l).length) (h2:(f++ms++l).length≤200):
  FT.evalV [(upL,[[],f++ms++l])] (.mk 4 upL [] f l any [])=1:=by
 unfold FT.evalV
 rw[hf,if_pos rfl]
 have e1:FT.evalT [(upL,[[],f++ms++l])] (.mk 4 upL [] f l any [])=oneV [(upL,[[],f++ms++l])] 4 upL [] f l any:=by
  rw[FT.evalT]
  unfold combV
  rw[if_neg (by decide),if_neg (by decide)]
 rw[e1]
 unfold oneV
 have hv:valsV [(upL,[[],f++ms++l])] upL=[[],f++ms++l]:=by unfold valsV;simp
 rw[up_typ,hv,if_neg (by decide),if_neg (by decide),if_pos rfl,if_neg (by decide)]
 have hp:pieceV upL f l any 2 (f++ms++l)=true:=by
  unfold pieceV
  rw[up_norm h1 h2,show ((2:Int)==1)=false from rfl,fits_pieces hfit]
  rfl
 have:([[],f++ms++l].any (pieceV upL f l any 2))=true:=by rw[List.any_eq_true];exact⟨_,by simp,hp⟩
 rw[this];rfl
theorem up_ok {s:List UInt8} (h:s.length≤200):AsOk [(upL,[[],s])]:=by
 refine⟨fun a ha=>?_,fun a ha x hx=>?_,by simp⟩
 ·simp only[List.mem_singleton] at ha;subst ha;show upL.length≤_;decide
 ·simp only[List.mem_singleton] at ha;subst ha
  simp only[List.mem_cons,List.not_mem_nil,or_false] at hx
  rcases hx with rfl | rfl
  ·simp
  ·omega
theorem jpieces_of (f l:List UInt8) (mid bet:List (List UInt8)) (w:World) (A B:Option Addr) (m c n d:Nat) (hf:f.length≤281474976710656) (hl:l.length≤281474976710656) (hA:Has w w.heap.size 1 A m (strs mid)) (hB:Has w w.heap.size 1 B n (strs bet)) (hm:m≤maxLen) (hn:n≤maxLen) (hT:FM w):
  Calls Tryz.prog 6 #[.string (txt f),.string (txt l),.slice A m c,.slice B n d] w fun e w'=>e=.returned (.bool true)∧Below w.heap.size w w':=by
 unfold maxLen at hm hn
 have hml:=hA.strs_n
 have hnl:=hB.strs_n
 have hm1:(m:Int)≤9223372036854775807:=by omega
 have hn1:(n:Int)≤9223372036854775807:=by omega
 have HAw:=hide (fun w hT=>jawake_any w hT)
 have HBw:=hide (Below.refl w.heap.size w)
 have HTw:=hide hT
 have hfs:=txt_size f
 have hls:=txt_size l
 obtain⟨sf,hsf⟩:∃sf,txt f=sf:=⟨_,rfl⟩
 obtain⟨sl,hsl⟩:∃sl,txt l=sl:=⟨_,rfl⟩
 rw[hsf] at hfs
 rw[hsl] at hls
 rw[hsf,hsl]
 have hf1:(sf.size:Int)≤281474976710656:=by omega
 have hl1:(sl.size:Int)≤281474976710656:=by omega
 have HA:=hide hA
 have HB:=hide hB
 have Hml:=hide hml
 have Hnl:=hide hnl
 have Hsf:=hide hsf
 have Hsl:=hide hsl
 have Hfs:=hide hfs
 have Hls:=hide hls
 clear hT hA hB hsf hsl hm hn hml hnl
 by_cases h5:5<m
 ·have z5:(5:Int)<(m:Int):=by omega
  clear HA HB Hml Hnl Hsf Hsl Hfs Hls hf hl hfs hls h5
  go_enter Tryz.func6,Tryz.ntmps6
  go_wp2_with (go_at_call 7;fail)
  refine (HAw.out _ HTw.out).mono ?_
  rintro e w1 ⟨rfl,hbn⟩
  have HBw1:=hide (HBw.out.trans (hbn.mono HBw.out.size))
  have HTw1:=hide (HTw.out.below hbn)
  clear hbn
  go_wp2_with (go_at_call 7;fail)
  refine (HAw.out _ HTw1.out).mono ?_
  rintro e w2 ⟨rfl,hbn⟩
  have HBw2:=hide (HBw1.out.trans (hbn.mono HBw1.out.size))
  have HTw2:=hide (HTw1.out.below hbn)
  clear hbn
  go_wp2
  go_ret
  exact⟨rfl,HBw2.out⟩
 have z5:¬((5:Int)<(m:Int)):=by omega
 by_cases h60:60<f.length+l.length
 ·have z60:(60:Int)<(sf.size:Int)+(sl.size:Int):=by omega
  clear HA HB Hml Hnl Hsf Hsl Hfs Hls hf hl hfs hls h5 h60
  go_enter Tryz.func6,Tryz.ntmps6
  go_wp2_with (go_at_call 7;fail)
  refine (HAw.out _ HTw.out).mono ?_
  rintro e w1 ⟨rfl,hbn⟩
  have HBw1:=hide (HBw.out.trans (hbn.mono HBw.out.size))
  have HTw1:=hide (HTw.out.below hbn)
  clear hbn
  go_wp2_with (go_at_call 7;fail)
  refine (HAw.out _ HTw1.out).mono ?_
  rintro e w2 ⟨rfl,hbn⟩
  have HBw2:=hide (HBw1.out.trans (hbn.mono HBw1.out.size))
  have HTw2:=hide (HTw1.out.below hbn)
  clear hbn
  go_wp2
  go_ret
  exact⟨rfl,HBw2.out⟩
 have z60:¬((60:Int)<(sf.size:Int)+(sl.size:Int)):=by omega
 have hst0:Hid (sf=txt (f++[])∧FitsAt (f++[]) f.length (mid.take 0)∧(f++[]).length≤60+30*0∧∀x∈mid.take 0,1≤x.length∧x.length≤20):=hide ⟨by rw[List.append_nil,Hsf.out],by rw[List.take_zero];exact .nil _,by simp;omega,fun x hx=>by simp at hx⟩
 have hm5:m≤5:=by omega
 have hfl60:=hide (show f.length+l.length≤60 by omega)
 clear hf hl hfs hls h5 h60 hf1 hl1
 have hf1:(sf.size:Int)≤60:=by have:=Hfs.out;have:=hfl60.out;omega
 have hl1:(sl.size:Int)≤60:=by have:=Hls.out;have:=hfl60.out;omega
 go_enter Tryz.func6,Tryz.ntmps6
 go_wp2_with (go_at_call 7;fail)
 refine (HAw.out _ HTw.out).mono ?_
 rintro e w1 ⟨rfl,hbn⟩
 have HBw1:=hide (HBw.out.trans (hbn.mono HBw.out.size))
 have HTw1:=hide (HTw.out.below hbn)
 clear hbn
 go_wp2
 go_loopg [9,31] m (fun r s9 s31 wx=>∃(i:Nat) (q:ByteArray) (ms:List UInt8),i+r=m∧s31=.int .i64 (i:Int)∧s9=.string q∧wx=w1∧Hid (q=txt (f++ms)∧FitsAt (f++ms) f.length (mid.take i)∧(f++ms).length≤60+30*i∧∀x∈mid.take i,1≤x.length∧x.length≤20))
 case atStart=>exact⟨0,sf,[],by omega,rfl,rfl,rfl,hst0⟩
 case round=>
  obtain⟨i,q,ms,hig,rfl,rfl,hw9,hst⟩:=hrel
  obtain rfl:=hw9.symm
  clear hw9 hst0
  have hqs:(q.size:Int)≤210:=by have h:=hst.out;rw[h.1,txt_size];omega
  cases gk with
  | zero=>
   obtain rfl:i=m:=by omega
   have hiz:¬((i:Int)<(i:Int)):=by omega
   obtain⟨h1,h2,h3,h4⟩:=hst.out
   rw[List.take_of_length_le (by rw[←Hml.out];exact Nat.le_refl _)] at h2 h4
   have hbx:=below1 w1 (.cells #[.int .i64 4,.string ⟨#[117,115,101,114,80,97,115,115,119,111,114,100]⟩,.string ⟨#[]⟩,.string sf,.string sl,.slice A i c,.slice none 0 0] 33)
   have hpx:=Box7.new w1 4 ⟨#[117,115,101,114,80,97,115,115,119,111,114,100]⟩ ⟨#[]⟩ sf sl A i c none 0 0 33
   have hq2:q++sl=txt (f++ms++l):=by rw[h1,←Hsl.out];simp only[txt_app]
   have hfin:FIn w1 w1.heap.size (.mk 4 upL [] f l mid []) [.int .i64 4,.string ⟨#[117,115,101,114,80,97,115,115,119,111,114,100]⟩,.string ⟨#[]⟩,.string sf,.string sl,.slice A i c,.slice none 0 0]:=by
    simp only[FIn]
    refine⟨A,c,none,0,[],by rw[←Hml.out,Hsf.out,Hsl.out];rfl,⟨by unfold maxLen;rw[←Hml.out];omega,Nat.zero_le _⟩,?_,⟨rfl,.inl rfl⟩,rfl⟩
    rw[←Hml.out]
    exact (HA.out.below HBw1.out).upto HBw1.out.size
   have hf3:=hfin.grow hbx
   obtain⟨w2,hw2⟩:∃w2,w1.alloc (.cells #[.int .i64 4,.string ⟨#[117,115,101,114,80,97,115,115,119,111,114,100]⟩,.string ⟨#[]⟩,.string sf,.string sl,.slice A i c,.slice none 0 0] 33)=w2:=⟨_,rfl⟩
   rw[hw2] at hbx hpx hf3
   have HB2:=hide (HBw1.out.trans (hbx.mono HBw1.out.size))
   have HT2:=hide (HTw1.out.below hbx)
   have hFo:=jFormed_any _ w2 _ _ _ _ _ _ _ hf3
   obtain⟨fo,hfo⟩:∃fo,FT.formed (.mk 4 upL [] f l mid [])=fo:=⟨_,rfl⟩
   rw[hfo] at hFo
   obtain⟨Q,hQ⟩:∃Q,q++sl=Q:=⟨_,rfl⟩
   have hQs:Q.size=(f++ms++l).length:=by rw[←hQ,hq2,txt_size]
   have hQs2:(Q.size:Int)≤400:=by
    have:=hfl60.out
    rw[hQs,List.length_append]
    omega
   have HQ:=hide (hQ.symm.trans hq2)
   have HQs:=hide hQs
   have Hfit:=hide h2
   have Hfo:=hide hfo
   have HF3:=hide hf3
   have Hw2:=hide hw2
   have HPx:=hide hpx
   obtain⟨_,c0,c1,c2,c3,c4,c5,c6⟩:=hpx
   clear h1 h2 h3 h4 hst HA HB Hml Hnl Hsf Hsl Hfs Hls hq2 hfin hf3 hbx hw2 hfo hQs
   go_upto_region 15 with fail
   rw[Hw2.out]
   (try rw[hQ])
   clear hQ Hw2
   go_wp2_with (go_at_call 12;fail)
   refine hFo.mono ?_
   rintro e w3 ⟨rfl,hb3⟩
   have HB3:=hide (HB2.out.trans (hb3.mono HB2.out.size))
   have HT3:=hide (HT2.out.below hb3)
   have hf4:=HF3.out.grow hb3
   have hpx3:=HPx.out.below HPx.out.lt hb3
   clear hFo hb3 c0 c1 c2 c3 c4 c5 c6 HF3 HPx HB2 HT2
   obtain⟨_,c0,c1,c2,c3,c4,c5,c6⟩:=hpx3
   cases fo with
   | false=>
    clear HQ HQs Hfit Hfo hf4
    go_wp2
    go_ret
    exact⟨rfl,HB3.out⟩
   | true=>
    by_cases q1:Q.size<1
    ·have y1:(Q.size:Int)<1:=by omega
     clear HQ HQs Hfit Hfo hf4
     go_wp2
     go_ret
     exact⟨rfl,HB3.out⟩
    have y1:¬((Q.size:Int)<1):=by omega
    by_cases q2:200<Q.size
    ·have y2:(200:Int)<(Q.size:Int):=by omega
     clear HQ HQs Hfit Hfo hf4
     go_wp2
     go_ret
     exact⟨rfl,HB3.out⟩
    have y2:¬((200:Int)<(Q.size:Int)):=by omega
    have hs1:1≤(f++ms++l).length:=by have:=HQs.out;omega
    have hs2:(f++ms++l).length≤200:=by have:=HQs.out;omega
    have g3:=own_lit w3 #[.string ⟨#[]⟩,.string Q] 9 2 (by unfold maxLen;omega) rfl
    have hb3:=below1 w3 (.cells #[.string ⟨#[]⟩,.string Q] 9)
    obtain⟨w4,hw4⟩:∃w4,w3.alloc (.cells #[.string ⟨#[]⟩,.string Q] 9)=w4:=⟨_,rfl⟩
    rw[hw4] at g3 hb3
    obtain⟨b3,hb3n⟩:∃b3,w3.heap.size=b3:=⟨_,rfl⟩
    rw[hb3n] at g3
    have g4:=World.ownsRow_lit (e:=51) (size:=2) w4 #[.string ⟨#[117,115,101,114,80,97,115,115,119,111,114,100]⟩,.slice (some ⟨b3,0,none⟩) 2 2] 1 (Nat.le_refl _) (by unfold maxLen;omega) rfl
    have hs3:w4.heap.size=b3+1:=by rw[←hw4,←hb3n];simp
    rw[hs3] at g4
    have hb4:=below1 w4 (.cells #[.string ⟨#[117,115,101,114,80,97,115,115,119,111,114,100]⟩,.slice (some ⟨b3,0,none⟩) 2 2] 51)
    obtain⟨w5,hw5⟩:∃w5,w4.alloc (.cells #[.string ⟨#[117,115,101,114,80,97,115,115,119,111,114,100]⟩,.slice (some ⟨b3,0,none⟩) 2 2] 51)=w5:=⟨_,rfl⟩
    rw[hw5] at g4 hb4
    have hH4:=Has.own g4
    have hH3:Has w5 w5.heap.size 1 (some ⟨b3,0,none⟩) 2 (strs [[],f++ms++l]):=by
     have:=((Has.own g3).below hb4).upto hb4.size
     have e:strs [[],f++ms++l]=#[Value.string ⟨#[]⟩,.string Q].toList:=by rw[HQ.out];rfl
     rw[e];exact this
    have hAs:AsIn w5 w5.heap.size [.string ⟨#[117,115,101,114,80,97,115,115,119,111,114,100]⟩,.slice (some ⟨b3,0,none⟩) 2 2] [(upL,[[],f++ms++l])]:=by
     refine⟨rfl,fun i a ha=>?_⟩
     match i,ha with
     | 0,ha=>
      simp only[List.getElem?_cons_zero,Option.some.injEq] at ha
      subst ha
      exact⟨some ⟨b3,0,none⟩,2,rfl,rfl,hH3⟩
     | i+1,ha=>simp at ha
    have hB4:=hb3.trans (hb4.mono hb3.size)
    have hev:=jEval_any [(upL,[[],f++ms++l])] (up_ok hs2) 1 (by omega) (.mk 4 upL [] f l mid []) w5 _ 1 _ _ _ _ _ _ _ _ hH4 hAs (hf4.grow hB4) (HT3.out.below hB4).tm
    rw[up_eval Hfo.out Hfit.out hs1 hs2] at hev
    have HEv:=hide hev
    have HW4:=hide hw4
    have HW5:=hide hw5
    have Hb3n:=hide hb3n
    have HB5:=hide (HB3.out.trans (hB4.mono HB3.out.size))
    clear hev hH4 hH3 hAs hB4 g3 g4 hb3 hb4 hw4 hw5 hb3n hs3 hf4 HT3 HB3 HQ HQs Hfit Hfo q1 q2 hs1 hs2
    go_wp2_with (go_at_call 21;fail)
    rw[HW4.out,Hb3n.out,HW5.out]
    refine HEv.out.mono ?_
    rintro e w6 ⟨rfl,hb6⟩
    have hb7:=HB5.out.trans (hb6.mono HB5.out.size)
    clear HEv hb6 c0 c1 c2 c3 c4 c5 c6
    go_wp2
    go_ret
    exact⟨rfl,hb7⟩
  | succ r=>
   have hi:i<m:=by omega
   have hiz:(i:Int)<(m:Int):=by omega
   obtain⟨x,hx⟩:∃x,mid[i]?=some x:=⟨_,List.getElem?_eq_getElem (by rw[←Hml.out];exact hi)⟩
   obtain⟨g,o,hAe,hg,hc⟩:=HA.out.texts (fun h=>by rw[h] at hx;simp at hx)
   subst hAe
   have x0:=(HBw1.out.cell (p:=⟨g,o+i,none⟩) hg).trans (hc i x hx)
   have hxs:=txt_size x
   have htk:mid.take (i+1)=mid.take i++[x]:=by rw[List.take_add_one,hx];rfl
   obtain⟨sx,hsx⟩:∃sx,txt x=sx:=⟨_,rfl⟩
   rw[hsx] at x0 hxs
   by_cases x20:20<x.length
   ·have y20:(20:Int)<(sx.size:Int):=by omega
    clear hst HA HB Hml Hnl Hsf Hsl Hfs Hls hx hc htk hsx hxs x20
    go_wp2
    go_ret
    exact⟨rfl,HBw1.out⟩
   have y20:¬((20:Int)<(sx.size:Int)):=by omega
   by_cases x1:x.length=0
   ·have y1:((sx.size:Int)==0)=true:=by rw[hxs,x1];rfl
    clear hst HA HB Hml Hnl Hsf Hsl Hfs Hls hx hc htk hsx hxs x20 x1
    go_wp2
    go_ret
    exact⟨rfl,HBw1.out⟩
   have y1:((sx.size:Int)==0)=false:=beq_false_of_ne (by omega)
   have hxz:(sx.size:Int)≤20:=by omega
   obtain⟨h1,h2,h3,h4⟩:=hst.out
   have hstep:∀b:List UInt8,b.length≤10→Hid (q++txt b++sx=txt (f++(ms++b++x))∧FitsAt (f++(ms++b++x)) f.length (mid.take (i+1))∧(f++(ms++b++x)).length≤60+30*(i+1)∧∀y∈mid.take (i+1),1≤y.length∧y.length≤20):=fun b hb=>hide (by
    have e:f++(ms++b++x)=f++ms++b++x:=by simp[List.append_assoc]
    refine⟨by rw[e,h1,←hsx];simp only[txt_app],?_,?_,fun y hy=>?_⟩
    ·rw [htk,e]
     exact h2.snoc (by rw[List.length_append];omega) b x
    ·rw [e,List.length_append,List.length_append];omega
    ·rw [htk] at hy
     simp only[List.mem_append,List.mem_singleton] at hy
     rcases hy with hy | rfl
     ·exact h4 y hy
     ·omega)
   have hstep0:Hid (q++sx=txt (f++(ms++x))∧FitsAt (f++(ms++x)) f.length (mid.take (i+1))∧(f++(ms++x)).length≤60+30*(i+1)∧∀y∈mid.take (i+1),1≤y.length∧y.length≤20):=by
    have h:=(hstep [] (by simp)).out
    rw[show q++txt []++sx=q++sx from by rw[h1];simp only[txt_app,List.append_nil],List.append_nil] at h
    exact hide h
   have Hstep:=hide hstep
   clear h1 h2 h3 h4 hst hx hc htk hsx hxs x20 x1 hstep
   by_cases hib:i<n
   ·have yib:(i:Int)<(n:Int):=by omega
    obtain⟨y,hy⟩:∃y,bet[i]?=some y:=⟨_,List.getElem?_eq_getElem (by rw[←Hnl.out];exact hib)⟩
    obtain⟨g',o',hBe,hg',hc'⟩:=HB.out.texts (fun h=>by rw[h] at hy;simp at hy)
    subst hBe
    have y0:=(HBw1.out.cell (p:=⟨g',o'+i,none⟩) hg').trans (hc' i y hy)
    have hys:=txt_size y
    obtain⟨sy,hsy⟩:∃sy,txt y=sy:=⟨_,rfl⟩
    rw[hsy] at y0 hys
    by_cases y10:y.length≤10
    ·have yy:(sy.size:Int)≤10:=by omega
     have hs:=Hstep.out y y10
     rw[hsy] at hs
     clear hstep0 Hstep HA HB Hml Hnl Hsf Hsl Hfs Hls hy hc' hsy hys y10 hib
     go_wp2
     go_roundg r
     case measure=>omega
     case rel=>exact⟨i+1,_,ms++y++x,by omega,by go_num,rfl,rfl,hs⟩
    ·have yy:¬((sy.size:Int)≤10):=by omega
     have yy2:=decide_eq_false yy
     clear Hstep HA HB Hml Hnl Hsf Hsl Hfs Hls hy hc' hsy hys y10 hib
     go_wp2
     go_roundg r
     case measure=>omega
     case rel=>exact⟨i+1,_,ms++x,by omega,by go_num,rfl,rfl,hstep0⟩
   ·have yib:¬((i:Int)<(n:Int)):=by omega
    have yib2:=decide_eq_false yib
    clear Hstep HA HB Hml Hnl Hsf Hsl Hfs Hls hib
    go_wp2
    go_roundg r
    case measure=>omega
    case rel=>exact⟨i+1,_,ms++x,by omega,by go_num,rfl,rfl,hstep0⟩
theorem pieces_law (s u:ByteArray) (mid bet:List (List UInt8)) (w:World) (A B:Option Addr) (m c n d:Nat) (hs:s.size≤281474976710656) (hu:u.size≤281474976710656) (hA:Has w w.heap.size 1 A m (strs mid)) (hB:Has w w.heap.size 1 B n (strs bet)) (hm:m≤maxLen) (hn:n≤maxLen) (hT:FM w):
  Calls Tryz.prog 6 #[.string s,.string u,.slice A m c,.slice B n d] w fun e w'=>e=.returned (.bool true)∧Below w.heap.size w w':=by
 have h1:txt s.data.toList=s:=(data_cell s _ rfl).symm
 have h2:txt u.data.toList=u:=(data_cell u _ rfl).symm
 have h3:=Lib.size_eq s
 have h4:=Lib.size_eq u
 have h:=jpieces_of s.data.toList u.data.toList mid bet w A B m c n d (by omega) (by omega) hA hB hm hn hT
 rw[h1,h2] at h
 exact h
end Go.Proofs.YtaolhefllfnmiaaGreatDoor
