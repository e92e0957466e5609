/- An entry with an integer that is raised, and raised back: pure. By an AI agent. -/
import Derived.Test.YtadlmhclpaifoaaGreatDoorDV
import Derived.Test.YtadlmhclpaifoaaGreatDoorIV
set_option linter.unusedSimpArgs false
set_option linter.unusedVariables false
namespace Go.Proofs.YtadlmhclpaifoaaGreatDoor
open Go Go.RowKit
def serT:List UInt8:=[115,101,114,105,97,108,78,117,109,98,101,114]
def dcT:List UInt8:=[100,99]
def dcxN:List UInt8:=[100,99,61,120]
def incA (a:Int):List EA:=[(clsT,[[111]]),(dcT,[[120]]),(serT,[Lib.itoa a])]
def incE (a:Int):List EA:=[(dcT,[[120]]),(clsT,[[111]]),(serT,[Lib.itoa a])]
theorem typ_ser:typ serT=(serT,3):=by decide
theorem typ_dc:typ dcT=(dcT,1):=by decide
theorem is_int {a:Int} (h: -2000000000<=a/\a<=2000000000):IsInt (Lib.itoa a) a:=⟨⟨by omega,by omega⟩,rfl⟩
theorem val_ser {a:Int} (h: -2000000000<=a/\a<=2000000000):valV serT (Lib.itoa a)=(Lib.itoa a,0):=
 val_of (x:=3) (by rw[typ_ser]) (.inl rfl) (form_int (is_int h)) (int_len (is_int h))
theorem formed_inc {a:Int} (h: -2000000000<=a/\a<=2000000000):FormedE dcxN (incE a):=by
 have hw:=formed_awE;refine⟨⟨hw.loose.norm,hw.loose.ne,⟨by simp[incE],fun i x y hx hy=>?_,fun x hx=>?_⟩⟩,?_,?_⟩
 ·match i,hx,hy with
  | 0,hx,hy=>
   obtain rfl:=Option.some.inj hx;obtain rfl:=Option.some.inj hy;decide
  | 1,hx,hy=>
   obtain rfl:=Option.some.inj hx;obtain rfl:=Option.some.inj hy;show clsT<serT;decide
  | 2,_,hy=>cases hy
  | n+3,hx,_=>cases hx
 ·unfold incE at hx;rcases List.mem_cons.1 hx with rfl | hx
  ·exact hw.loose.attrs.each _ (by unfold awE;simp[dcT])
  ·rcases List.mem_cons.1 hx with rfl | hx
   ·exact hw.loose.attrs.each _ (by unfold awE;simp)
   ·obtain rfl:=List.mem_singleton.1 hx;refine⟨(show serT≠[] by decide),by rw[typ_ser],by simp,by simp,fun v hv=>?_,alone_one _ _⟩;obtain rfl:=List.mem_singleton.1 hv;rw[val_ser h]
 ·rw [zFz];unfold incE pickE;rw[if_neg (by decide)];unfold pickE;rw[if_pos rfl];simp
 ·obtain ⟨p,r,hp,hq⟩:=hw.named;refine⟨p,r,hp,fun q hqm=>?_⟩;have h1:=hq q hqm;have hv:=name_dcx;have e1:some (p::r)=some [[([100,99],[120])]]:=by
   have h2:=hp.symm.trans hv;exact (Prod.mk.inj h2).1
  injection e1 with e1
  injection e1 with e1 _
  subst e1;obtain rfl:=List.mem_singleton.1 hqm;refine⟨[120],?_,congrArg Prod.snd val_dcx,congrArg Prod.snd val_dcx,rfl⟩;unfold valuesE;rw[if_neg (by decide)];unfold incE pickE;rw[if_pos (by decide)];simp
theorem gather_inc {a:Int} (h: -2000000000<=a/\a<=2000000000):gatherE [] (incA a)=(incE a,0):=by
 have t1:typ clsT=(clsT,1):=by decide
 have g1:gatherV clsT [] [[111]]=([[111]],0):=by unfold gatherV;rw[val_clso,if_neg (by simp),if_neg (by rintro ⟨x,hx,_⟩;cases hx)];rfl
 have g2:gatherV dcT [] [[120]]=([[120]],0):=by unfold gatherV;rw[show valV dcT [120]=([120],0) from val_dcx,if_neg (by simp),if_neg (by rintro ⟨x,hx,_⟩;cases hx)];rfl
 have g3:gatherV serT [] [Lib.itoa a]=([Lib.itoa a],0):=by unfold gatherV;rw[val_ser h,if_neg (by simp),if_neg (by rintro ⟨x,hx,_⟩;cases hx)];rfl
 unfold incA gatherE;simp only;rw[t1,if_neg (by decide),if_neg (by simp)];simp only;rw[show pickE [] clsT=[] from rfl,g1];simp only;rw[if_neg (by simp)];unfold gatherE;simp only;rw[typ_dc,if_neg (by decide),if_neg (by simp)];simp only;rw[show pickE (setE [] clsT [[111]]) dcT=[] by decide,g2];simp only;rw[if_neg (by simp)];unfold gatherE;simp only;rw[typ_ser,if_neg (by decide),if_neg (by simp)];simp only;rw[show pickE (setE (setE [] clsT [[111]]) dcT [[120]]) serT=[] by decide,g3];simp only;rw[if_neg (by simp)];unfold gatherE;have hs:setE (setE [] clsT [[111]]) dcT [[120]]=[(dcT,[[120]]),(clsT,[[111]])]:=by decide
 rw[hs];unfold setE;rw[if_neg (by simp),zRo (by decide)];rfl
theorem norm_dcx:normT dcxN=(dcxN,0):=formed_awE.loose.norm
theorem make_inc {a:Int} (h: -2000000000<=a/\a<=2000000000):makeE dcxN (incA a)=(dcxN,incE a,0):=by
 have hF:=formed_inc h;unfold makeE;rw[norm_dcx,if_neg (by decide),gather_inc h];simp only;rw[if_neg (by simp),if_neg (by simpa using (zFl (mis:=64) hF.loose.norm hF.loose.ne (zCt hF.loose.attrs) (by decide)).2 hF)]
theorem pick_inc (a:Int):pickE (incE a) serT=[Lib.itoa a]:=by
 unfold incE pickE;rw[if_neg (by decide)];unfold pickE;rw[if_neg (by decide)];unfold pickE;rw[if_pos rfl]
theorem set_inc (a b:Int):setE (incE a) serT [Lib.itoa b]=incE b:=by
 unfold setE incE;rw[if_neg (by simp)];unfold insE;rw[if_pos (by decide)];unfold insE;rw[if_pos (by decide)];unfold insE;rw[if_neg (by exact List.lt_irrefl serT),List.filter_cons_of_neg (by simp)];rfl
theorem change_inc {a b:Int} (ha: -2000000000<=a/\a<=2000000000) (hb: -2000000000<=b/\b<=2000000000) (hs: -2000000000<=a+b/\a+b<=2000000000):changesL (incE a) [(3,(serT,[Lib.itoa b]))]=(incE (a+b),0):=by
 have hR:RaiseR 3 (Lib.itoa a) (Lib.itoa b) (Lib.itoa (a+b)):=.inl ⟨rfl,a,b,is_int ha,is_int hb,is_int hs⟩;have hc:changeL (incE a) 3 (serT,[Lib.itoa b])=(incE (a+b),0):=by
  unfold changeL;simp only;rw[typ_ser,if_neg (by decide),if_neg (by decide),if_neg (by simp[val_ser hb]),if_neg (by decide),if_neg (by decide),if_neg (by decide)];simp only;unfold incL;rw[if_neg (by simp),pick_inc,if_neg (by simp),if_neg (by
   rintro ⟨v,hv,q⟩
   obtain rfl:=List.mem_singleton.1 hv
   exact q ⟨_,hR⟩)]
  simp only[List.headD_cons,List.map_cons,List.map_nil,zPh hR];rw[set_inc]
 rw[zA8,hc,if_neg (by simp),changesL]
theorem modify_inc {a b:Int} (ha: -2000000000<=a/\a<=2000000000) (hb: -2000000000<=b/\b<=2000000000) (hs: -2000000000<=a+b/\a+b<=2000000000):modifyE dcxN (incE a) [(3,(serT,[Lib.itoa b]))]=(dcxN,incE (a+b),0):=
 zD9 (formed_inc ha) (change_inc ha hb hs) (formed_inc hs)
theorem has_inc {a:Int} (h: -2000000000<=a/\a<=2000000000):HasE (incE a) serT (Lib.itoa a):=by
 refine⟨Lib.itoa a,?_,by rw[val_ser h],by rw[val_ser h],rfl⟩;unfold valuesE;rw[typ_ser,if_neg (by decide),pick_inc];simp
end Go.Proofs.YtadlmhclpaifoaaGreatDoor
