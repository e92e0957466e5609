/- What the statements on paths ask of first: a config of two servers. By an AI agent. -/
import Derived.Test.YtlfglibcggphjaaGreatDoorKFMath
set_option linter.unusedSimpArgs false
set_option linter.unusedVariables false
namespace Go.Proofs.YtlfglibcggphjaaGreatDoor
open Go.RowKit
theorem zF3 {raw t v tx:List UInt8} (h1:(cuts 43 raw).length<=3) (h2:(cuts 43 raw).mapM rdPairT=some [(t,v)]) (h3:sortP [(t,v)]=[(t,v)]) (h4:(typ t).1=t) (h5:(typ t).2=1)
  (hv:1<=v.length/\v.length<=200) (h0:(0:UInt8) ∉ v) (hn:nt v≠[]) (hx:prP [(t,nt v)]=tx):∃p,parseP raw=some p/\ptx p=tx:=by
 refine⟨[(t,v)],?_,?_⟩
 ·rw [zBi h1 h2,h3,if_pos];refine⟨by simp,by simp,fun a ha=>?_,List.pairwise_singleton _ _⟩;obtain rfl:=List.mem_singleton.1 ha;exact⟨h4,Or.inl h5,by rw[zFu _ _ h5 hv h0 hn]⟩
 ·unfold ptx normP;simp only[List.map_cons,List.map_nil];rw[zFu _ _ h5 hv h0 hn];exact hx
theorem name1K {raw tx:List UInt8} (hl:raw.length<=1000) (hne:raw≠[]) (hc:cuts 44 raw=[raw]) (hp:∃p,parseP raw=some p/\ptx p=tx) (ht:tx.length<=1000):partsV raw=(some [tx],0):=by
 obtain⟨p,hp,hx⟩:=hp;have hn:nameV raw=(some [p],0):=by unfold nameV;rw[if_neg (by omega),if_neg hne,hc,if_neg (by simp),mapM_cons',hp];rfl
 unfold partsV;rw[hn];simp only[List.map_cons,List.map_nil,hx];rw[if_neg (by simp only[joinC];omega)]
theorem name2K {raw r1 r2 t1 t2:List UInt8} (hl:raw.length<=1000) (hne:raw≠[]) (hc:cuts 44 raw=[r1,r2]) (hp:∃p,parseP r1=some p/\ptx p=t1) (hq:∃p,parseP r2=some p/\ptx p=t2) (ht:t1.length+t2.length<=998):partsV raw=(some [t1,t2],0):=by
 obtain⟨p,hp,hx⟩:=hp;obtain⟨q,hq,hy⟩:=hq;have hn:nameV raw=(some [p,q],0):=by unfold nameV;rw[if_neg (by omega),if_neg hne,hc,if_neg (by simp),mapM_cons',hp];simp only[Option.bind_some];rw[mapM_cons',hq];rfl
 unfold partsV;rw[hn];simp only[List.map_cons,List.map_nil,hx,hy];rw[if_neg (by simp only[joinC,List.length_append,List.length_cons];omega)]
def dcxK:List UInt8:=[100,99,61,120]
def caK:List UInt8:=[99,110,61,97]
def caxK:List UInt8:=[99,110,61,97,44,100,99,61,120]
theorem zI8:∃p,parseP dcxK=some p/\ptx p=dcxK:=zF3 (t:=[100,99]) (v:=[120]) (by decide) (by decide) (by decide) (by decide) (by decide) (by decide) (by decide) (by decide) (by decide)
theorem pt_caK:∃p,parseP caK=some p/\ptx p=caK:=zF3 (t:=[99,110]) (v:=[97]) (by decide) (by decide) (by decide) (by decide) (by decide) (by decide) (by decide) (by decide) (by decide)
theorem zI4:partsV dcxK=(some [dcxK],0):=name1K (by decide) (by decide) (by decide) zI8 (by decide)
theorem zJo:partsV caxK=(some [caK,dcxK],0):=name2K (by decide) (by decide) (by decide) pt_caK zI8 (by decide)
theorem zEh:normT caxK=(caxK,0):=by rw[norm_yes' zJo];rfl
def awLK:List (List CX):=[[],[(dcxK,[],[])]]
def awTK:List CT:=[(dcxK,1)]
theorem zKx:lowV caxK [dcxK]=(0,true):=by
 have hu:underV caxK dcxK=true:=by unfold underV;rw[zJo,zI4];decide
 have hd:depthV dcxK=1:=by unfold depthV;rw[zI4];rfl
 unfold lowV;rw[if_neg (by decide)];unfold lowK;rw[hd,hu,if_pos (by simp)];unfold lowK;rfl
theorem zEn:lowV caxK []=(0,false):=by
 unfold lowV;rw[if_neg (by decide)];unfold lowK;rfl
theorem held0K:heldV awLK 0 caxK=(0,false):=by
 unfold heldV;rw[zEh,if_pos ⟨rfl,by decide⟩];show heldX [] caxK=(0,false);unfold heldX cxNames;rw[show List.map (fun x:CX=>x.1) []=[] from rfl,zEn];rfl
theorem near0K:nearV awLK awTK 0 caxK=(1,true):=by
 unfold nearV;rw[zEh,if_pos ⟨rfl,by decide⟩];show nearX [] awTK 0 caxK=(1,true);unfold nearX cxNames;rw[show List.map (fun x:CX=>x.1) []=[] from rfl,zEn,if_neg (by simp),if_pos rfl];unfold srvV;rw[show ctNames awTK=[dcxK] from rfl,zKx,if_pos rfl];rfl
theorem held1K:heldV awLK 1 caxK=(0,true):=by
 unfold heldV;rw[zEh,if_pos ⟨rfl,by decide⟩];show heldX [(dcxK,[],[])] caxK=(0,true);unfold heldX;rw[show cxNames [(dcxK,[],[])]=[dcxK] from rfl,zKx,if_pos rfl];show (if (lowV caxK []).2=true then (0,false) else (0,true))=(0,true);rw[zEn];rfl
theorem path_awK:pathV9 awLK awTK caxK 0=([0,1],0):=by
 have n0:nxV awLK awTK caxK 0=(54,some 1):=by unfold nxV;rw[show ((0:Nat):Int)=0 from rfl,held0K,near0K,if_neg (by simp),if_neg (by simp),if_neg (by decide)];rfl
 have n1:nxV awLK awTK caxK 1=(0,none):=by unfold nxV;rw[show ((1:Nat):Int)=1 from rfl,held1K,if_pos rfl]
 unfold pathV9;rw[zEh,if_pos rfl,if_pos (by decide)];show pathG (nxV awLK awTK caxK) (1+1) [false,false] 0=([0,1],0);rw[zA3 n0 (by decide)];rw[show pathG (nxV awLK awTK caxK) 1 (List.set [false,false] 0 true) 1=([1],0) from zAj (k:=0) n1]
end Go.Proofs.YtlfglibcggphjaaGreatDoor
