import Derived.Deep.RegionWith
import Derived.Deep.CutRange
import Derived.Test.YtecegaflhdgfaaaGreatM20WrB
import Derived.Test.YtecegaflhdgfaaaGreatM22OrdE
namespace Go.Proofs.YtecegaflhdgfaaaGreat
open Go.RowKit
attribute [local go_sem ↓] Go.wp_at_zero Go.wp_at_succ
def mZero (ds:List Dc):WM:=⟨⟨[],[],[]⟩,[],[],List.replicate ds.length 0⟩
def vZero (vd vn v3 v8:Value):Nat→Value
 | 0=>vd
 | 1=>vn
 | 3=>v3
 | 8=>v8
 | _=>.slice none 0 0
theorem own_zeros {w:World}{g n:Nat} (h:w.rowIs g 3 n (fun _=>.int .i64 0)) (hn:n≤1500):w.ownsRow 0 3 1 (.slice (some ⟨g,0,none⟩) n n) n (tCells (List.replicate n 0)):=by
 obtain ⟨c,h1,h2,h3⟩:=h
 refine ⟨by simp [tCells],.inr ⟨g,n,c,rfl,Nat.zero_le _,h1,Nat.le_refl _,by unfold maxLen;omega,by omega,?_⟩⟩
 apply List.ext_getElem?
 intro i
 rw [Nat.mul_one]
 by_cases hi:i<n
 ·rw [List.getElem?_take,if_pos hi,Array.getElem?_toList,h3 i hi]
  unfold tCells
  rw [List.getElem?_map,List.getElem?_replicate,if_pos hi];rfl
 ·rw [List.getElem?_take,if_neg hi]
  unfold tCells
  rw [List.getElem?_map,List.getElem?_replicate,if_neg hi];rfl
theorem wr_start {w1 W:World}{vd vn v3:Value}{q:Nat}{ds:List Dc}{ns:List Nd}{lk:List Rt}{pl:Int} (hP:ProgAt w1 q ds ns vd vn) (hb:Below w1.heap.size w1 W) {b g:Nat} (hbn:w1.heap.size≤b) (hgn:w1.heap.size≤g) (hbg:b≠g)
  (hat:W.heap[b]? = some (.cells #[vd,vn,.int .i64 pl,v3,.slice none 0 0,.slice none 0 0,.slice none 0 0,.slice none 0 0,.slice (some ⟨g,0,none⟩) ds.length ds.length,.slice none 0 0] 103)) (hrow:W.rowIs g 3 ds.length (fun _=>.int .i64 0))
  (h3:W.ownsRow w1.heap.size 111 3 v3 lk.length (rtCells lk)) (h3b:v3.ownBlock≠some b) (h3g:v3.ownBlock≠some g) (hdl:ds.length≤300):Wr W (fun k=>k<w1.heap.size) b pl ds ns lk (mZero ds):=by
 have hdlt:∀ k,vd.ownBlock=some k→k<w1.heap.size:=fun k hk=>(hP.decls.lt k hk).2
 have hnlt:∀ k,vn.ownBlock=some k→k<w1.heap.size:=fun k hk=>(hP.nodes.lt k hk).2
 have h3lt:∀ k,v3.ownBlock=some k→w1.heap.size≤k:=fun k hk=>(h3.lt k hk).1
 have hdn:∀ k,vd.ownBlock=some k→vn.ownBlock≠some k:=fun k hd hn=>by
  have f1:∃ c,w1.heap[k]? = some (.cells c 91 (0,0)):=by
   rcases hP.decls.2 with ⟨e,_⟩ | ⟨g',_,cur,e,_,e2,_⟩
   ·rw [e] at hd;simp [Value.ownBlock] at hd
   ·rw [e] at hd;simp only [Value.ownBlock,Option.some.injEq] at hd;subst hd;exact ⟨cur,e2⟩
  have f2:∃ c,w1.heap[k]? = some (.cells c 126 (0,0)):=by
   rcases hP.nodes.2 with ⟨e,_⟩ | ⟨g',_,cur,e,_,e2,_⟩
   ·rw [e] at hn;simp [Value.ownBlock] at hn
   ·rw [e] at hn;simp only [Value.ownBlock,Option.some.injEq] at hn;subst hn;exact ⟨cur,e2⟩
  obtain ⟨c1,e1⟩:=f1
  obtain ⟨c2,e2⟩:=f2
  rw [e1] at e2
  simp at e2
 have hg8:(Value.slice (some ⟨g,0,none⟩) ds.length ds.length).ownBlock=some g:=rfl
 refine ⟨vZero vd vn v3 (.slice (some ⟨g,0,none⟩) ds.length ds.length),hat,?_,?_,?_,fun k hk=>Nat.lt_of_lt_of_le hk hb.size,by omega,?_⟩
 ·intro i
  match i with
  | 0=>exact own_eqb hP.decls (fun k hk=>hb.block k (hdlt k hk))
  | 1=>exact own_eqb hP.nodes (fun k hk=>hb.block k (hnlt k hk))
  | 2=>exact World.ownsRow_nil _ _ _ _
  | 3=>exact own_wkO h3 (Nat.zero_le _)
  | 4=>exact World.ownsRow_nil _ _ _ _
  | 5=>exact World.ownsRow_nil _ _ _ _
  | 6=>exact World.ownsRow_nil _ _ _ _
  | 7=>exact World.ownsRow_nil _ _ _ _
  | 8=>
   have:=own_zeros hrow (by omega)
   show W.ownsRow 0 3 1 _ (List.replicate ds.length 0).length (tCells (List.replicate ds.length 0))
   rw [List.length_replicate];exact this
  | 9=>exact World.ownsRow_nil _ _ _ _
  | n+10=>exact World.ownsRow_nil _ _ _ _
 ·intro i j k hij hi hj
  have key:∀ i k,(vZero vd vn v3 (.slice (some ⟨g,0,none⟩) ds.length ds.length) i).ownBlock=some k→(i=0∧vd.ownBlock=some k)∨(i=1∧vn.ownBlock=some k)∨(i=3∧v3.ownBlock=some k)∨(i=8∧k=g):=by
   intro i k h
   match i,h with
   | 0,h=>exact .inl ⟨rfl,h⟩
   | 1,h=>exact .inr (.inl ⟨rfl,h⟩)
   | 2,h=>simp [vZero,Value.ownBlock] at h
   | 3,h=>exact .inr (.inr (.inl ⟨rfl,h⟩))
   | 4,h=>simp [vZero,Value.ownBlock] at h
   | 5,h=>simp [vZero,Value.ownBlock] at h
   | 6,h=>simp [vZero,Value.ownBlock] at h
   | 7,h=>simp [vZero,Value.ownBlock] at h
   | 8,h=>exact .inr (.inr (.inr ⟨rfl,by simpa [vZero,Value.ownBlock] using h.symm⟩))
   | 9,h=>simp [vZero,Value.ownBlock] at h
   | n+10,h=>simp [vZero,Value.ownBlock] at h
  rcases key i k hi with ⟨a,x⟩ | ⟨a,x⟩ | ⟨a,x⟩ | ⟨a,x⟩ <;> rcases key j k hj with ⟨c,y⟩ | ⟨c,y⟩ | ⟨c,y⟩ | ⟨c,y⟩
  ·omega
  ·exact hdn k x y
  ·have:=hdlt k x;have:=h3lt k y;omega
  ·have:=hdlt k x;omega
  ·exact hdn k y x
  ·omega
  ·have:=hnlt k x;have:=h3lt k y;omega
  ·have:=hnlt k x;omega
  ·have:=hdlt k y;have:=h3lt k x;omega
  ·have:=hnlt k y;have:=h3lt k x;omega
  ·omega
  ·subst y;exact h3g x
  ·have:=hdlt k y;omega
  ·have:=hnlt k y;omega
  ·subst x;exact h3g y
  ·omega
 ·intro i
  match i with
  | 0=>intro h;have:=hdlt _ h;omega
  | 1=>intro h;have:=hnlt _ h;omega
  | 2=>simp [vZero,Value.ownBlock]
  | 3=>exact h3b
  | 4=>simp [vZero,Value.ownBlock]
  | 5=>simp [vZero,Value.ownBlock]
  | 6=>simp [vZero,Value.ownBlock]
  | 7=>simp [vZero,Value.ownBlock]
  | 8=>show (some g:Option Nat)≠some b;simp;omega
  | 9=>simp [vZero,Value.ownBlock]
  | n+10=>simp [vZero,Value.ownBlock]
 ·intro i k h4 hk
  match i,h4,hk with
  | 4,_,h=>simp [vZero,Value.ownBlock] at h
  | 5,_,h=>simp [vZero,Value.ownBlock] at h
  | 6,_,h=>simp [vZero,Value.ownBlock] at h
  | 7,_,h=>simp [vZero,Value.ownBlock] at h
  | 8,_,h=>
   have:g=k:=by simpa [vZero,Value.ownBlock] using h
   omega
  | 9,_,h=>simp [vZero,Value.ownBlock] at h
  | n+10,_,h=>simp [vZero,Value.ownBlock] at h
end Go.Proofs.YtecegaflhdgfaaaGreat
namespace Go.Proofs.YtecegaflhdgfaaaGreat
open Go.RowKit
theorem chain_at {W:World}{b g n:Nat}{vd vn v3:Value}{pl:Int} (h:W.heap[b]? = some (.cells #[.slice none 0 0,.slice none 0 0,.int .i64 0,.slice none 0 0,.slice none 0 0,.slice none 0 0,.slice none 0 0,.slice none 0 0,.slice none 0 0,.slice none 0 0] 103)) :
  ((((((((((W.setCell ⟨b,0,none⟩ (vd)).setCell ⟨b,1,none⟩ (vn)).setCell ⟨b,2,none⟩ (.int .i64 pl)).setCell ⟨b,3,none⟩ (v3)).setCell ⟨b,4,none⟩ (.slice none 0 0)).setCell ⟨b,5,none⟩ (.slice none 0 0)).setCell ⟨b,6,none⟩ (.slice none 0 0)).setCell ⟨b,7,none⟩ (.slice none 0 0)).setCell ⟨b,8,none⟩ (.slice (some ⟨g,0,none⟩) n n)).setCell ⟨b,9,none⟩ (.slice none 0 0)).heap[b]? = some (.cells #[vd,vn,.int .i64 pl,v3,.slice none 0 0,.slice none 0 0,.slice none 0 0,.slice none 0 0,.slice (some ⟨g,0,none⟩) n n,.slice none 0 0] 103):=by
 have h0:=heap_setCell_same _ b 0 _ _ (vd) h
 have h1:=heap_setCell_same _ b 1 _ _ (vn) h0
 have h2:=heap_setCell_same _ b 2 _ _ (.int .i64 pl) h1
 have h3:=heap_setCell_same _ b 3 _ _ (v3) h2
 have h4:=heap_setCell_same _ b 4 _ _ (.slice none 0 0) h3
 have h5:=heap_setCell_same _ b 5 _ _ (.slice none 0 0) h4
 have h6:=heap_setCell_same _ b 6 _ _ (.slice none 0 0) h5
 have h7:=heap_setCell_same _ b 7 _ _ (.slice none 0 0) h6
 have h8:=heap_setCell_same _ b 8 _ _ (.slice (some ⟨g,0,none⟩) n n) h7
 have h9:=heap_setCell_same _ b 9 _ _ (.slice none 0 0) h8
 rw [h9];simp
theorem chain_bel {w1 W:World}{b g n:Nat}{vd vn v3:Value}{pl:Int} (h:Below w1.heap.size w1 W) (hb:w1.heap.size≤b):Below w1.heap.size w1 ((((((((((W.setCell ⟨b,0,none⟩ (vd)).setCell ⟨b,1,none⟩ (vn)).setCell ⟨b,2,none⟩ (.int .i64 pl)).setCell ⟨b,3,none⟩ (v3)).setCell ⟨b,4,none⟩ (.slice none 0 0)).setCell ⟨b,5,none⟩ (.slice none 0 0)).setCell ⟨b,6,none⟩ (.slice none 0 0)).setCell ⟨b,7,none⟩ (.slice none 0 0)).setCell ⟨b,8,none⟩ (.slice (some ⟨g,0,none⟩) n n)).setCell ⟨b,9,none⟩ (.slice none 0 0)):=
 ((((((((((h.setCell hb _).setCell hb _).setCell hb _).setCell hb _).setCell hb _).setCell hb _).setCell hb _).setCell hb _).setCell hb _).setCell hb _)
theorem chain_oth {W:World}{b g n k:Nat}{vd vn v3:Value}{pl:Int} (h:k≠b):((((((((((W.setCell ⟨b,0,none⟩ (vd)).setCell ⟨b,1,none⟩ (vn)).setCell ⟨b,2,none⟩ (.int .i64 pl)).setCell ⟨b,3,none⟩ (v3)).setCell ⟨b,4,none⟩ (.slice none 0 0)).setCell ⟨b,5,none⟩ (.slice none 0 0)).setCell ⟨b,6,none⟩ (.slice none 0 0)).setCell ⟨b,7,none⟩ (.slice none 0 0)).setCell ⟨b,8,none⟩ (.slice (some ⟨g,0,none⟩) n n)).setCell ⟨b,9,none⟩ (.slice none 0 0)).heap[k]? = W.heap[k]?:=by
 have hk:∀ (W:World) (i:Nat) (v:Value),(W.setCell ⟨b,i,none⟩ v).heap[k]? = W.heap[k]?:=fun W i v=>heap_setCell_other W ⟨b,i,none⟩ k v h
 rw [hk,hk,hk,hk,hk,hk,hk,hk,hk,hk]
section
variable {w1 w3:World} {vd vn v3:Value} {q n:Nat} {ds:List Dc} {ns:List Nd} {lk:List Rt} {pl:Int} (hP:ProgAt w1 q ds ns vd vn) (hn:ds.length=n) (hdl:ds.length≤300) (hbb:Below w1.heap.size w1 w3)
include hP hn hdl hbb
theorem startA (h3:w3.ownsRow w1.heap.size 111 3 v3 lk.length (rtCells lk)) :
  Wr ((w3.alloc (.cells (madeCells #[.int .i64 0] n) 3)).alloc (.cells #[vd,vn,.int .i64 pl,v3,.slice none 0 0,.slice none 0 0,.slice none 0 0,.slice none 0 0,.slice (some ⟨w3.heap.size,0,none⟩) n n,.slice none 0 0] 103)) (fun k=>k<w1.heap.size) (w3.heap.size+1) pl ds ns lk (mZero ds)∧Below w1.heap.size w1 ((w3.alloc (.cells (madeCells #[.int .i64 0] n) 3)).alloc (.cells #[vd,vn,.int .i64 pl,v3,.slice none 0 0,.slice none 0 0,.slice none 0 0,.slice none 0 0,.slice (some ⟨w3.heap.size,0,none⟩) n n,.slice none 0 0] 103)):=by
 subst hn
 have hs:=hbb.size
 have hb:=(hbb.alloc hbb.size (.cells (madeCells #[.int .i64 0] ds.length) 3)).alloc (by simp;omega) (.cells #[vd,vn,.int .i64 pl,v3,.slice none 0 0,.slice none 0 0,.slice none 0 0,.slice none 0 0,.slice (some ⟨w3.heap.size,0,none⟩) ds.length ds.length,.slice none 0 0] 103)
 refine ⟨wr_start hP hb (b:=w3.heap.size+1) (g:=w3.heap.size) (by omega) hs (by omega) ?_ ?_ ((h3.alloc _).alloc _) (fun e=>by have:=(h3.lt _ e).2;omega) (fun e=>by have:=(h3.lt _ e).2;omega) hdl,hb⟩
 ·have:=heap_alloc_new (w3.alloc (.cells (madeCells #[.int .i64 0] ds.length) 3)) (.cells #[vd,vn,.int .i64 pl,v3,.slice none 0 0,.slice none 0 0,.slice none 0 0,.slice none 0 0,.slice (some ⟨w3.heap.size,0,none⟩) ds.length ds.length,.slice none 0 0] 103)
  rw [World.size_alloc] at this
  exact this
 ·exact (World.rowIs_made w3 (.int .i64 0) ds.length 3).of_block (Below.heap_alloc _ _ _ (by simp))
theorem startB (h3:w3.ownsRow w1.heap.size 111 3 v3 lk.length (rtCells lk)) :
  Wr ((w3.alloc (.cells #[vd,vn,.int .i64 pl,v3,.slice none 0 0,.slice none 0 0,.slice none 0 0,.slice none 0 0,.slice (some ⟨w3.heap.size+1,0,none⟩) n n,.slice none 0 0] 103)).alloc (.cells (madeCells #[.int .i64 0] n) 3)) (fun k=>k<w1.heap.size) w3.heap.size pl ds ns lk (mZero ds)∧Below w1.heap.size w1 ((w3.alloc (.cells #[vd,vn,.int .i64 pl,v3,.slice none 0 0,.slice none 0 0,.slice none 0 0,.slice none 0 0,.slice (some ⟨w3.heap.size+1,0,none⟩) n n,.slice none 0 0] 103)).alloc (.cells (madeCells #[.int .i64 0] n) 3)):=by
 subst hn
 have hs:=hbb.size
 have hb:=(hbb.alloc hbb.size (.cells #[vd,vn,.int .i64 pl,v3,.slice none 0 0,.slice none 0 0,.slice none 0 0,.slice none 0 0,.slice (some ⟨w3.heap.size+1,0,none⟩) ds.length ds.length,.slice none 0 0] 103)).alloc (by simp;omega) (.cells (madeCells #[.int .i64 0] ds.length) 3)
 refine ⟨wr_start hP hb (b:=w3.heap.size) (g:=w3.heap.size+1) hs (by omega) (by omega) ?_ ?_ ((h3.alloc _).alloc _) (fun e=>by have:=(h3.lt _ e).2;omega) (fun e=>by have:=(h3.lt _ e).2;omega) hdl,hb⟩
 ·exact (Below.heap_alloc _ _ _ (by simp)).trans (heap_alloc_new w3 _)
 ·have:=World.rowIs_made (w3.alloc (.cells #[vd,vn,.int .i64 pl,v3,.slice none 0 0,.slice none 0 0,.slice none 0 0,.slice none 0 0,.slice (some ⟨w3.heap.size+1,0,none⟩) ds.length ds.length,.slice none 0 0] 103)) (.int .i64 0) ds.length 3
  rw [World.size_alloc] at this
  exact this
theorem startC {W:World} (hW:W=w1.alloc (.cells (madeCells #[.int .i64 0] n) 3)) (hb3:Below W.heap.size W w3) (h3:w3.ownsRow W.heap.size 111 3 v3 lk.length (rtCells lk)) :
  Wr (w3.alloc (.cells #[vd,vn,.int .i64 pl,v3,.slice none 0 0,.slice none 0 0,.slice none 0 0,.slice none 0 0,.slice (some ⟨w1.heap.size,0,none⟩) n n,.slice none 0 0] 103)) (fun k=>k<w1.heap.size) w3.heap.size pl ds ns lk (mZero ds)∧Below w1.heap.size w1 (w3.alloc (.cells #[vd,vn,.int .i64 pl,v3,.slice none 0 0,.slice none 0 0,.slice none 0 0,.slice none 0 0,.slice (some ⟨w1.heap.size,0,none⟩) n n,.slice none 0 0] 103)):=by
 subst hn
 have hs:=hbb.size
 have hsW:W.heap.size=w1.heap.size+1:=by rw [hW];simp
 have hb:=hbb.alloc hbb.size (.cells #[vd,vn,.int .i64 pl,v3,.slice none 0 0,.slice none 0 0,.slice none 0 0,.slice none 0 0,.slice (some ⟨w1.heap.size,0,none⟩) ds.length ds.length,.slice none 0 0] 103)
 have hs3:=hb3.size
 refine ⟨wr_start hP hb (b:=w3.heap.size) (g:=w1.heap.size) hs (Nat.le_refl _) (by omega) (heap_alloc_new w3 _) ?_ ((own_wkO h3 (by omega)).alloc _) (fun e=>by have:=(h3.lt _ e).2;omega) (fun e=>by have:=(h3.lt _ e).1;omega) hdl,hb⟩
 have h1:=World.rowIs_made w1 (.int .i64 0) ds.length 3
 rw [← hW] at h1
 exact (h1.of_block (hb3.block _ (by omega))).of_block (Below.heap_alloc _ _ _ (by omega))
theorem startD {W:World} (hW:W=(w1.alloc (.cells (madeCells #[.int .i64 0] n) 3)).alloc (.cells #[.slice none 0 0,.slice none 0 0,.int .i64 0,.slice none 0 0,.slice none 0 0,.slice none 0 0,.slice none 0 0,.slice none 0 0,.slice none 0 0,.slice none 0 0] 103)) (hb3:Below W.heap.size W w3) (h3:w3.ownsRow W.heap.size 111 3 v3 lk.length (rtCells lk)) :
  Wr ((((((((((w3.setCell ⟨w1.heap.size+1,0,none⟩ (vd)).setCell ⟨w1.heap.size+1,1,none⟩ (vn)).setCell ⟨w1.heap.size+1,2,none⟩ (.int .i64 pl)).setCell ⟨w1.heap.size+1,3,none⟩ (v3)).setCell ⟨w1.heap.size+1,4,none⟩ (.slice none 0 0)).setCell ⟨w1.heap.size+1,5,none⟩ (.slice none 0 0)).setCell ⟨w1.heap.size+1,6,none⟩ (.slice none 0 0)).setCell ⟨w1.heap.size+1,7,none⟩ (.slice none 0 0)).setCell ⟨w1.heap.size+1,8,none⟩ (.slice (some ⟨w1.heap.size,0,none⟩) n n)).setCell ⟨w1.heap.size+1,9,none⟩ (.slice none 0 0)) (fun k=>k<w1.heap.size) (w1.heap.size+1) pl ds ns lk (mZero ds)∧Below w1.heap.size w1 ((((((((((w3.setCell ⟨w1.heap.size+1,0,none⟩ (vd)).setCell ⟨w1.heap.size+1,1,none⟩ (vn)).setCell ⟨w1.heap.size+1,2,none⟩ (.int .i64 pl)).setCell ⟨w1.heap.size+1,3,none⟩ (v3)).setCell ⟨w1.heap.size+1,4,none⟩ (.slice none 0 0)).setCell ⟨w1.heap.size+1,5,none⟩ (.slice none 0 0)).setCell ⟨w1.heap.size+1,6,none⟩ (.slice none 0 0)).setCell ⟨w1.heap.size+1,7,none⟩ (.slice none 0 0)).setCell ⟨w1.heap.size+1,8,none⟩ (.slice (some ⟨w1.heap.size,0,none⟩) n n)).setCell ⟨w1.heap.size+1,9,none⟩ (.slice none 0 0)):=by
 have hsW:W.heap.size=w1.heap.size+2:=by rw [hW];simp
 have hb:=chain_bel (b:=w1.heap.size+1) (g:=w1.heap.size) (n:=n) (vd:=vd) (vn:=vn) (v3:=v3) (pl:=pl) hbb (by omega)
 have hs3:=hb3.size
 have hz:w3.heap[w1.heap.size+1]? = some (.cells #[.slice none 0 0,.slice none 0 0,.int .i64 0,.slice none 0 0,.slice none 0 0,.slice none 0 0,.slice none 0 0,.slice none 0 0,.slice none 0 0,.slice none 0 0] 103):=by
  rw [hb3.block _ (by omega),hW]
  have:=heap_alloc_new (w1.alloc (.cells (madeCells #[.int .i64 0] n) 3)) (.cells #[.slice none 0 0,.slice none 0 0,.int .i64 0,.slice none 0 0,.slice none 0 0,.slice none 0 0,.slice none 0 0,.slice none 0 0,.slice none 0 0,.slice none 0 0] 103)
  rw [World.size_alloc] at this
  exact this
 subst hn
 refine ⟨wr_start hP hb (b:=w1.heap.size+1) (g:=w1.heap.size) (by omega) (Nat.le_refl _) (by omega) (chain_at hz) ?_ (own_wkO (own_eqb h3 (fun k hk=>chain_oth (by have:=(h3.lt _ hk).1;omega))) (by omega)) (fun e=>by have:=(h3.lt _ e).1;omega) (fun e=>by have:=(h3.lt _ e).1;omega) hdl,hb⟩
 have h1:=World.rowIs_made w1 (.int .i64 0) ds.length 3
 have h2:W.rowIs w1.heap.size 3 ds.length (fun _=>.int .i64 0):=by rw [hW];exact h1.of_block (Below.heap_alloc _ _ _ (by simp))
 exact (h2.of_block (hb3.block _ (by omega))).of_block (chain_oth (by omega))
theorem startE {W:World} (hW:W=(w1.alloc (.cells #[.slice none 0 0,.slice none 0 0,.int .i64 0,.slice none 0 0,.slice none 0 0,.slice none 0 0,.slice none 0 0,.slice none 0 0,.slice none 0 0,.slice none 0 0] 103)).alloc (.cells (madeCells #[.int .i64 0] n) 3)) (hb3:Below W.heap.size W w3) (h3:w3.ownsRow W.heap.size 111 3 v3 lk.length (rtCells lk)) :
  Wr ((((((((((w3.setCell ⟨w1.heap.size,0,none⟩ (vd)).setCell ⟨w1.heap.size,1,none⟩ (vn)).setCell ⟨w1.heap.size,2,none⟩ (.int .i64 pl)).setCell ⟨w1.heap.size,3,none⟩ (v3)).setCell ⟨w1.heap.size,4,none⟩ (.slice none 0 0)).setCell ⟨w1.heap.size,5,none⟩ (.slice none 0 0)).setCell ⟨w1.heap.size,6,none⟩ (.slice none 0 0)).setCell ⟨w1.heap.size,7,none⟩ (.slice none 0 0)).setCell ⟨w1.heap.size,8,none⟩ (.slice (some ⟨w1.heap.size+1,0,none⟩) n n)).setCell ⟨w1.heap.size,9,none⟩ (.slice none 0 0)) (fun k=>k<w1.heap.size) w1.heap.size pl ds ns lk (mZero ds)∧Below w1.heap.size w1 ((((((((((w3.setCell ⟨w1.heap.size,0,none⟩ (vd)).setCell ⟨w1.heap.size,1,none⟩ (vn)).setCell ⟨w1.heap.size,2,none⟩ (.int .i64 pl)).setCell ⟨w1.heap.size,3,none⟩ (v3)).setCell ⟨w1.heap.size,4,none⟩ (.slice none 0 0)).setCell ⟨w1.heap.size,5,none⟩ (.slice none 0 0)).setCell ⟨w1.heap.size,6,none⟩ (.slice none 0 0)).setCell ⟨w1.heap.size,7,none⟩ (.slice none 0 0)).setCell ⟨w1.heap.size,8,none⟩ (.slice (some ⟨w1.heap.size+1,0,none⟩) n n)).setCell ⟨w1.heap.size,9,none⟩ (.slice none 0 0)):=by
 have hsW:W.heap.size=w1.heap.size+2:=by rw [hW];simp
 have hb:=chain_bel (b:=w1.heap.size) (g:=w1.heap.size+1) (n:=n) (vd:=vd) (vn:=vn) (v3:=v3) (pl:=pl) hbb (by omega)
 have hs3:=hb3.size
 have hz:w3.heap[w1.heap.size]? = some (.cells #[.slice none 0 0,.slice none 0 0,.int .i64 0,.slice none 0 0,.slice none 0 0,.slice none 0 0,.slice none 0 0,.slice none 0 0,.slice none 0 0,.slice none 0 0] 103):=by
  rw [hb3.block _ (by omega),hW]
  exact (Below.heap_alloc _ _ _ (by simp)).trans (heap_alloc_new w1 _)
 subst hn
 refine ⟨wr_start hP hb (b:=w1.heap.size) (g:=w1.heap.size+1) (by omega) (by omega) (by omega) (chain_at hz) ?_ (own_wkO (own_eqb h3 (fun k hk=>chain_oth (by have:=(h3.lt _ hk).1;omega))) (by omega)) (fun e=>by have:=(h3.lt _ e).1;omega) (fun e=>by have:=(h3.lt _ e).1;omega) hdl,hb⟩
 have h1:=World.rowIs_made (w1.alloc (.cells #[.slice none 0 0,.slice none 0 0,.int .i64 0,.slice none 0 0,.slice none 0 0,.slice none 0 0,.slice none 0 0,.slice none 0 0,.slice none 0 0,.slice none 0 0] 103)) (.int .i64 0) ds.length 3
 rw [World.size_alloc,← hW] at h1
 exact (h1.of_block (hb3.block _ (by omega))).of_block (chain_oth (by omega))
theorem startF {W:World} (hW:W=w1.alloc (.cells #[.slice none 0 0,.slice none 0 0,.int .i64 0,.slice none 0 0,.slice none 0 0,.slice none 0 0,.slice none 0 0,.slice none 0 0,.slice none 0 0,.slice none 0 0] 103)) (hb3:Below W.heap.size W w3) (h3:w3.ownsRow W.heap.size 111 3 v3 lk.length (rtCells lk)) :
  Wr (((((((((((w3.alloc (.cells (madeCells #[.int .i64 0] n) 3)).setCell ⟨w1.heap.size,0,none⟩ (vd)).setCell ⟨w1.heap.size,1,none⟩ (vn)).setCell ⟨w1.heap.size,2,none⟩ (.int .i64 pl)).setCell ⟨w1.heap.size,3,none⟩ (v3)).setCell ⟨w1.heap.size,4,none⟩ (.slice none 0 0)).setCell ⟨w1.heap.size,5,none⟩ (.slice none 0 0)).setCell ⟨w1.heap.size,6,none⟩ (.slice none 0 0)).setCell ⟨w1.heap.size,7,none⟩ (.slice none 0 0)).setCell ⟨w1.heap.size,8,none⟩ (.slice (some ⟨w3.heap.size,0,none⟩) n n)).setCell ⟨w1.heap.size,9,none⟩ (.slice none 0 0)) (fun k=>k<w1.heap.size) w1.heap.size pl ds ns lk (mZero ds)∧Below w1.heap.size w1 (((((((((((w3.alloc (.cells (madeCells #[.int .i64 0] n) 3)).setCell ⟨w1.heap.size,0,none⟩ (vd)).setCell ⟨w1.heap.size,1,none⟩ (vn)).setCell ⟨w1.heap.size,2,none⟩ (.int .i64 pl)).setCell ⟨w1.heap.size,3,none⟩ (v3)).setCell ⟨w1.heap.size,4,none⟩ (.slice none 0 0)).setCell ⟨w1.heap.size,5,none⟩ (.slice none 0 0)).setCell ⟨w1.heap.size,6,none⟩ (.slice none 0 0)).setCell ⟨w1.heap.size,7,none⟩ (.slice none 0 0)).setCell ⟨w1.heap.size,8,none⟩ (.slice (some ⟨w3.heap.size,0,none⟩) n n)).setCell ⟨w1.heap.size,9,none⟩ (.slice none 0 0)):=by
 have hsW:W.heap.size=w1.heap.size+1:=by rw [hW];simp
 have hb:=chain_bel (b:=w1.heap.size) (g:=w3.heap.size) (n:=n) (vd:=vd) (vn:=vn) (v3:=v3) (pl:=pl) (hbb.alloc hbb.size (.cells (madeCells #[.int .i64 0] n) 3)) (by omega)
 have hs3:=hb3.size
 have hz:(w3.alloc (.cells (madeCells #[.int .i64 0] n) 3)).heap[w1.heap.size]? = some (.cells #[.slice none 0 0,.slice none 0 0,.int .i64 0,.slice none 0 0,.slice none 0 0,.slice none 0 0,.slice none 0 0,.slice none 0 0,.slice none 0 0,.slice none 0 0] 103):=by
  rw [Below.heap_alloc _ _ _ (by omega),hb3.block _ (by omega),hW]
  exact heap_alloc_new w1 _
 subst hn
 refine ⟨wr_start hP hb (b:=w1.heap.size) (g:=w3.heap.size) (by omega) (by omega) (by omega) (chain_at hz) ?_ (own_wkO (own_eqb (h3.alloc _) (fun k hk=>chain_oth (by have:=(h3.lt _ hk).1;omega))) (by omega)) (fun e=>by have:=(h3.lt _ e).1;omega) (fun e=>by have:=(h3.lt _ e).2;omega) hdl,hb⟩
 exact (World.rowIs_made w3 (.int .i64 0) ds.length 3).of_block (chain_oth (by omega))
end
def mOf (x:WSt × List Nat):WM:=⟨x.1,[],[],x.2⟩
theorem tCells_set (l:List Nat) (t r:Nat):tCells (l.set t r)=(tCells l).set t (.int .i64 (r:Int)):=by unfold tCells;rw [List.map_set]
theorem WrV.root {w:World}{X:Nat→Prop}{b:Nat}{pl:Int}{ds:List Dc}{ns:List Nd}{lk:List Rt}{m:WM}{v:Nat→Value} (h:WrV w X b pl (wRow ds ns lk m) v) {g8 c8:Nat} (e8:v 8 = .slice (some ⟨g8,0,none⟩) m.rs.length c8) (t r:Nat) :
  WrV (w.setCell ⟨g8,t,none⟩ (.int .i64 (r:Int))) X b pl (wRow ds ns lk { m with rs:=m.rs.set t r }) v∧Fr X w (w.setCell ⟨g8,t,none⟩ (.int .i64 (r:Int))):=by
 have h8:w.ownsRow 0 3 1 (.slice (some ⟨g8,0,none⟩) m.rs.length c8) m.rs.length (tCells m.rs):=by rw [← e8];exact h.rows 8
 have hs:=(h8.stored t (.int .i64 (r:Int))).1
 have hg8:(v 8).ownBlock=some g8:=by rw [e8];rfl
 have hne:g8≠b:=fun e=>h.nb 8 (by rw [hg8,e])
 refine ⟨⟨(heap_setCell_other w ⟨g8,t,none⟩ b _ (Ne.symm hne)).trans h.at_b,fun i=>?_,h.apart,h.nb,fun k hk=>by simpa using h.xlt k hk,h.xb,h.xv⟩,(Fr.refl _ _).setCell (h.xv 8 g8 (by omega) hg8) _⟩
 by_cases e:i=8
 ·subst e
  show (w.setCell ⟨g8,t,none⟩ (.int .i64 (r:Int))).ownsRow 0 3 1 (v 8) (m.rs.set t r).length (tCells (m.rs.set t r))
  rw [e8,List.length_set,tCells_set]
  exact hs
 ·have hr:wRow ds ns lk { m with rs:=m.rs.set t r } i=wRow ds ns lk m i:=by
   match i,e with
   | 0,_ | 1,_ | 2,_ | 3,_ | 4,_ | 5,_ | 6,_ | 7,_ | 9,_=>rfl
   | 8,h=>exact absurd rfl h
   | n+10,_=>rfl
  rw [hr]
  exact own_eqb (h.rows i) (fun k hk=>heap_setCell_other w ⟨g8,t,none⟩ k _ (fun e2=>h.apart i 8 k e hk (by rw [hg8];exact congrArg some e2.symm)))
theorem room_turn {ts:List Tk}{L:List Dl}{ds:List Dc}{ns:List Nd}{pl:Int} (W:WKnow ts L ds ns) {lk:List Rt} (hlk:lk=toPl pl (routesR ts L)) {T:List Nat} (hO:OrdOk ds (markAll ds ns 0 ds noM) T) (hnd:T.Nodup) (hsp:Spell ts L 0) (h15:ts.length≤1501) {j:Nat} (hj:j<T.length) {z:Dl} (hz:EqAt ts L ds ns T[j] z) (hp:((plAt ds ((T[j]:Nat):Int):Nat):Int)=pl) :
  Room ts (wRoots ts L ds pl lk (T.take j) (xZero ds)).1 z.t (z.i+5):=by
 have hR:=roots_inv W hlk hO j (by omega)
 have hlL:L.length=ds.length:=W.hB.dx.len
 have hTl:∀ t∈T.take (j+1),t<L.length:=fun t ht=>by
  obtain ⟨d,hd,_⟩:=hO.eqn t (List.mem_of_mem_take ht)
  have:=(List.getElem?_eq_some_iff.1 hd).1
  omega
 have hnd':(T.take (j+1)).Nodup:=hnd.sublist (List.take_sublist _ _)
 have s1:=sum_nodup (fun t=>lenOf ts pl (dlOf L t)) L.length (T.take (j+1)) hnd' hTl
 have s2:=sum_nodup (fun t=>fbyOf ts pl (dlOf L t)) L.length (T.take (j+1)) hnd' hTl
 rw [sum_dl] at s1 s2
 have s3:=spell_sum L 0 hsp
 have s4:=len_sum ts pl L
 have s5:=fby_len ts pl L
 rw [List.take_succ_eq_append_getElem hj,List.map_append,List.sum_append] at s1 s2
 simp only [List.map_cons,List.map_nil,List.sum_cons,List.sum_nil] at s1 s2
 have hp':((placeD ts z:Nat):Int)=pl:=by rw [← hz.place];exact hp
 have hdl:=dlOf_at hz.zat
 have e1:lenOf ts pl (dlOf L T[j])=z.t.len:=by unfold lenOf;rw [hdl,if_pos ⟨hz.kind,hp'⟩]
 have e2:fbyOf ts pl (dlOf L T[j])=fbyT ts (z.i+5) z.t.len:=by unfold fbyOf;rw [hdl,if_pos ⟨hz.kind,hp'⟩]
 rw [e1] at s1
 rw [e2] at s2
 have h1:=hR.bo
 have h2:=hR.bc
 have h3:=hR.sm
 exact ⟨by omega,by omega,by omega⟩
theorem next_pre {ts:List Tk}{L:List Dl}{ds:List Dc}{ns:List Nd}{pl:Int} (W:WKnow ts L ds ns) {lk:List Rt} (hlk:lk=toPl pl (routesR ts L)) {T:List Nat} (hO:OrdOk ds (markAll ds ns 0 ds noM) T) (hnd:T.Nodup) (hsp:Spell ts L 0) (h15:ts.length≤1501) :
  ∃ BO BC,BO≤1500∧BC≤1500∧NxInv ts L ds ns pl lk BO BC 0 (rootsW ts L ds pl lk T).1 []∧lw ((rootsW ts L ds pl lk T).1.later.drop 0)<ts.length+1∧(rootsW ts L ds pl lk T).2.length=ds.length∧
   (∀ (a:Nat) (d:Dc),ds[a]? = some d→d.kind≠0→((plAt ds (a:Int):Nat):Int)=pl→(rootsW ts L ds pl lk T).2.getD a 0<(rootsW ts L ds pl lk T).1.ops.length):=by
 have hR:=roots_all W hlk hO
 have hlL:L.length=ds.length:=W.hB.dx.len
 have hTl:∀ t∈T,t<L.length:=fun t ht=>by
  obtain ⟨d,hd,_⟩:=hO.eqn t ht
  have:=(List.getElem?_eq_some_iff.1 hd).1
  omega
 have s1:=sum_nodup (fun t=>lenOf ts pl (dlOf L t)) L.length T hnd hTl
 have s2:=sum_nodup (fun t=>fbyOf ts pl (dlOf L t)) L.length T hnd hTl
 rw [sum_dl] at s1 s2
 have s3:=spell_sum L 0 hsp
 have s4:=len_sum ts pl L
 have s5:=fby_len ts pl L
 have hbo:=hR.bo
 have hbc:=hR.bc
 refine ⟨(L.map (lenOf ts pl)).sum,(L.map (fbyOf ts pl)).sum,by omega,by omega,⟨hR.sm,hR.ok,hR.lt,rfl,Nat.zero_le _,fun r hr=>by simp at hr,by rw [List.drop_zero];omega,by rw [List.drop_zero];omega⟩,by rw [List.drop_zero];omega,hR.len,fun a d h1 h2 h3=>hR.top a (hO.all a d h1 h2) h3⟩
theorem own_ge {w:World}{B e size n:Nat}{v:Value}{xs:List Value} (h:w.ownsRow 0 e size v n xs) (hb:∀ g,v.ownBlock=some g→B≤g):w.ownsRow B e size v n xs:=by
 refine ⟨h.1,?_⟩
 rcases h.2 with h0 | ⟨g,cap,cur,rfl,_,hr⟩
 ·exact .inl h0
 ·exact .inr ⟨g,cap,cur,rfl,hb g rfl,hr⟩
theorem tCells_int (l:List Nat):tCells l=iCells (l.map fun (n:Nat)=>(n:Int)):=by unfold tCells iCells;rw [List.map_map];rfl
end Go.Proofs.YtecegaflhdgfaaaGreat
namespace Go.Proofs.YtecegaflhdgfaaaGreat
open Go.RowKit
attribute [local go_sem ↓] Go.wp_at_zero Go.wp_at_succ
theorem rnumber_any (w:World) (b:Bool) :
  Calls Tryz.prog 53 #[.bool b] w fun e w'=>e = .returned (.int .i64 (b2i b))∧Below w.heap.size w w':=by
 cases b
 all_goals
  go_enter Tryz.func53,Tryz.ntmps53
  go_wp2
  go_ret
  exact ⟨rfl,Below.refl _ _⟩
set_option maxHeartbeats 2000000 in
theorem rapply_any (o:ByteArray) (w:World) (x y:Int) :
  Calls Tryz.prog 86 #[.string o,.int .i64 x,.int .i64 y] w fun e w'=>e = .returned (.int .i64 (apF o.data.toList x y))∧Below w.heap.size w w':=by
 by_cases h1:o.data.toList=[43]
 ·have HF:Hid (apF o.data.toList x y=w64 (x+y)):=hide (by rw [h1];rfl)
  have q1:=str_yes h1
  clear h1
  go_enter Tryz.func86,Tryz.ntmps86
  go_wp2
  go_ret
  exact ⟨by rw [HF.out];rfl,Below.refl _ _⟩
 have q1:=str_no h1
 by_cases h2:o.data.toList=[45]
 ·have HF:Hid (apF o.data.toList x y=w64 (x - y)):=hide (by rw [h2];rfl)
  have q2:=str_yes h2
  clear h1 h2
  go_enter Tryz.func86,Tryz.ntmps86
  go_wp2
  go_ret
  exact ⟨by rw [HF.out];rfl,Below.refl _ _⟩
 have q2:=str_no h2
 by_cases h3:o.data.toList=[42]
 ·have HF:Hid (apF o.data.toList x y=w64 (x * y)):=hide (by rw [h3];rfl)
  have q3:=str_yes h3
  clear h1 h2 h3
  go_enter Tryz.func86,Tryz.ntmps86
  go_wp2
  go_ret
  exact ⟨by rw [HF.out];rfl,Below.refl _ _⟩
 have q3:=str_no h3
 by_cases h4:o.data.toList=[47]
 ·have q4:=str_yes h4
  by_cases hy:y=0
  ·have HF:Hid (apF o.data.toList x y=0):=hide (by rw [h4,hy];rfl)
   have q5:(y == 0)=true:=by rw [hy];rfl
   clear h1 h2 h3 h4 hy
   go_enter Tryz.func86,Tryz.ntmps86
   go_wp2
   go_ret
   exact ⟨by rw [HF.out];rfl,Below.refl _ _⟩
  ·have HF:Hid (apF o.data.toList x y=w64 (x.tdiv y)):=hide (by rw [h4];show (if y=0 then 0 else w64 (x.tdiv y))=_;rw [if_neg hy])
   have q5:(y == 0)=false:=by rw [beq_eq_false_iff_ne];exact hy
   clear h1 h2 h3 h4
   go_enter Tryz.func86,Tryz.ntmps86
   go_wp2
   go_ret
   exact ⟨by rw [HF.out];rfl,Below.refl _ _⟩
 have q4:=str_no h4
 by_cases h5:o.data.toList=[60]
 ·have HF:Hid (apF o.data.toList x y=b2i (decide (x<y))):=hide (by rw [h5];rfl)
  have q5:=str_yes h5
  have HN:=hide (fun W b=>rnumber_any W b)
  clear h1 h2 h3 h4 h5
  go_enter Tryz.func86,Tryz.ntmps86
  go_wp2_with fail
  refine (HN.out _ _).mono ?_
  rintro e w1 ⟨rfl,hb1⟩
  go_wp2
  go_ret
  exact ⟨by rw [HF.out];rfl,hb1⟩
 have q5:=str_no h5
 by_cases h6:o.data.toList=[61]
 ·have HF:Hid (apF o.data.toList x y=b2i (decide (x=y))):=hide (by rw [h6];rfl)
  have q6:=str_yes h6
  have HN:=hide (fun W b=>rnumber_any W b)
  clear h1 h2 h3 h4 h5 h6
  go_enter Tryz.func86,Tryz.ntmps86
  go_wp2_with fail
  refine (HN.out _ _).mono ?_
  rintro e w1 ⟨rfl,hb1⟩
  go_wp2
  go_ret
  exact ⟨by rw [HF.out];rfl,hb1⟩
 have q6:=str_no h6
 have HN:=hide (fun W b=>rnumber_any W b)
 have hcx:x=1∨(x == 1)=false:=by by_cases e:x=1 <;> simp [e]
 have hcy:y=1∨(y == 1)=false:=by by_cases e:y=1 <;> simp [e]
 by_cases h7:o.data.toList=[38]
 ·have HF:Hid (apF o.data.toList x y=b2i (decide (x=1) && decide (y=1))):=hide (by rw [h7];rfl)
  have q7:=str_yes h7
  clear h1 h2 h3 h4 h5 h6 h7
  rcases hcx with rfl | c1
  ·rcases hcy with rfl | c2
   all_goals
    go_enter Tryz.func86,Tryz.ntmps86
    go_wp2_with fail
    refine (HN.out _ _).mono ?_
    rintro e w1 ⟨rfl,hb1⟩
    go_wp2
    go_ret
    exact ⟨by rw [HF.out];simp_all,hb1⟩
  ·go_enter Tryz.func86,Tryz.ntmps86
   go_wp2_with fail
   refine (HN.out _ _).mono ?_
   rintro e w1 ⟨rfl,hb1⟩
   go_wp2
   go_ret
   exact ⟨by rw [HF.out];simp_all,hb1⟩
 have q7:=str_no h7
 have HF:Hid (apF o.data.toList x y=b2i (decide (x=1) || decide (y=1))):=hide (by unfold apF;rw [if_neg h1,if_neg h2,if_neg h3,if_neg h4,if_neg h5,if_neg h6,if_neg h7])
 clear h1 h2 h3 h4 h5 h6 h7
 rcases hcx with rfl | c1
 ·go_enter Tryz.func86,Tryz.ntmps86
  go_wp2_with fail
  refine (HN.out _ _).mono ?_
  rintro e w1 ⟨rfl,hb1⟩
  go_wp2
  go_ret
  exact ⟨by rw [HF.out];simp_all,hb1⟩
 ·rcases hcy with rfl | c2
  all_goals
   go_enter Tryz.func86,Tryz.ntmps86
   go_wp2_with fail
   refine (HN.out _ _).mono ?_
   rintro e w1 ⟨rfl,hb1⟩
   go_wp2
   go_ret
   exact ⟨by rw [HF.out];simp_all,hb1⟩
end Go.Proofs.YtecegaflhdgfaaaGreat
