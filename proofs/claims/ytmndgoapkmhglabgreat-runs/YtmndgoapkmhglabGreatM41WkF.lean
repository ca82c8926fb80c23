import Derived.Laws.CopyOwn
import Derived.Laws.Cover3
import Derived.Test.YtmndgoapkmhglabGreatM20OpC
import Derived.Test.YtmndgoapkmhglabGreatM32OpenT
import Derived.Test.YtmndgoapkmhglabGreatM35LawC
import Derived.Test.YtmndgoapkmhglabGreatM36RefX
import Derived.Test.YtmndgoapkmhglabGreatM39RefY
namespace Go.Proofs.YtmndgoapkmhglabGreat
open Go.RowKit
attribute [local go_sem ↓] Go.wp_at_zero Go.wp_at_succ
def RoomV (w:World) (B:Nat) (A:Option Addr) (xs:List Int) (v:Value):Prop:=
 (A=none∧v = .slice none 0 0)∨(A≠none∧∃ G,B≤G∧v = .slice (some ⟨G,0,none⟩) xs.length (xs.length+1)∧w.heap[G]? = some (.cells (iCells (xs ++ [-77])).toArray 3))
theorem RoomV.below {w w':World}{B:Nat}{A:Option Addr}{xs:List Int}{v:Value} (h:RoomV w B A xs v) (hb:Below w.heap.size w w'):RoomV w' B A xs v:=by
 rcases h with h | ⟨h1,G,h2,h3,h4⟩
 ·exact .inl h
 ·exact .inr ⟨h1,G,h2,h3,(hb.block G (Array.getElem?_eq_some_iff.1 h4).1).trans h4⟩
theorem RoomV.row {w:World}{B:Nat}{A:Option Addr}{xs:List Int}{v:Value} (h:RoomV w B A xs v) (h0:A=none→xs=[]) (hm:xs.length≤35184372088832):RowAt w v xs:=by
 rcases h with ⟨h1,rfl⟩ | ⟨h1,G,h2,rfl,h4⟩
 ·rw [h0 h1];exact ⟨none,0,rfl,by simp,fun hp=>by simp at hp⟩
 ·refine ⟨_,_,rfl,hm,fun hp=>⟨G,0,rfl,(Array.getElem?_eq_some_iff.1 h4).1,fun c hc=>?_⟩⟩
  rw [cell_of_row w G _ _ _ _ h4]
  simp [iCells,List.getElem?_append,hc]
theorem eql_nil {P:Program} (t e:TypeId) (h:P.underlying t=some (.slice e)) (w:World) (a:Option Addr) (l c:Nat):(binOp .eql t (.slice a l c) (.slice none 0 0)).run P w = .ok (.bool a.isNone) w:=by
 simp only [binOp]
 simp [run_equal_slice_nil w t e a l c h]
theorem made_rep (z:Value) (n:Nat):madeCells #[z] n=(List.replicate n z).toArray:=by
 apply Array.ext
 ·simp [madeCells]
 ·intro i h1 h2
  simp [madeCells,Nat.mod_one]
set_option maxHeartbeats 2000000 in
set_option maxRecDepth 100000 in
theorem lroomy_any (w:World) (A:Option Addr) (C:Nat) (xs:List Int) (h:RowAt w (.slice A xs.length C) xs) (h0:A=none→xs=[]) (hn:xs.length≤17592186044416) :
  Calls Tryz.prog 14 #[.slice A xs.length C] w fun e w'=>∃ v,e = .returned v∧RoomV w' w.heap.size A xs v∧Below w.heap.size w w':=by
 obtain ⟨A',C',he,hm,hc⟩:=h
 simp only [Value.slice.injEq,true_and] at he
 obtain ⟨rfl,rfl⟩:=he
 have hnil:=eql_nil (P:=Tryz.prog) 36 3 Tryz.underlying36
 cases A with
 | none=>
  have hx:=h0 rfl
  subst hx
  clear hc h0
  go_enter Tryz.func14,Tryz.ntmps14
  go_wp2
  go_ret
  exact ⟨_,rfl,.inl ⟨rfl,rfl⟩,Below.refl _ _⟩
 | some a=>
  have hm2:=run_make_row' (P:=Tryz.prog) 36 3 (.int .i64 0) 8 Tryz.underlying36 Tryz.infoInt rfl .i64 .i64 (xs.length+1) (by omega) (by omega)
  simp only [show ((xs.length+1:Nat):Int)=(xs.length:Int)+1 from by omega] at hm2
  have hsz:(Tryz.prog.info? 3).map (·.size)=some 1:=by have:=Tryz.infoInt;cases hq:Tryz.prog.info? 3 with | none=>rw [hq] at this;cases this | some i=>rw [hq] at this;simp at this;simp [this]
  obtain ⟨X,hX⟩:∃ X,X=iCells xs:=⟨_,rfl⟩
  have HX:=hide hX
  have hXl:X.length=xs.length:=by rw [hX];exact iCells_len xs
  have hpos:0<X.length→∃ ad,(some a:Option Addr)=some ad∧∀ o j v,X[j]? = some v→(w.alloc o).cell? (ad.add j)=some v:=fun hp=>by
   obtain ⟨b,o,h1,h2,h3⟩:=hc (by omega)
   refine ⟨⟨b,o,none⟩,h1,fun oo j v hv=>?_⟩
   rw [hX,iCells_get] at hv
   obtain ⟨x,hx,rfl⟩:=Option.map_eq_some_iff.1 hv
   obtain ⟨hj,rfl⟩:=List.getElem?_eq_some_iff.1 hx
   rw [Addr.add_lit,World.cell?_alloc_past _ _ _ h2]
   exact h3 j hj
  have hone:∀ v∈X,v.oneCell'=true:=fun v hv=>by
   rw [hX] at hv
   obtain ⟨x,_,rfl⟩:=List.mem_map.1 hv
   rfl
  obtain ⟨Z,hZ⟩:∃ Z,Z=List.replicate (xs.length+1) (Value.int .i64 0):=⟨_,rfl⟩
  have hZb:(w.alloc (.cells (madeCells #[.int .i64 0] (xs.length+1)) 3)).heap[w.heap.size]? = some (.cells Z.toArray 3 (0,0)):=by
   rw [heap_alloc_new,hZ,made_rep]
  have hZl:Z.length=xs.length+1:=by rw [hZ];simp
  have HZ:=hide hZ
  have HB0:=hide ((Below.refl w.heap.size w).alloc (Nat.le_refl _) (.cells (madeCells #[.int .i64 0] (xs.length+1)) 3))
  obtain ⟨w1,hcp,hg1,hb1⟩:∃ w1,(Builtin.copy_ #[36,36] 3 #[.slice (some ⟨w.heap.size,0,none⟩) (xs.length+1) (xs.length+1),.slice (some a) xs.length C]).run Tryz.prog (w.alloc (.cells (madeCells #[.int .i64 0] (xs.length+1)) 3)) = .ok (goInt xs.length) w1∧
    w1.heap[w.heap.size]? = some (.cells (iCells (xs ++ [0])).toArray 3 (0,0))∧Below w.heap.size w w1:=by
   have hmin:X.length=Nat.min xs.length (xs.length+1):=by rw [hXl];exact (Nat.min_eq_left (by omega)).symm
   rcases Nat.eq_zero_or_pos xs.length with hz | hp
   ·refine ⟨w.alloc (.cells (madeCells #[.int .i64 0] (xs.length+1)) 3),?_,hZb.trans ?_,HB0.out⟩
    ·have:=run_copy_none (P:=Tryz.prog) (w.alloc (.cells (madeCells #[.int .i64 0] (xs.length+1)) 3)) 36 36 3 3 (some ⟨w.heap.size,0,none⟩) (some a) (xs.length+1) (xs.length+1) xs.length C Tryz.underlying36 hsz (by rw [← hmin,hXl];exact hz)
     rw [this];simp [hz]
    ·rw [hZ,hz,List.eq_nil_of_length_eq_zero hz];rfl
   ·obtain ⟨ad,had,hsrc⟩:=hpos (by omega)
    cases had
    have hr:=run_copy_row (P:=Tryz.prog) (w.alloc (.cells (madeCells #[.int .i64 0] (xs.length+1)) 3)) 36 36 3 3 w.heap.size 0 (xs.length+1) (xs.length+1) a xs.length C Z.toArray 3 X Tryz.underlying36 hsz hZb hmin (hsrc _) (by simp;omega) hone
    rw [hXl] at hr
    refine ⟨_,hr,?_,below_setRow HB0.out (Nat.le_refl _) _⟩
    rw [setRow_heap _ _ _ _ _ _ hZb]
    congr 2
    rw [hZ,hX]
    simp [iCells,List.replicate_succ']
  have HG1:=hide hg1
  have HB1:=hide hb1
  have k1:w1.cell? ⟨w.heap.size,xs.length,none⟩=some (.int .i64 0):=by
   rw [cell_of_row w1 _ _ _ _ _ hg1]
   simp [iCells]
  have k2:w1.frozen? ⟨w.heap.size,xs.length,none⟩=false:=frozen_of_row w1 _ _ _ _ hg1
  have k3:(xs.length:Int)<(xs.length:Int)+1:=by omega
  have k4:(0:Int)≤(xs.length:Int):=by omega
  have HFIN:Hid ((w1.setCell ⟨w.heap.size,xs.length,none⟩ (.int .i64 (-77))).heap[w.heap.size]? = some (.cells (iCells (xs ++ [-77])).toArray 3)):=hide (by
   rw [heap_setCell_same w1 _ _ _ _ _ hg1]
   congr 2
   simp [iCells])
  clear hc h0 hX hZ hpos hone hZb hsz hXl hZl hg1 hb1
  go_enter Tryz.func14,Tryz.ntmps14
  go_wp2
  go_ret
  exact ⟨_,rfl,.inr ⟨by simp,w.heap.size,Nat.le_refl _,rfl,HFIN.out⟩,HB1.out.setCell (Nat.le_refl _) _⟩
theorem lwhole_any (w:World) (B:Nat) (A:Option Addr) (C:Nat) (xs:List Int) (v:Value) (hv:RoomV w B A xs v) (h:RowAt w (.slice A xs.length C) xs) (h0:A=none→xs=[]) (hn:xs.length≤17592186044416) :
  Calls Tryz.prog 24 #[v,.slice A xs.length C] w fun e w'=>e = .returned (.bool true)∧Below w.heap.size w w':=by
 have hnil:=eql_nil (P:=Tryz.prog) 36 3 Tryz.underlying36
 have hrow:=hv.row h0 (by omega)
 have HS:=hide (lsame_any w v (.slice A xs.length C) xs xs hrow h)
 rcases hv with ⟨rfl,rfl⟩ | ⟨hA,G,hG,rfl,hb⟩
 ·clear HS hrow h
  have hx:=h0 rfl
  subst hx
  go_enter Tryz.func24,Tryz.ntmps24
  go_wp2
  go_ret
  exact ⟨rfl,Below.refl _ _⟩
 ·have k1:∀ w',Below w.heap.size w w'→w'.cell? ⟨G,xs.length,none⟩=some (.int .i64 (-77)):=fun w' hb'=>by
   rw [hb'.cell (p:=⟨G,xs.length,none⟩) (Array.getElem?_eq_some_iff.1 hb).1,cell_of_row w _ _ _ _ _ hb]
   simp [iCells]
  have HK:=hide k1
  have k3:(xs.length:Int)<(xs.length:Int)+1:=by omega
  have k4:(0:Int)≤(xs.length:Int):=by omega
  have HE:Hid ((xs == xs)=true):=hide (by simp)
  clear k1 hrow h h0 hA hb
  go_enter Tryz.func24,Tryz.ntmps24
  go_wp2_with fail
  refine HS.out.mono ?_
  rintro e w1 ⟨rfl,hb1⟩
  rw [HE.out]
  have k1:=HK.out w1 hb1
  go_wp2
  go_ret
  exact ⟨rfl,hb1⟩
structure GivenAt (w:World) (B:Nat) (ins:List (List Int)) (AS:Nat→Option Addr) (go gi gm:Nat) (V:Nat→Value):Prop where
 out:w.heap[go]? = some (.cells (((List.range ins.length).map V ++ [Value.slice (some ⟨gm,0,none⟩) 1 1]).toArray) 36)
 inn:w.heap[gi]? = some (.cells ((List.range ins.length).map V).toArray 36)
 mark:w.heap[gm]? = some (.cells #[.int .i64 (-77)] 3)
 rows:∀ r,(h:r<ins.length)→RoomV w B (AS r) ins[r] (V r)
 b1:B≤go
 b2:B≤gi
 b3:B≤gm
theorem GivenAt.below {w w':World}{B:Nat}{ins:List (List Int)}{AS:Nat→Option Addr}{go gi gm:Nat}{V:Nat→Value} (h:GivenAt w B ins AS go gi gm V) (hb:Below w.heap.size w w'):GivenAt w' B ins AS go gi gm V:=
 ⟨(hb.block _ (Array.getElem?_eq_some_iff.1 h.out).1).trans h.out,(hb.block _ (Array.getElem?_eq_some_iff.1 h.inn).1).trans h.inn,(hb.block _ (Array.getElem?_eq_some_iff.1 h.mark).1).trans h.mark,fun r hr=>(h.rows r hr).below hb,h.b1,h.b2,h.b3⟩
def GivenV (w:World) (B:Nat) (A:Option Addr) (ins:List (List Int)) (AS:Nat→Option Addr) (vo vi:Value):Prop:=
 (A=none∧vo = .slice none 0 0∧vi = .slice none 0 0)∨
 (A≠none∧∃ go gi gm V,vo = .slice (some ⟨go,0,none⟩) ins.length (ins.length+1)∧vi = .slice (some ⟨gi,0,none⟩) ins.length ins.length∧GivenAt w B ins AS go gi gm V)
theorem GivenV.below {w w':World}{B:Nat}{A:Option Addr}{ins:List (List Int)}{AS:Nat→Option Addr}{vo vi:Value} (h:GivenV w B A ins AS vo vi) (hb:Below w.heap.size w w'):GivenV w' B A ins AS vo vi:=by
 rcases h with h | ⟨h1,go,gi,gm,V,h2,h3,h4⟩
 ·exact .inl h
 ·exact .inr ⟨h1,go,gi,gm,V,h2,h3,h4.below hb⟩
theorem GivenV.ls {w:World}{B:Nat}{A:Option Addr}{C:Nat}{ins:List (List Int)}{AS:Nat→Option Addr}{CS:Nat→Nat}{vo vi:Value} (h:GivenV w B A ins AS vo vi) (ha:ArgL w A C ins AS CS):LsAt w vo ins:=by
 have hf:=ha.few
 rcases h with ⟨h1,rfl,_⟩ | ⟨h1,go,gi,gm,V,rfl,_,h4⟩
 ·rw [ha.nil h1];exact ⟨none,0,rfl,by simp,fun hp=>by simp at hp⟩
 ·refine ⟨_,_,rfl,by omega,fun hp=>⟨go,0,rfl,(Array.getElem?_eq_some_iff.1 h4.out).1,fun r hr=>⟨V r,?_,(h4.rows r hr).row (ha.row r hr).2.1 (by have:=(ha.row r hr).2.2;omega)⟩⟩⟩
  rw [cell_of_row w go _ _ _ _ h4.out]
  simp [List.getElem?_append,hr]
theorem RoomV.weak {w:World}{B B':Nat}{A:Option Addr}{xs:List Int}{v:Value} (h:RoomV w B A xs v) (hb:B'≤B):RoomV w B' A xs v:=by
 rcases h with h | ⟨h1,G,h2,h3,h4⟩
 ·exact .inl h
 ·exact .inr ⟨h1,G,Nat.le_trans hb h2,h3,h4⟩
theorem RoomV.of {w w':World}{B:Nat}{A:Option Addr}{xs:List Int}{v:Value} (h:RoomV w B A xs v) (hb:∀ G,B≤G→G<w.heap.size→w'.heap[G]? = w.heap[G]?):RoomV w' B A xs v:=by
 rcases h with h | ⟨h1,G,h2,h3,h4⟩
 ·exact .inl h
 ·exact .inr ⟨h1,G,h2,h3,(hb G h2 (Array.getElem?_eq_some_iff.1 h4).1).trans h4⟩
structure Laying (w wr:World) (ins:List (List Int)) (AS:Nat→Option Addr) (k:Nat) (V:Nat→Value):Prop where
 bel:Below w.heap.size w wr
 size:w.heap.size+3≤wr.heap.size
 box:wr.heap[w.heap.size]? = some (.cells #[.slice none 0 0,.slice none 0 0] 25)
 out:wr.rowIs (w.heap.size+1) 36 (ins.length+1) (fun j=>if j<k then V j else .slice none 0 0)
 inn:wr.rowIs (w.heap.size+2) 36 ins.length (fun j=>if j<k then V j else .slice none 0 0)
 rows:∀ r,(h:r<ins.length)→r<k→RoomV wr (w.heap.size+3) (AS r) ins[r] (V r)
theorem Laying.next {w wr w1:World}{ins:List (List Int)}{AS:Nat→Option Addr}{k:Nat}{V:Nat→Value} (h:Laying w wr ins AS k V) (hk:k<ins.length) (hb:Below wr.heap.size wr w1) (v:Value) (hv:RoomV w1 wr.heap.size (AS k) (ins[k]'hk) v) :
  Laying w ((w1.setCell ⟨w.heap.size+1,k,none⟩ v).setCell ⟨w.heap.size+2,k,none⟩ v) ins AS (k+1) (fun j=>if j=k then v else V j):=by
 have hs:=h.size
 have hs1:=hb.size
 have oth:∀ b,b≠w.heap.size+1→b≠w.heap.size+2→((w1.setCell ⟨w.heap.size+1,k,none⟩ v).setCell ⟨w.heap.size+2,k,none⟩ v).heap[b]? = w1.heap[b]?:=fun b h1 h2=>(heap_setCell_other _ ⟨w.heap.size+2,k,none⟩ b _ h2).trans (heap_setCell_other _ ⟨w.heap.size+1,k,none⟩ b _ h1)
 have old:∀ b,b<wr.heap.size→w1.heap[b]? = wr.heap[b]?:=fun b hb'=>hb.block b hb'
 refine ⟨((h.bel.trans (hb.mono (by omega))).setCell (by show w.heap.size≤w.heap.size+1;omega) _).setCell (by show w.heap.size≤w.heap.size+2;omega) _,by simp;omega,?_,?_,?_,fun r hr hrk=>?_⟩
 ·rw [oth _ (by omega) (by omega),old _ (by omega)];exact h.box
 ·have h1:w1.rowIs (w.heap.size+1) 36 (ins.length+1) (fun j=>if j<k then V j else .slice none 0 0):=h.out.of_block (old _ (by omega))
  refine ((h1.set k v).setOther (a:=⟨w.heap.size+2,k,none⟩) (by show w.heap.size+1≠w.heap.size+2;omega) v).congr (fun j _=>?_)
  by_cases e:j=k
  ·subst e;simp
  ·by_cases hj:j<k
   ·rw [if_neg e,if_pos hj,if_pos (by omega),if_neg e]
   ·rw [if_neg e,if_neg hj,if_neg (by omega)]
 ·have h1:w1.rowIs (w.heap.size+2) 36 ins.length (fun j=>if j<k then V j else .slice none 0 0):=h.inn.of_block (old _ (by omega))
  refine ((h1.setOther (a:=⟨w.heap.size+1,k,none⟩) (by show w.heap.size+2≠w.heap.size+1;omega) v).set k v).congr (fun j _=>?_)
  by_cases e:j=k
  ·subst e;simp
  ·by_cases hj:j<k
   ·rw [if_neg e,if_pos hj,if_pos (by omega),if_neg e]
   ·rw [if_neg e,if_neg hj,if_neg (by omega)]
 ·by_cases e:r=k
  ·subst e
   simp only [if_true]
   exact (hv.weak hs).of (fun G hG _=>oth G (by omega) (by omega))
  ·simp only [if_neg e]
   exact ((h.rows r hr (by omega)).below hb).of (fun G hG _=>oth G (by omega) (by omega))
theorem Laying.done {w wr:World}{ins:List (List Int)}{AS:Nat→Option Addr}{V:Nat→Value} (h:Laying w wr ins AS ins.length V) (u0 u1:Value) :
  GivenAt ((((wr.alloc (.cells #[.int .i64 (-77)] 3)).setCell ⟨w.heap.size+1,ins.length,none⟩ (.slice (some ⟨wr.heap.size,0,none⟩) 1 1)).setCell ⟨w.heap.size,0,none⟩ u0).setCell ⟨w.heap.size,1,none⟩ u1) w.heap.size ins AS (w.heap.size+1) (w.heap.size+2) wr.heap.size V:=by
 have hs:=h.size
 have oth:∀ b,b≠w.heap.size→b≠w.heap.size+1→((((wr.alloc (.cells #[.int .i64 (-77)] 3)).setCell ⟨w.heap.size+1,ins.length,none⟩ (.slice (some ⟨wr.heap.size,0,none⟩) 1 1)).setCell ⟨w.heap.size,0,none⟩ u0).setCell ⟨w.heap.size,1,none⟩ u1).heap[b]? = (wr.alloc (.cells #[.int .i64 (-77)] 3)).heap[b]?:=fun b h1 h2=>
  ((heap_setCell_other _ ⟨w.heap.size,1,none⟩ b _ h1).trans (heap_setCell_other _ ⟨w.heap.size,0,none⟩ b _ h1)).trans (heap_setCell_other _ ⟨w.heap.size+1,ins.length,none⟩ b _ h2)
 refine ⟨?_,?_,?_,fun r hr=>?_,by omega,by omega,by omega⟩
 ·have h1:=((((h.out.alloc (.cells #[.int .i64 (-77)] 3)).set ins.length (.slice (some ⟨wr.heap.size,0,none⟩) 1 1)).setOther (a:=⟨w.heap.size,0,none⟩) (by show w.heap.size+1≠w.heap.size;omega) u0).setOther (a:=⟨w.heap.size,1,none⟩) (by show w.heap.size+1≠w.heap.size;omega) u1)
  obtain ⟨c,hc1,hc2,hc3⟩:=h1
  rw [hc1]
  congr 2
  apply Array.ext_getElem?
  intro j
  by_cases hj:j<ins.length+1
  ·rw [hc3 j hj]
   by_cases e:j=ins.length
   ·subst e;simp
   ·have hjl:j<ins.length:=by omega
    simp [List.getElem?_append,hjl,e]
  ·rw [Array.getElem?_eq_none (by omega),Array.getElem?_eq_none (by simp;omega)]
 ·have h1:=(((h.inn.alloc (.cells #[.int .i64 (-77)] 3))))
  obtain ⟨c,hc1,hc2,hc3⟩:=h1
  rw [oth _ (by omega) (by omega),hc1]
  congr 2
  apply Array.ext_getElem?
  intro j
  by_cases hj:j<ins.length
  ·rw [hc3 j hj]
   simp [hj]
  ·rw [Array.getElem?_eq_none (by omega),Array.getElem?_eq_none (by simp;omega)]
 ·rw [oth _ (by omega) (by omega)]
  exact heap_alloc_new wr _
 ·exact ((h.rows r hr hr).below ((Below.refl _ _).alloc (Nat.le_refl _) _)).of (fun G hG _=>oth G (by omega) (by omega)) |>.weak (by omega)
set_option maxHeartbeats 1000000 in
set_option maxRecDepth 100000 in
theorem rlater_any (w:World) (v:Value) (sc:List OpF) (h:OpsAt w v sc) (i:Nat) (hi:i<sc.length) :
  Calls Tryz.prog 44 #[v,.int .i64 i] w fun e w'=>e = .returned (.int .i64 (laterF sc i))∧Below w.heap.size w w':=by
 obtain ⟨A,C,rfl,hm,hc⟩:=h
 obtain ⟨b,o,rfl,hb,hr⟩:=hc (by omega)
 have HR:=hide hr
 have hw:IntKind.i64.wrap ((i:Int)+1)=((i+1:Nat):Int):=by rw [IntKind.wrap_i64];omega
 clear hc hr
 go_enter Tryz.func44,Tryz.ntmps44
 go_wp2
 go_loopw [5] (fun vk wr=>∃ k:Nat,i<k∧k≤sc.length∧vk = .int .i64 k∧Below w.heap.size w wr∧laterG sc i (sc.length - k) k=laterF sc i) (fun vk _=>sc.length - (intOf vk).toNat)
 case atStart=>exact ⟨i+1,by omega,by omega,by first | rfl | rw [hw] | simp,Below.refl _ _,rfl⟩
 case round=>
  obtain ⟨k,hik,hk,rfl,hbr,hl⟩:=hrel
  have HL:=hide hl
  have HBR:=hide hbr
  clear hl
  by_cases hkl:k<sc.length
  ·have x1:=(hbr.cell (p:=⟨b,o+k * 4,none⟩) hb).trans (HR.out k hkl).1
   have x2:=(hbr.cell (p:=⟨b,o+i * 4,none⟩) hb).trans (HR.out i hi).1
   rw [actF_get hkl] at x1
   rw [actF_get hi] at x2
   have j1:(0:Int)≤(i:Int):=by omega
   have j2:(i:Int)<(sc.length:Int):=by omega
   have j3:(0:Int)≤(k:Int):=by omega
   have j4:(k:Int)<(sc.length:Int):=by omega
   clear hbr
   by_cases he:(actF sc k).k=(actF sc i).k
   ·have HN:Hid (laterF sc i=(k:Int)):=hide (by rw [← HL.out,later_step hkl,if_pos he])
    have q1:((actF sc k).k == (actF sc i).k)=true:=by rw [he];simp
    generalize (actF sc k).k=u at x1 q1
    generalize (actF sc i).k=v at x2 q1
    clear he
    go_wp2_with fail
    go_quiet (fail)
    go_wp2
    go_ret
    exact ⟨by rw [HN.out];rfl,by first | exact HBR.out | exact below_drewN HBR.out _⟩
   ·have HN:Hid (laterG sc i (sc.length - (k+1)) (k+1)=laterF sc i):=hide (by rw [← HL.out,later_step hkl,if_neg he])
    have q1:((actF sc k).k == (actF sc i).k)=false:=by rw [beq_eq_false_iff_ne];exact he
    generalize (actF sc k).k=u at x1 q1
    generalize (actF sc i).k=v at x2 q1
    clear he
    go_wp2_with fail
    go_quiet (fail)
    go_wp2
    go_roundw
    case rel=>exact ⟨k+1,by omega,by omega,by go_num,by first | exact HBR.out | exact below_drewN HBR.out _,HN.out⟩
    case measure=>simp [intOf];omega
  ·have ek:k=sc.length:=by omega
   subst ek
   have z1:¬ (sc.length:Int)<(sc.length:Int):=by omega
   have HN:Hid (laterF sc i = -1):=hide (by rw [← HL.out,Nat.sub_self];rfl)
   go_wp2
   go_ret
   exact ⟨by rw [HN.out];rfl,by first | exact HBR.out | exact below_drewN HBR.out _⟩
set_option maxHeartbeats 4000000 in
set_option maxRecDepth 100000 in
theorem rplayable_any (w:World) (q g cap:Nat) (ts:List Tk) (L:List Dl) (vE vA vI vQ:Value) (h:RProg w q g cap ts L vE vA vI vQ) (ho:ROk ts L) (v:Value) (sc:List OpF) (hs:OpsAt w v sc) :
  Calls Tryz.prog 19 #[.pointer (some ⟨q,0,none⟩),v] w fun e w'=>e = .returned (.bool (playF ts L sc))∧Below w.heap.size w w':=by
 have HS:=hide hs
 obtain ⟨A,C,rfl,hm,hc⟩:=hs
 by_cases h4:sc.length≤400
 ·have z0:¬ (sc.length:Int) > 400:=by omega
  have z0':¬ 400<(sc.length:Int):=by omega
  have HP:Hid (playF ts L sc=(List.range sc.length).all fun i=>!badA ts L sc i):=hide (by unfold playF;rw [decide_eq_true h4,Bool.true_and])
  have HR:=hide h
  have HO:=hide ho
  have HA:=hide hc
  clear h ho hc
  go_enter Tryz.func19,Tryz.ntmps19
  go_wp2
  go_loopw [5] (fun vi wr=>∃ i:Nat,i≤sc.length∧vi = .int .i64 i∧Below w.heap.size w wr∧((List.range i).all fun i=>!badA ts L sc i)=true) (fun vi _=>sc.length - (intOf vi).toNat)
  case atStart=>exact ⟨0,Nat.zero_le _,rfl,Below.refl _ _,rfl⟩
  case round=>
   obtain ⟨i,hi,rfl,hbr,hall⟩:=hrel
   have HBR:=hide hbr
   have HAL:=hide hall
   clear hall
   by_cases hil:i<sc.length
   ·obtain ⟨b,o,rfl,hb,hr⟩:=HA.out (by omega)
    obtain ⟨x0,x1,x2,x3⟩:=hr i hil
    rw [actF_get hil] at x0 x1 x2 x3
    rw [← hbr.cell (p:=⟨b,o+i * 4,none⟩) hb] at x0
    rw [← hbr.cell (p:=⟨b,o+i * 4+1,none⟩) hb] at x1
    rw [← hbr.cell (p:=⟨b,o+i * 4+2,none⟩) hb] at x2
    rw [← hbr.cell (p:=⟨b,o+i * 4+3,none⟩) hb] at x3
    have j3:(0:Int)≤(i:Int):=by omega
    have j4:(i:Int)<(sc.length:Int):=by omega
    have HCA:=hide (fun W hW=>rpat_any W q g cap ts L vE vA vI vQ (HR.out.below hW) HO.out (actF sc i).k)
    have HLT:=hide (fun W hW=>rlater_any W _ sc (HS.out.below hW) i hil)
    obtain ⟨a0,ha0⟩:∃ a0,a0=(actF sc i).k:=⟨_,rfl⟩
    obtain ⟨a1,ha1⟩:∃ a1,a1=(actF sc i).a:=⟨_,rfl⟩
    obtain ⟨a2,ha2⟩:∃ a2,a2=(actF sc i).b:=⟨_,rfl⟩
    obtain ⟨a3,ha3⟩:∃ a3,a3=(actF sc i).c:=⟨_,rfl⟩
    rw [← ha0] at x0 HCA
    rw [← ha1] at x1
    rw [← ha2] at x2
    rw [← ha3] at x3
    have HBD:Hid (badA ts L sc i=((atR ts L a0).isEmpty || decide (a1<0) || decide (1099511627776<a1) || backA sc i || decide (a2<0) || decide (1099511627776<a2) || decide (a3<0) || decide (1099511627776<a3) || overA sc i)):=hide (by rw [ha0,ha1,ha2,ha3];rfl)
    have HBAD:Hid (badA ts L sc i=true→playF ts L sc=false):=hide (fun hbad=>by rw [HP.out];exact all_fail hil (by rw [hbad];rfl))
    obtain ⟨bx,hbx⟩:∃ bx,bx=wr.alloc (.cells #[.int .i64 a0,.int .i64 a1,.int .i64 a2,.int .i64 a3] 49):=⟨_,rfl⟩
    have HBX:Hid (Below wr.heap.size wr bx):=hide (by rw [hbx];exact (Below.refl _ _).alloc (Nat.le_refl _) _)
    have HC:Hid (∀ W:World,Below bx.heap.size bx W→W.cell? ⟨wr.heap.size,0,none⟩=some (.int .i64 a0)∧W.cell? ⟨wr.heap.size,1,none⟩=some (.int .i64 a1)∧W.cell? ⟨wr.heap.size,2,none⟩=some (.int .i64 a2)∧W.cell? ⟨wr.heap.size,3,none⟩=some (.int .i64 a3)):=hide fun W hW=>by
     have hy:W.heap[wr.heap.size]? = some (.cells #[.int .i64 a0,.int .i64 a1,.int .i64 a2,.int .i64 a3] 49 (0,0)):=by
      rw [hW.block _ (by rw [hbx];simp),hbx];exact heap_alloc_new _ _
     refine ⟨?_,?_,?_,?_⟩ <;> (rw [cell_of_row _ _ _ _ _ _ hy];rfl)
    have HBX1:Hid (Below w.heap.size w bx):=hide (hbr.trans (HBX.out.mono hbr.size))
    have HEX:=hide hbx
    have HPB:Hid (0<i→∀ W,Below w.heap.size w W→W.cell? ⟨b,o+(i - 1) * 4+1,none⟩=some (.int .i64 (actF sc (i - 1)).a)):=hide fun h1 W hW=>by
     rw [hW.cell (p:=⟨b,o+(i - 1) * 4+1,none⟩) hb,(hr (i - 1) (by omega)).2.1,actF_get (by omega)]
    have HKB:Hid (∀ k,k<sc.length→∀ W,Below w.heap.size w W→W.cell? ⟨b,o+k * 4+1,none⟩=some (.int .i64 (actF sc k).a)):=hide fun k hk W hW=>by
     rw [hW.cell (p:=⟨b,o+k * 4+1,none⟩) hb,(hr k hk).2.1,actF_get hk]
    have HA1:=hide ha1
    have HA2:=hide ha2
    have HA3:=hide ha3
    clear hr hbr hbx ha0 ha1 ha2 ha3
    go_wp2_with fail
    rw [← HEX.out]
    clear HEX x0 x1 x2 x3
    refine (HCA.out bx HBX1.out).mono ?_
    rintro e w1 ⟨v1,rfl,hown,hb1⟩
    obtain ⟨av,cv,rfl,_⟩:=own_shape hown
    have HB1:=hide hb1
    have HW1:Hid (Below w.heap.size w w1):=hide (HBX1.out.trans (hb1.mono HBX1.out.size))
    obtain ⟨c0,c1,c2,c3⟩:=HC.out w1 hb1
    clear hown hb1 HCA
    have hemp:(atR ts L a0).isEmpty=decide ((atR ts L a0).length=0):=by cases atR ts L a0 <;> simp
    rw [hemp] at HBD
    clear hemp
    generalize (atR ts L a0).length=ln at *
    have HW1d:=hide (below_drewN HW1.out)
    by_cases t1:ln=0
    ·have HF:Hid (playF ts L sc=false):=hide (HBAD.out (by rw [HBD.out];simp [t1]))
     have q1:((ln:Int) == 0)=true:=by rw [t1];rfl
     clear t1
     go_wp2_with fail
     go_big_region
     go_wp2
     go_ret
     exact ⟨by rw [HF.out];rfl,by first | exact HW1.out | exact HW1d.out _⟩
    have q1:((ln:Int) == 0)=false:=by rw [beq_eq_false_iff_ne];omega
    by_cases t2:a1<0
    ·have HF:Hid (playF ts L sc=false):=hide (HBAD.out (by rw [HBD.out];simp [t2]))
     clear t1
     go_wp2_with fail
     go_big_region
     go_wp2
     go_ret
     exact ⟨by rw [HF.out];rfl,by first | exact HW1.out | exact HW1d.out _⟩
    have q2:decide (a1<0)=false:=decide_eq_false t2
    by_cases t3:1099511627776<a1
    ·have HF:Hid (playF ts L sc=false):=hide (HBAD.out (by rw [HBD.out];simp [t3]))
     have t3':decide (a1 > 1099511627776)=true:=decide_eq_true t3
     clear t1
     go_wp2_with fail
     go_big_region
     go_wp2
     go_ret
     exact ⟨by rw [HF.out];rfl,by first | exact HW1.out | exact HW1d.out _⟩
    have q3:decide (a1 > 1099511627776)=false:=decide_eq_false t3
    have hback:(i=0∧backA sc i=false)∨(0<i∧backA sc i=decide (a1<(actF sc (i - 1)).a)):=by
     cases i with
     | zero=>exact .inl ⟨rfl,rfl⟩
     | succ i'=>exact .inr ⟨by omega,by rw [HA1.out];rfl⟩
    obtain ⟨bk,hbk⟩:∃ bk,bk=backA sc i:=⟨_,rfl⟩
    rw [← hbk] at hback HBD
    clear hbk
    have HRG:Hid (laterF sc i = -1∨∃ j:Nat,laterF sc i=(j:Int)∧i<j∧j<sc.length):=hide (later_range sc i (sc.length - (i+1)) (i+1) (by omega) (by omega))
    rcases hback with ⟨hi0,hb0⟩ | ⟨hi0,hb0⟩
    ·have q4:decide ((i:Int) > 0)=false:=decide_eq_false (by omega)
     have q5:decide (0<i)=false:=decide_eq_false (by omega)
     have q6:¬ 0<i:=by omega
     have HBF:Hid (bk=false):=hide hb0
     clear hi0 hb0
     have t2':=t2
     by_cases u1:a2<0
     ·have HF:Hid (playF ts L sc=false):=hide (HBAD.out (by rw [HBD.out];simp [u1]))
      go_wp2_with fail
      go_big_region
      go_wp2
      go_ret
      exact ⟨by rw [HF.out];rfl,HW1.out.drew⟩
     by_cases u2:1099511627776<a2
     ·have HF:Hid (playF ts L sc=false):=hide (HBAD.out (by rw [HBD.out];simp [u2]))
      have u2':a2 > 1099511627776:=u2
      go_wp2_with fail
      go_big_region
      go_wp2
      go_ret
      exact ⟨by rw [HF.out];rfl,HW1.out.drew⟩
     by_cases u3:a3<0
     ·have HF:Hid (playF ts L sc=false):=hide (HBAD.out (by rw [HBD.out];simp [u3]))
      have u2':¬ a2 > 1099511627776:=u2
      go_wp2_with fail
      go_big_region
      go_wp2
      go_ret
      exact ⟨by rw [HF.out];rfl,HW1.out.drew⟩
     by_cases u4:1099511627776<a3
     ·have HF:Hid (playF ts L sc=false):=hide (HBAD.out (by rw [HBD.out];simp [u4]))
      have u2':¬ a2 > 1099511627776:=u2
      have u4':a3 > 1099511627776:=u4
      go_wp2_with fail
      go_big_region
      go_wp2
      go_ret
      exact ⟨by rw [HF.out];rfl,HW1.out.drew⟩
     have u2':¬ a2 > 1099511627776:=u2
     have u4':¬ a3 > 1099511627776:=u4
     have HBO:Hid (badA ts L sc i=overA sc i):=hide (by rw [HBD.out];simp [t1,t2,t3,HBF.out,u1,u2,u3,u4])
     go_wp2_with fail
     go_big_region
     go_wp2_with fail
     refine (HLT.out _ HW1.out.drew).mono ?_
     rintro e w2 ⟨rfl,hb2⟩
     have HB2:Hid (Below bx.heap.size bx w2):=hide (HB1.out.drew.trans (hb2.mono HB1.out.size))
     have HW2:Hid (Below w.heap.size w w2):=hide (HW1.out.drew.trans (hb2.mono HW1.out.size))
     clear hb2 c0 c1 c2 c3
     obtain ⟨c0,c1,c2,c3⟩:=HC.out w2 HB2.out
     rcases HRG.out with hk | ⟨jj,hk,hj1,hj2⟩
     ·have HN:Hid (((List.range (i+1)).all fun i=>!badA ts L sc i)=true):=hide (all_step HAL.out (by rw [HBO.out];unfold overA;rw [hk];rfl))
      rw [hk]
      clear hk
      go_wp2_with fail
      go_big_region
      go_wp2
      go_roundw
      case rel=>exact ⟨i+1,by omega,by go_num,by first | exact HW2.out | exact HW2.out.drew,HN.out⟩
      case measure=>simp [intOf];omega
     ·have y1:=HKB.out jj hj2 w2 HW2.out
      have HOV:Hid (overA sc i=(decide (IntKind.i64.wrap ((actF sc jj).a - a1)≤a2) || decide (IntKind.i64.wrap ((actF sc jj).a - a1)≤a3))):=hide (by unfold overA;rw [hk,decide_eq_true (by omega),Bool.true_and,Int.toNat_natCast,HA1.out,HA2.out,HA3.out])
      rw [hk]
      generalize (actF sc jj).a=aj at y1 HOV
      obtain ⟨df,hdf⟩:∃ df,IntKind.i64.wrap (aj - a1)=df:=⟨_,rfl⟩
      rw [hdf] at HOV
      have g1:decide ((jj:Int) ≥ 0)=true:=decide_eq_true (by omega)
      have g2:(0:Int)≤(jj:Int):=by omega
      have g3:(jj:Int)<(sc.length:Int):=by omega
      clear hk hj1 hj2
      by_cases v1:df≤a2
      ·have HF:Hid (playF ts L sc=false):=hide (HBAD.out (by rw [HBO.out,HOV.out];simp [v1]))
       have g4:decide (a2 ≥ df)=true:=decide_eq_true v1
       go_wp2_with fail
       go_big_region
       go_wp2
       go_ret
       exact ⟨by rw [HF.out];rfl,by first | exact HW2.out | exact HW2.out.drew⟩
      have g4:decide (a2 ≥ df)=false:=decide_eq_false v1
      by_cases v2:df≤a3
      ·have HF:Hid (playF ts L sc=false):=hide (HBAD.out (by rw [HBO.out,HOV.out];simp [v2]))
       have g5:decide (a3 ≥ df)=true:=decide_eq_true v2
       go_wp2_with fail
       go_big_region
       go_wp2
       go_ret
       exact ⟨by rw [HF.out];rfl,by first | exact HW2.out | exact HW2.out.drew⟩
      have g5:decide (a3 ≥ df)=false:=decide_eq_false v2
      have HN:Hid (((List.range (i+1)).all fun i=>!badA ts L sc i)=true):=hide (all_step HAL.out (by rw [HBO.out,HOV.out];simp [v1,v2]))
      go_wp2_with fail
      go_big_region
      go_wp2
      go_roundw
      case rel=>exact ⟨i+1,by omega,by go_num,by first | exact HW2.out | exact HW2.out.drew,HN.out⟩
      case measure=>simp [intOf];omega
    ·have q4:decide ((i:Int) > 0)=true:=decide_eq_true (by omega)
     have q5:decide (0<i)=true:=decide_eq_true hi0
     have q6:0<i:=hi0
     have y0:=HPB.out hi0 w1 HW1.out
     obtain ⟨im,him⟩:∃ im,im=i - 1:=⟨_,rfl⟩
     rw [← him] at y0 hb0
     have hw1:IntKind.i64.wrap ((i:Int) - 1)=(im:Int):=by rw [IntKind.wrap_i64];omega
     have j5:(0:Int)≤(im:Int):=by omega
     have j6:(im:Int)<(sc.length:Int):=by omega
     generalize (actF sc im).a=ap at y0 hb0
     clear him hi0
     by_cases t5:a1<ap
     ·have HF:Hid (playF ts L sc=false):=hide (HBAD.out (by rw [HBD.out,hb0];simp [t5]))
      have t5':decide (a1<ap)=true:=decide_eq_true t5
      clear hb0
      go_wp2_with fail
      go_big_region
      go_wp2
      go_ret
      exact ⟨by rw [HF.out];rfl,by first | exact HW1.out | exact HW1d.out _⟩
     have t5':decide (a1<ap)=false:=decide_eq_false t5
     have HBF:Hid (bk=false):=hide (hb0.trans t5')
     clear hb0
     have t2':=t2
     by_cases u1:a2<0
     ·have HF:Hid (playF ts L sc=false):=hide (HBAD.out (by rw [HBD.out];simp [u1]))
      go_wp2_with fail
      go_big_region
      go_wp2
      go_ret
      exact ⟨by rw [HF.out];rfl,HW1.out.drew⟩
     by_cases u2:1099511627776<a2
     ·have HF:Hid (playF ts L sc=false):=hide (HBAD.out (by rw [HBD.out];simp [u2]))
      have u2':a2 > 1099511627776:=u2
      go_wp2_with fail
      go_big_region
      go_wp2
      go_ret
      exact ⟨by rw [HF.out];rfl,HW1.out.drew⟩
     by_cases u3:a3<0
     ·have HF:Hid (playF ts L sc=false):=hide (HBAD.out (by rw [HBD.out];simp [u3]))
      have u2':¬ a2 > 1099511627776:=u2
      go_wp2_with fail
      go_big_region
      go_wp2
      go_ret
      exact ⟨by rw [HF.out];rfl,HW1.out.drew⟩
     by_cases u4:1099511627776<a3
     ·have HF:Hid (playF ts L sc=false):=hide (HBAD.out (by rw [HBD.out];simp [u4]))
      have u2':¬ a2 > 1099511627776:=u2
      have u4':a3 > 1099511627776:=u4
      go_wp2_with fail
      go_big_region
      go_wp2
      go_ret
      exact ⟨by rw [HF.out];rfl,HW1.out.drew⟩
     have u2':¬ a2 > 1099511627776:=u2
     have u4':¬ a3 > 1099511627776:=u4
     have HBO:Hid (badA ts L sc i=overA sc i):=hide (by rw [HBD.out];simp [t1,t2,t3,HBF.out,u1,u2,u3,u4])
     go_wp2_with fail
     go_big_region
     go_wp2_with fail
     refine (HLT.out _ HW1.out.drew).mono ?_
     rintro e w2 ⟨rfl,hb2⟩
     have HB2:Hid (Below bx.heap.size bx w2):=hide (HB1.out.drew.trans (hb2.mono HB1.out.size))
     have HW2:Hid (Below w.heap.size w w2):=hide (HW1.out.drew.trans (hb2.mono HW1.out.size))
     clear hb2 c0 c1 c2 c3
     obtain ⟨c0,c1,c2,c3⟩:=HC.out w2 HB2.out
     rcases HRG.out with hk | ⟨jj,hk,hj1,hj2⟩
     ·have HN:Hid (((List.range (i+1)).all fun i=>!badA ts L sc i)=true):=hide (all_step HAL.out (by rw [HBO.out];unfold overA;rw [hk];rfl))
      rw [hk]
      clear hk
      go_wp2_with fail
      go_big_region
      go_wp2
      go_roundw
      case rel=>exact ⟨i+1,by omega,by go_num,by first | exact HW2.out | exact HW2.out.drew,HN.out⟩
      case measure=>simp [intOf];omega
     ·have y1:=HKB.out jj hj2 w2 HW2.out
      have HOV:Hid (overA sc i=(decide (IntKind.i64.wrap ((actF sc jj).a - a1)≤a2) || decide (IntKind.i64.wrap ((actF sc jj).a - a1)≤a3))):=hide (by unfold overA;rw [hk,decide_eq_true (by omega),Bool.true_and,Int.toNat_natCast,HA1.out,HA2.out,HA3.out])
      rw [hk]
      generalize (actF sc jj).a=aj at y1 HOV
      obtain ⟨df,hdf⟩:∃ df,IntKind.i64.wrap (aj - a1)=df:=⟨_,rfl⟩
      rw [hdf] at HOV
      have g1:decide ((jj:Int) ≥ 0)=true:=decide_eq_true (by omega)
      have g2:(0:Int)≤(jj:Int):=by omega
      have g3:(jj:Int)<(sc.length:Int):=by omega
      clear hk hj1 hj2
      by_cases v1:df≤a2
      ·have HF:Hid (playF ts L sc=false):=hide (HBAD.out (by rw [HBO.out,HOV.out];simp [v1]))
       have g4:decide (a2 ≥ df)=true:=decide_eq_true v1
       go_wp2_with fail
       go_big_region
       go_wp2
       go_ret
       exact ⟨by rw [HF.out];rfl,by first | exact HW2.out | exact HW2.out.drew⟩
      have g4:decide (a2 ≥ df)=false:=decide_eq_false v1
      by_cases v2:df≤a3
      ·have HF:Hid (playF ts L sc=false):=hide (HBAD.out (by rw [HBO.out,HOV.out];simp [v2]))
       have g5:decide (a3 ≥ df)=true:=decide_eq_true v2
       go_wp2_with fail
       go_big_region
       go_wp2
       go_ret
       exact ⟨by rw [HF.out];rfl,by first | exact HW2.out | exact HW2.out.drew⟩
      have g5:decide (a3 ≥ df)=false:=decide_eq_false v2
      have HN:Hid (((List.range (i+1)).all fun i=>!badA ts L sc i)=true):=hide (all_step HAL.out (by rw [HBO.out,HOV.out];simp [v1,v2]))
      go_wp2_with fail
      go_big_region
      go_wp2
      go_roundw
      case rel=>exact ⟨i+1,by omega,by go_num,by first | exact HW2.out | exact HW2.out.drew,HN.out⟩
      case measure=>simp [intOf];omega
   ·have ei:i=sc.length:=by omega
    subst ei
    have z1:¬ (sc.length:Int)<(sc.length:Int):=by omega
    have HF:Hid (playF ts L sc=true):=hide (by rw [HP.out];exact HAL.out)
    go_wp2
    go_ret
    exact ⟨by rw [HF.out];rfl,by first | exact HBR.out | exact below_drewN HBR.out _⟩
 ·have z0:(sc.length:Int) > 400:=by omega
  have z0':400<(sc.length:Int):=by omega
  have HP:Hid (playF ts L sc=false):=hide (by unfold playF;rw [decide_eq_false h4,Bool.false_and])
  clear h ho hc
  go_enter Tryz.func19,Tryz.ntmps19
  go_wp2
  go_ret
  exact ⟨by rw [HP.out];rfl,Below.refl _ _⟩
end Go.Proofs.YtmndgoapkmhglabGreat
