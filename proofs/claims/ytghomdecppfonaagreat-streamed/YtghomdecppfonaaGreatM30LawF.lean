import Derived.Laws.CopyOwn
import Derived.Laws.Cover3
import Derived.Test.YtghomdecppfonaaGreatM29LawC
/- the statements' own helpers: roomy, whole. -/
namespace Go.Proofs.YtghomdecppfonaaGreat
open Go.RowKit
attribute [local go_sem ↓] Go.wp_at_zero Go.wp_at_succ


/-- a list with a mark in its spare room; nil stays nil. -/
def RoomV (w : World) (B : Nat) (A : Option Addr) (xs : List Int) (v : Value) : Prop :=
  (A = none ∧ v = .slice none 0 0) ∨ (A ≠ none ∧ ∃ G, B ≤ G ∧ v = .slice (some ⟨G, 0, none⟩) xs.length (xs.length + 1) ∧ w.heap[G]? = some (.cells (iCells (xs ++ [-77])).toArray 3))

theorem RoomV.below {w w' : World} {B : Nat} {A : Option Addr} {xs : List Int} {v : Value} (h : RoomV w B A xs v) (hb : Below w.heap.size w w') : RoomV w' B A xs v := by
  rcases h with h | ⟨h1, G, h2, h3, h4⟩
  · exact .inl h
  · exact .inr ⟨h1, G, h2, h3, (hb.block G (Array.getElem?_eq_some_iff.1 h4).1).trans h4⟩
theorem RoomV.keep {w w' : World} {B : Nat} {A : Option Addr} {xs : List Int} {v : Value} (h : RoomV w B A xs v) {N : Nat} (hl : w.heap.size ≤ N) (hb : Below N w w') : RoomV w' B A xs v := h.below (hb.mono hl)
theorem RoomV.row {w : World} {B : Nat} {A : Option Addr} {xs : List Int} {v : Value} (h : RoomV w B A xs v) (h0 : A = none → xs = []) (hm : xs.length ≤ 35184372088832) : RowAt w v xs := by
  rcases h with ⟨h1, rfl⟩ | ⟨h1, G, h2, rfl, h4⟩
  · rw [h0 h1]; exact ⟨none, 0, rfl, by simp, fun hp => by simp at hp⟩
  · refine ⟨_, _, rfl, hm, fun hp => ⟨G, 0, rfl, (Array.getElem?_eq_some_iff.1 h4).1, fun c hc => ?_⟩⟩
    rw [cell_of_row w G _ _ _ _ h4]
    simp [iCells, List.getElem?_append, hc]

theorem eql_nil {P : Program} (t e : TypeId) (h : P.underlying t = some (.slice e)) (w : World) (a : Option Addr) (l c : Nat) : (binOp .eql t (.slice a l c) (.slice none 0 0)).run P w = .ok (.bool a.isNone) w := by
  simp only [binOp]
  simp [run_equal_slice_nil w t e a l c h]

theorem made_rep (z : Value) (n : Nat) : madeCells #[z] n = (List.replicate n z).toArray := by
  apply Array.ext
  · simp [madeCells]
  · intro i h1 h2
    simp [madeCells, Nat.mod_one]

set_option maxHeartbeats 2000000 in
set_option maxRecDepth 100000 in
theorem lroomy_any (w : World) (A : Option Addr) (C : Nat) (xs : List Int) (h : RowAt w (.slice A xs.length C) xs) (h0 : A = none → xs = []) (hn : xs.length ≤ 17592186044416) :
    Calls Tryz.prog 12 #[.slice A xs.length C] w fun e w' => ∃ v, e = .returned v ∧ RoomV w' w.heap.size A xs v ∧ Below w.heap.size w w' := by
  obtain ⟨A', C', he, hm, hc⟩ := h
  simp only [Value.slice.injEq, true_and] at he
  obtain ⟨rfl, rfl⟩ := he
  have hnil := eql_nil (P := Tryz.prog) 34 3 Tryz.underlying34
  cases A with
  | none =>
    have hx := h0 rfl
    subst hx
    clear hc h0
    go_enter Tryz.func12, Tryz.ntmps12
    go_wp2
    go_ret
    exact ⟨_, rfl, .inl ⟨rfl, rfl⟩, Below.refl _ _⟩
  | some a =>
    have hm2 := run_make_row' (P := Tryz.prog) 34 3 (.int .i64 0) 8 Tryz.underlying34 Tryz.infoInt rfl .i64 .i64 (xs.length + 1) (by omega) (by omega)
    simp only [show ((xs.length + 1 : Nat) : Int) = (xs.length : Int) + 1 from by omega] at hm2
    have hsz : (Tryz.prog.info? 3).map (·.size) = some 1 := by have := Tryz.infoInt; cases hq : Tryz.prog.info? 3 with | none => rw [hq] at this; cases this | some i => rw [hq] at this; simp at this; simp [this]
    obtain ⟨X, hX⟩ : ∃ X, X = iCells xs := ⟨_, rfl⟩
    have HX := hide hX
    have hXl : X.length = xs.length := by rw [hX]; exact iCells_len xs
    have hpos : 0 < X.length → ∃ ad, (some a : Option Addr) = some ad ∧ ∀ o j v, X[j]? = some v → (w.alloc o).cell? (ad.add j) = some v := fun hp => by
      obtain ⟨b, o, h1, h2, h3⟩ := hc (by omega)
      refine ⟨⟨b, o, none⟩, h1, fun oo j v hv => ?_⟩
      rw [hX, iCells_get] at hv
      obtain ⟨x, hx, rfl⟩ := Option.map_eq_some_iff.1 hv
      obtain ⟨hj, rfl⟩ := List.getElem?_eq_some_iff.1 hx
      rw [Addr.add_lit, World.cell?_alloc_past _ _ _ h2]
      exact h3 j hj
    have hone : ∀ v ∈ X, v.oneCell' = true := fun v hv => by
      rw [hX] at hv
      obtain ⟨x, _, rfl⟩ := List.mem_map.1 hv
      rfl
    obtain ⟨Z, hZ⟩ : ∃ Z, Z = List.replicate (xs.length + 1) (Value.int .i64 0) := ⟨_, rfl⟩
    have hZb : (w.alloc (.cells (madeCells #[.int .i64 0] (xs.length + 1)) 3)).heap[w.heap.size]? = some (.cells Z.toArray 3 (0, 0)) := by
      rw [heap_alloc_new, hZ, made_rep]
    have hZl : Z.length = xs.length + 1 := by rw [hZ]; simp
    have HZ := hide hZ
    have HB0 := hide ((Below.refl w.heap.size w).alloc (Nat.le_refl _) (.cells (madeCells #[.int .i64 0] (xs.length + 1)) 3))
    obtain ⟨w1, hcp, hg1, hb1⟩ : ∃ w1, (Builtin.copy_ #[34, 34] 3 #[.slice (some ⟨w.heap.size, 0, none⟩) (xs.length + 1) (xs.length + 1), .slice (some a) xs.length C]).run Tryz.prog (w.alloc (.cells (madeCells #[.int .i64 0] (xs.length + 1)) 3)) = .ok (goInt xs.length) w1 ∧
        w1.heap[w.heap.size]? = some (.cells (iCells (xs ++ [0])).toArray 3 (0, 0)) ∧ Below w.heap.size w w1 := by
      have hmin : X.length = Nat.min xs.length (xs.length + 1) := by rw [hXl]; exact (Nat.min_eq_left (by omega)).symm
      rcases Nat.eq_zero_or_pos xs.length with hz | hp
      · refine ⟨w.alloc (.cells (madeCells #[.int .i64 0] (xs.length + 1)) 3), ?_, hZb.trans ?_, HB0.out⟩
        · have := run_copy_none (P := Tryz.prog) (w.alloc (.cells (madeCells #[.int .i64 0] (xs.length + 1)) 3)) 34 34 3 3 (some ⟨w.heap.size, 0, none⟩) (some a) (xs.length + 1) (xs.length + 1) xs.length C Tryz.underlying34 hsz (by rw [← hmin, hXl]; exact hz)
          rw [this]; simp [hz]
        · rw [hZ, hz, List.eq_nil_of_length_eq_zero hz]; rfl
      · obtain ⟨ad, had, hsrc⟩ := hpos (by omega)
        cases had
        have hr := run_copy_row (P := Tryz.prog) (w.alloc (.cells (madeCells #[.int .i64 0] (xs.length + 1)) 3)) 34 34 3 3 w.heap.size 0 (xs.length + 1) (xs.length + 1) a xs.length C Z.toArray 3 X Tryz.underlying34 hsz hZb hmin (hsrc _) (by simp; omega) hone
        rw [hXl] at hr
        refine ⟨_, hr, ?_, below_setRow HB0.out (Nat.le_refl _) _⟩
        rw [setRow_heap _ _ _ _ _ _ hZb]
        congr 2
        rw [hZ, hX]
        simp [iCells, List.replicate_succ']
    have HG1 := hide hg1
    have HB1 := hide hb1
    have k1 : w1.cell? ⟨w.heap.size, xs.length, none⟩ = some (.int .i64 0) := by
      rw [cell_of_row w1 _ _ _ _ _ hg1]
      simp [iCells]
    have k2 : w1.frozen? ⟨w.heap.size, xs.length, none⟩ = false := frozen_of_row w1 _ _ _ _ hg1
    have k3 : (xs.length : Int) < (xs.length : Int) + 1 := by omega
    have k4 : (0 : Int) ≤ (xs.length : Int) := by omega
    have HFIN : Hid ((w1.setCell ⟨w.heap.size, xs.length, none⟩ (.int .i64 (-77))).heap[w.heap.size]? = some (.cells (iCells (xs ++ [-77])).toArray 3)) := hide (by
      rw [heap_setCell_same w1 _ _ _ _ _ hg1]
      congr 2
      simp [iCells])
    clear hc h0 hX hZ hpos hone hZb hsz hXl hZl hg1 hb1
    go_enter Tryz.func12, Tryz.ntmps12
    go_wp2
    go_ret
    exact ⟨_, rfl, .inr ⟨by simp, w.heap.size, Nat.le_refl _, rfl, HFIN.out⟩, HB1.out.setCell (Nat.le_refl _) _⟩

/-- what becomes of a list that is handed over: does it still read as it did? -/
theorem lwhole_any (w : World) (B : Nat) (A : Option Addr) (C : Nat) (xs : List Int) (v : Value) (hv : RoomV w B A xs v) (h : RowAt w (.slice A xs.length C) xs) (h0 : A = none → xs = []) (hn : xs.length ≤ 17592186044416) :
    Calls Tryz.prog 18 #[v, .slice A xs.length C] w fun e w' => e = .returned (.bool true) ∧ Below w.heap.size w w' := by
  have hnil := eql_nil (P := Tryz.prog) 34 3 Tryz.underlying34
  have hrow := hv.row h0 (by omega)
  have HS := hide (lsame_any w v (.slice A xs.length C) xs xs hrow h)
  rcases hv with ⟨rfl, rfl⟩ | ⟨hA, G, hG, rfl, hb⟩
  · clear HS hrow h
    have hx := h0 rfl
    subst hx
    go_enter Tryz.func18, Tryz.ntmps18
    go_wp2
    go_ret
    exact ⟨rfl, Below.refl _ _⟩
  · have k1 : ∀ w', Below w.heap.size w w' → w'.cell? ⟨G, xs.length, none⟩ = some (.int .i64 (-77)) := fun w' hb' => by
      rw [hb'.cell (p := ⟨G, xs.length, none⟩) (Array.getElem?_eq_some_iff.1 hb).1, cell_of_row w _ _ _ _ _ hb]
      simp [iCells]
    have HK := hide k1
    have k3 : (xs.length : Int) < (xs.length : Int) + 1 := by omega
    have k4 : (0 : Int) ≤ (xs.length : Int) := by omega
    have HE : Hid ((xs == xs) = true) := hide (by simp)
    clear k1 hrow h h0 hA hb
    go_enter Tryz.func18, Tryz.ntmps18
    go_wp2_with fail
    refine HS.out.mono ?_
    rintro e w1 ⟨rfl, hb1⟩
    rw [HE.out]
    have k1 := HK.out w1 hb1
    go_wp2
    go_ret
    exact ⟨rfl, hb1⟩

end Go.Proofs.YtghomdecppfonaaGreat

/- the statements' own helpers: lists, still. -/
namespace Go.Proofs.YtghomdecppfonaaGreat
open Go.RowKit
attribute [local go_sem ↓] Go.wp_at_zero Go.wp_at_succ

/-- lists that are handed over. -/
structure GivenAt (w : World) (B : Nat) (ins : List (List Int)) (AS : Nat → Option Addr) (go gi gm : Nat) (V : Nat → Value) : Prop where
  out : w.heap[go]? = some (.cells (((List.range ins.length).map V ++ [Value.slice (some ⟨gm, 0, none⟩) 1 1]).toArray) 34)
  inn : w.heap[gi]? = some (.cells ((List.range ins.length).map V).toArray 34)
  mark : w.heap[gm]? = some (.cells #[.int .i64 (-77)] 3)
  rows : ∀ r, (h : r < ins.length) → RoomV w B (AS r) ins[r] (V r)
  b1 : B ≤ go
  b2 : B ≤ gi
  b3 : B ≤ gm

theorem GivenAt.below {w w' : World} {B : Nat} {ins : List (List Int)} {AS : Nat → Option Addr} {go gi gm : Nat} {V : Nat → Value} (h : GivenAt w B ins AS go gi gm V) (hb : Below w.heap.size w w') : GivenAt w' B ins AS go gi gm V :=
  ⟨(hb.block _ (Array.getElem?_eq_some_iff.1 h.out).1).trans h.out, (hb.block _ (Array.getElem?_eq_some_iff.1 h.inn).1).trans h.inn, (hb.block _ (Array.getElem?_eq_some_iff.1 h.mark).1).trans h.mark, fun r hr => (h.rows r hr).below hb, h.b1, h.b2, h.b3⟩

/-- what is handed over: nothing, or lists. -/
def GivenV (w : World) (B : Nat) (A : Option Addr) (ins : List (List Int)) (AS : Nat → Option Addr) (vo vi : Value) : Prop :=
  (A = none ∧ vo = .slice none 0 0 ∧ vi = .slice none 0 0) ∨
  (A ≠ none ∧ ∃ go gi gm V, vo = .slice (some ⟨go, 0, none⟩) ins.length (ins.length + 1) ∧ vi = .slice (some ⟨gi, 0, none⟩) ins.length ins.length ∧ GivenAt w B ins AS go gi gm V)
theorem GivenV.below {w w' : World} {B : Nat} {A : Option Addr} {ins : List (List Int)} {AS : Nat → Option Addr} {vo vi : Value} (h : GivenV w B A ins AS vo vi) (hb : Below w.heap.size w w') : GivenV w' B A ins AS vo vi := by
  rcases h with h | ⟨h1, go, gi, gm, V, h2, h3, h4⟩
  · exact .inl h
  · exact .inr ⟨h1, go, gi, gm, V, h2, h3, h4.below hb⟩
theorem GivenV.ls {w : World} {B : Nat} {A : Option Addr} {C : Nat} {ins : List (List Int)} {AS : Nat → Option Addr} {CS : Nat → Nat} {vo vi : Value} (h : GivenV w B A ins AS vo vi) (ha : ArgL w A C ins AS CS) : LsAt w vo ins := by
  have hf := ha.few
  rcases h with ⟨h1, rfl, _⟩ | ⟨h1, go, gi, gm, V, rfl, _, h4⟩
  · rw [ha.nil h1]; exact ⟨none, 0, rfl, by simp, fun hp => by simp at hp⟩
  · refine ⟨_, _, rfl, by omega, fun hp => ⟨go, 0, rfl, (Array.getElem?_eq_some_iff.1 h4.out).1, fun r hr => ⟨V r, ?_, (h4.rows r hr).row (ha.row r hr).2.1 (by have := (ha.row r hr).2.2; omega)⟩⟩⟩
    rw [cell_of_row w go _ _ _ _ h4.out]
    simp [List.getElem?_append, hr]

theorem RoomV.weak {w : World} {B B' : Nat} {A : Option Addr} {xs : List Int} {v : Value} (h : RoomV w B A xs v) (hb : B' ≤ B) : RoomV w B' A xs v := by
  rcases h with h | ⟨h1, G, h2, h3, h4⟩
  · exact .inl h
  · exact .inr ⟨h1, G, Nat.le_trans hb h2, h3, h4⟩
theorem RoomV.of {w w' : World} {B : Nat} {A : Option Addr} {xs : List Int} {v : Value} (h : RoomV w B A xs v) (hb : ∀ G, B ≤ G → G < w.heap.size → w'.heap[G]? = w.heap[G]?) : RoomV w' B A xs v := by
  rcases h with h | ⟨h1, G, h2, h3, h4⟩
  · exact .inl h
  · exact .inr ⟨h1, G, h2, h3, (hb G h2 (Array.getElem?_eq_some_iff.1 h4).1).trans h4⟩

/-- the lists as they are being made. -/
structure Laying (w wr : World) (ins : List (List Int)) (AS : Nat → Option Addr) (k : Nat) (V : Nat → Value) : Prop where
  bel : Below w.heap.size w wr
  size : w.heap.size + 3 ≤ wr.heap.size
  box : wr.heap[w.heap.size]? = some (.cells #[.slice none 0 0, .slice none 0 0] 25)
  out : wr.rowIs (w.heap.size + 1) 34 (ins.length + 1) (fun j => if j < k then V j else .slice none 0 0)
  inn : wr.rowIs (w.heap.size + 2) 34 ins.length (fun j => if j < k then V j else .slice none 0 0)
  rows : ∀ r, (h : r < ins.length) → r < k → RoomV wr (w.heap.size + 3) (AS r) ins[r] (V r)

theorem Laying.next {w wr w1 : World} {ins : List (List Int)} {AS : Nat → Option Addr} {k : Nat} {V : Nat → Value} (h : Laying w wr ins AS k V) (hk : k < ins.length) (hb : Below wr.heap.size wr w1) (v : Value) (hv : RoomV w1 wr.heap.size (AS k) (ins[k]'hk) v) :
    Laying w ((w1.setCell ⟨w.heap.size + 1, k, none⟩ v).setCell ⟨w.heap.size + 2, k, none⟩ v) ins AS (k + 1) (fun j => if j = k then v else V j) := by
  have hs := h.size
  have hs1 := hb.size
  have oth : ∀ b, b ≠ w.heap.size + 1 → b ≠ w.heap.size + 2 → ((w1.setCell ⟨w.heap.size + 1, k, none⟩ v).setCell ⟨w.heap.size + 2, k, none⟩ v).heap[b]? = w1.heap[b]? := fun b h1 h2 => (heap_setCell_other _ ⟨w.heap.size + 2, k, none⟩ b _ h2).trans (heap_setCell_other _ ⟨w.heap.size + 1, k, none⟩ b _ h1)
  have old : ∀ b, b < wr.heap.size → w1.heap[b]? = wr.heap[b]? := fun b hb' => hb.block b hb'
  refine ⟨((h.bel.trans (hb.mono (by omega))).setCell (by show w.heap.size ≤ w.heap.size + 1; omega) _).setCell (by show w.heap.size ≤ w.heap.size + 2; omega) _, by simp; omega, ?_, ?_, ?_, fun r hr hrk => ?_⟩
  · rw [oth _ (by omega) (by omega), old _ (by omega)]; exact h.box
  · have h1 : w1.rowIs (w.heap.size + 1) 34 (ins.length + 1) (fun j => if j < k then V j else .slice none 0 0) := h.out.of_block (old _ (by omega))
    refine ((h1.set k v).setOther (a := ⟨w.heap.size + 2, k, none⟩) (by show w.heap.size + 1 ≠ w.heap.size + 2; omega) v).congr (fun j _ => ?_)
    by_cases e : j = k
    · subst e; simp
    · by_cases hj : j < k
      · rw [if_neg e, if_pos hj, if_pos (by omega), if_neg e]
      · rw [if_neg e, if_neg hj, if_neg (by omega)]
  · have h1 : w1.rowIs (w.heap.size + 2) 34 ins.length (fun j => if j < k then V j else .slice none 0 0) := h.inn.of_block (old _ (by omega))
    refine ((h1.setOther (a := ⟨w.heap.size + 1, k, none⟩) (by show w.heap.size + 2 ≠ w.heap.size + 1; omega) v).set k v).congr (fun j _ => ?_)
    by_cases e : j = k
    · subst e; simp
    · by_cases hj : j < k
      · rw [if_neg e, if_pos hj, if_pos (by omega), if_neg e]
      · rw [if_neg e, if_neg hj, if_neg (by omega)]
  · by_cases e : r = k
    · subst e
      simp only [if_true]
      exact (hv.weak hs).of (fun G hG _ => oth G (by omega) (by omega))
    · simp only [if_neg e]
      exact ((h.rows r hr (by omega)).below hb).of (fun G hG _ => oth G (by omega) (by omega))

/-- the lists when they are made. -/
theorem Laying.done {w wr : World} {ins : List (List Int)} {AS : Nat → Option Addr} {V : Nat → Value} (h : Laying w wr ins AS ins.length V) (u0 u1 : Value) :
    GivenAt ((((wr.alloc (.cells #[.int .i64 (-77)] 3)).setCell ⟨w.heap.size + 1, ins.length, none⟩ (.slice (some ⟨wr.heap.size, 0, none⟩) 1 1)).setCell ⟨w.heap.size, 0, none⟩ u0).setCell ⟨w.heap.size, 1, none⟩ u1) w.heap.size ins AS (w.heap.size + 1) (w.heap.size + 2) wr.heap.size V := by
  have hs := h.size
  have oth : ∀ b, b ≠ w.heap.size → b ≠ w.heap.size + 1 → ((((wr.alloc (.cells #[.int .i64 (-77)] 3)).setCell ⟨w.heap.size + 1, ins.length, none⟩ (.slice (some ⟨wr.heap.size, 0, none⟩) 1 1)).setCell ⟨w.heap.size, 0, none⟩ u0).setCell ⟨w.heap.size, 1, none⟩ u1).heap[b]? = (wr.alloc (.cells #[.int .i64 (-77)] 3)).heap[b]? := fun b h1 h2 =>
    ((heap_setCell_other _ ⟨w.heap.size, 1, none⟩ b _ h1).trans (heap_setCell_other _ ⟨w.heap.size, 0, none⟩ b _ h1)).trans (heap_setCell_other _ ⟨w.heap.size + 1, ins.length, none⟩ b _ h2)
  refine ⟨?_, ?_, ?_, fun r hr => ?_, by omega, by omega, by omega⟩
  · have h1 := ((((h.out.alloc (.cells #[.int .i64 (-77)] 3)).set ins.length (.slice (some ⟨wr.heap.size, 0, none⟩) 1 1)).setOther (a := ⟨w.heap.size, 0, none⟩) (by show w.heap.size + 1 ≠ w.heap.size; omega) u0).setOther (a := ⟨w.heap.size, 1, none⟩) (by show w.heap.size + 1 ≠ w.heap.size; omega) u1)
    obtain ⟨c, hc1, hc2, hc3⟩ := h1
    rw [hc1]
    congr 2
    apply Array.ext_getElem?
    intro j
    by_cases hj : j < ins.length + 1
    · rw [hc3 j hj]
      by_cases e : j = ins.length
      · subst e; simp
      · have hjl : j < ins.length := by omega
        simp [List.getElem?_append, hjl, e]
    · rw [Array.getElem?_eq_none (by omega), Array.getElem?_eq_none (by simp; omega)]
  · have h1 := (((h.inn.alloc (.cells #[.int .i64 (-77)] 3))))
    obtain ⟨c, hc1, hc2, hc3⟩ := h1
    rw [oth _ (by omega) (by omega), hc1]
    congr 2
    apply Array.ext_getElem?
    intro j
    by_cases hj : j < ins.length
    · rw [hc3 j hj]
      simp [hj]
    · rw [Array.getElem?_eq_none (by omega), Array.getElem?_eq_none (by simp; omega)]
  · rw [oth _ (by omega) (by omega)]
    exact heap_alloc_new wr _
  · exact ((h.rows r hr hr).below ((Below.refl _ _).alloc (Nat.le_refl _) _)).of (fun G hG _ => oth G (by omega) (by omega)) |>.weak (by omega)

end Go.Proofs.YtghomdecppfonaaGreat

/- the statements' own helpers: lists, still, walked. -/
namespace Go.Proofs.YtghomdecppfonaaGreat
open Go.RowKit
attribute [local go_sem ↓] Go.wp_at_zero Go.wp_at_succ

set_option maxHeartbeats 4000000 in
set_option maxRecDepth 100000 in
theorem llists_any (w : World) (A : Option Addr) (C : Nat) (ins : List (List Int)) (AS : Nat → Option Addr) (CS : Nat → Nat) (h : ArgL w A C ins AS CS) :
    Calls Tryz.prog 4 #[.slice A ins.length C] w fun e w' => ∃ vo vi, e = .returned (.agg #[vo, vi]) ∧ GivenV w' w.heap.size A ins AS vo vi ∧ Below w.heap.size w w' := by
  have hnil := eql_nil (P := Tryz.prog) 22 34 Tryz.underlying22
  have hfew := h.few
  cases A with
  | none =>
    have hx := h.nil rfl
    subst hx
    clear h
    go_enter Tryz.func4, Tryz.ntmps4
    go_wp2
    refine bodyPost_ret (v := .agg #[.slice none 0 0, .slice none 0 0]) (by simp [results, Tryz.results4, go_sem]) rfl ?_
    exact ⟨_, _, rfl, .inl ⟨rfl, rfl, rfl⟩, (Below.refl _ _).alloc (Nat.le_refl _) _⟩
  | some a =>
    have hm1 := run_make_row' (P := Tryz.prog) 22 34 (.slice none 0 0) 24 Tryz.underlying22 Tryz.infoIntsE rfl .i64 .i64 (ins.length + 1) (by omega) (by omega)
    simp only [show ((ins.length + 1 : Nat) : Int) = (ins.length : Int) + 1 from by omega] at hm1
    have hm2 := run_make_row' (P := Tryz.prog) 22 34 (.slice none 0 0) 24 Tryz.underlying22 Tryz.infoIntsE rfl .i64 .i64 ins.length (by omega) (by omega)
    have HA := hide h
    clear h
    go_enter Tryz.func4, Tryz.ntmps4
    go_wp2
    go_loopw [6] (fun vi wr => ∃ (k : Nat) (V : Nat → Value), k ≤ ins.length ∧ vi = .int .i64 k ∧ Laying w wr ins AS k V) (fun vi _ => ins.length - (intOf vi).toNat)
    case atStart =>
      refine ⟨0, fun _ => .slice none 0 0, Nat.zero_le _, rfl, ⟨?_, ?_, ?_, ?_, ?_, fun r hr hk => by omega⟩⟩
      · exact (((Below.refl _ _).alloc (Nat.le_refl _) _).alloc (by simp) _).alloc (by simp; omega) _
      · simp
      · rw [Below.heap_alloc _ _ _ (by simp; omega), Below.heap_alloc _ _ _ (by simp)]; exact heap_alloc_new w _
      · have := (World.rowIs_made (w.alloc (.cells #[.slice none 0 0, .slice none 0 0] 25)) (.slice none 0 0) (ins.length + 1) 34).alloc (.cells (madeCells #[.slice none 0 0] ins.length) 34)
        simp only [World.size_alloc] at this
        exact this.congr (fun j _ => by simp)
      · have := World.rowIs_made ((w.alloc (.cells #[.slice none 0 0, .slice none 0 0] 25)).alloc (.cells (madeCells #[.slice none 0 0] (ins.length + 1)) 34)) (.slice none 0 0) ins.length 34
        simp only [World.size_alloc] at this
        exact this.congr (fun j _ => by simp)
    case round =>
      clear hm1 hm2
      obtain ⟨k, V, hk, rfl, hL⟩ := hrel
      have HL := hide hL
      have hs := hL.size
      by_cases hkl : k < ins.length
      · obtain ⟨b, o, hab, hbl, hcell⟩ := HA.out.out (by omega)
        cases hab
        obtain ⟨hrow, hno, hlen⟩ := HA.out.row k hkl
        have x1 := (hL.bel.cell (p := ⟨b, o + k, none⟩) hbl).trans (hcell k hkl)
        have HCALL := hide (lroomy_any wr (AS k) (CS k) ins[k] (hrow.below hL.bel) hno hlen)
        have j3 : (0 : Int) ≤ (k : Int) := by omega
        have j4 : (k : Int) < (ins.length : Int) := by omega
        have HNX := hide (fun w1 hb v hv => hL.next (w1 := w1) hkl hb v hv)
        have HOC : Hid (∀ w1, Below wr.heap.size wr w1 → w1.cell? ⟨w.heap.size + 1, k, none⟩ = some (.slice none 0 0) ∧ w1.frozen? ⟨w.heap.size + 1, k, none⟩ = false ∧ ∀ v, (w1.setCell ⟨w.heap.size + 1, k, none⟩ v).cell? ⟨w.heap.size + 2, k, none⟩ = some (.slice none 0 0) ∧ (w1.setCell ⟨w.heap.size + 1, k, none⟩ v).frozen? ⟨w.heap.size + 2, k, none⟩ = false) := hide (fun w1 hb => by
          have h1 : w1.rowIs (w.heap.size + 1) 34 (ins.length + 1) (fun j => if j < k then V j else .slice none 0 0) := HL.out.out.of_block (hb.block _ (by omega))
          have h2 : w1.rowIs (w.heap.size + 2) 34 ins.length (fun j => if j < k then V j else .slice none 0 0) := HL.out.inn.of_block (hb.block _ (by omega))
          have e1 := h1.cell (i := k) (by omega)
          simp only [Nat.lt_irrefl, if_false] at e1
          refine ⟨e1, h1.frozen k, fun v => ?_⟩
          have h3 := h2.setOther (a := ⟨w.heap.size + 1, k, none⟩) (by show w.heap.size + 2 ≠ w.heap.size + 1; omega) v
          have e2 := h3.cell (i := k) hkl
          simp only [Nat.lt_irrefl, if_false] at e2
          exact ⟨e2, h3.frozen k⟩)
        generalize ins[k].length = lk at x1 HCALL
        clear hrow hno hlen hcell hL
        go_wp2_with fail
        refine HCALL.out.mono ?_
        rintro e w1 ⟨v, rfl, hv, hb1⟩
        obtain ⟨y1, y2, y3⟩ := HOC.out w1 hb1
        obtain ⟨y4, y5⟩ := y3 v
        have HN := hide (HNX.out w1 hb1 v hv)
        have hvs : ∃ Av nv cv, v = .slice Av nv cv := by
          rcases hv with ⟨_, rfl⟩ | ⟨_, G, _, rfl, _⟩
          · exact ⟨_, _, _, rfl⟩
          · exact ⟨_, _, _, rfl⟩
        obtain ⟨Av, nv, cv, rfl⟩ := hvs
        have j5 : (k : Int) < (ins.length : Int) + 1 := by omega
        clear hv hb1 y3 HCALL HNX HOC
        go_wp2
        go_roundw
        case rel => exact ⟨k + 1, _, by omega, by go_num, HN.out⟩
        case measure => simp [intOf]; omega
      · have ek : k = ins.length := by omega
        subst ek
        have z1 : ¬ (ins.length : Int) < (ins.length : Int) := by omega
        have hc : (wr.alloc (.cells #[.int .i64 (-77)] 3)).cell? ⟨w.heap.size + 1, ins.length, none⟩ = some (.slice none 0 0) := by
          have := (hL.out.alloc (.cells #[.int .i64 (-77)] 3)).cell (i := ins.length) (by omega)
          simp only [Nat.lt_irrefl, if_false] at this
          exact this
        have hf : (wr.alloc (.cells #[.int .i64 (-77)] 3)).frozen? ⟨w.heap.size + 1, ins.length, none⟩ = false := (hL.out.alloc _).frozen _
        have HD := hide (fun u0 u1 => hL.done u0 u1)
        have HB : Hid (Below w.heap.size w (wr.alloc (.cells #[.int .i64 (-77)] 3))) := hide (hL.bel.alloc (by omega) _)
        have hbx : ∀ u, ((wr.alloc (.cells #[.int .i64 (-77)] 3)).setCell ⟨w.heap.size + 1, ins.length, none⟩ u).heap[w.heap.size]? = some (.cells #[.slice none 0 0, .slice none 0 0] 25) := fun u => by
          rw [heap_setCell_other _ ⟨w.heap.size + 1, ins.length, none⟩ w.heap.size _ (by show w.heap.size ≠ w.heap.size + 1; omega), Below.heap_alloc _ _ _ (by omega)]; exact hL.box
        have g0 := fun u => cell_of_row _ w.heap.size 0 _ _ _ (hbx u)
        have g1 := fun u => cell_of_row _ w.heap.size 1 _ _ _ (hbx u)
        have g2 := fun u => frozen_of_row _ w.heap.size 0 _ _ (hbx u)
        have g3 := fun u => frozen_of_row _ w.heap.size 1 _ _ (hbx u)
        have j5 : (ins.length : Int) < (ins.length : Int) + 1 := by omega
        have j6 : (0 : Int) ≤ (ins.length : Int) := by omega
        clear hbx hL HL
        go_wp2
        refine bodyPost_ret (v := .agg #[.slice (some ⟨w.heap.size + 1, 0, none⟩) ins.length (ins.length + 1), .slice (some ⟨w.heap.size + 2, 0, none⟩) ins.length ins.length]) (by simp [results, Tryz.results4, go_sem, g0, g1]) rfl ?_
        exact ⟨_, _, rfl, .inr ⟨by simp, _, _, _, V, rfl, rfl, HD.out _ _⟩, ((HB.out.setCell (by show w.heap.size ≤ w.heap.size + 1; omega) _).setCell (Nat.le_refl _) _).setCell (Nat.le_refl _) _⟩

set_option maxHeartbeats 4000000 in
set_option maxRecDepth 100000 in
theorem lstill_any (w : World) (B : Nat) (A : Option Addr) (C : Nat) (ins : List (List Int)) (AS : Nat → Option Addr) (CS : Nat → Nat) (vo vi : Value) (h : ArgL w A C ins AS CS) (hv : GivenV w B A ins AS vo vi) :
    Calls Tryz.prog 11 #[.agg #[vo, vi], .slice A ins.length C] w fun e w' => e = .returned (.bool true) ∧ Below w.heap.size w w' := by
  have hnil := eql_nil (P := Tryz.prog) 22 34 Tryz.underlying22
  have hfew := h.few
  rcases hv with ⟨rfl, rfl, rfl⟩ | ⟨hA, go, gi, gm, V, rfl, rfl, hG⟩
  · have hx := h.nil rfl
    subst hx
    clear h
    go_enter Tryz.func11, Tryz.ntmps11
    go_wp2
    go_ret
    exact ⟨rfl, (Below.refl _ _).alloc (Nat.le_refl _) _⟩
  · have HA := hide h
    have HG := hide hG
    obtain ⟨bx, hbx⟩ : ∃ bx, bx = w.alloc (.cells #[.slice (some ⟨go, 0, none⟩) ins.length (ins.length + 1), .slice (some ⟨gi, 0, none⟩) ins.length ins.length] 25) := ⟨_, rfl⟩
    have HB0 : Hid (Below w.heap.size w bx) := hide (by rw [hbx]; exact (Below.refl _ _).alloc (Nat.le_refl _) _)
    have HSZ : Hid (w.heap.size < bx.heap.size) := hide (by rw [hbx]; simp)
    have HC : Hid (∀ W, Below bx.heap.size bx W → W.cell? ⟨w.heap.size, 0, none⟩ = some (.slice (some ⟨go, 0, none⟩) ins.length (ins.length + 1)) ∧ W.cell? ⟨w.heap.size, 1, none⟩ = some (.slice (some ⟨gi, 0, none⟩) ins.length ins.length)) := hide (fun W hW => by
      have hN : W.heap[w.heap.size]? = some (.cells #[.slice (some ⟨go, 0, none⟩) ins.length (ins.length + 1), .slice (some ⟨gi, 0, none⟩) ins.length ins.length] 25) := (hW.block w.heap.size HSZ.out).trans (by rw [hbx]; exact heap_alloc_new w _)
      exact ⟨by rw [cell_of_row W _ 0 _ _ _ hN]; rfl, by rw [cell_of_row W _ 1 _ _ _ hN]; rfl⟩)
    have hAs : ∃ a, A = some a := by cases A with | none => exact absurd rfl hA | some a => exact ⟨a, rfl⟩
    obtain ⟨a, rfl⟩ := hAs
    clear h hG hA
    go_enter Tryz.func11, Tryz.ntmps11
    go_wp2
    rw [← hbx]
    go_loopw [6] (fun vk wr => ∃ k : Nat, k ≤ ins.length ∧ vk = .int .i64 k ∧ Below bx.heap.size bx wr) (fun vk _ => ins.length - (intOf vk).toNat)
    case atStart => exact ⟨0, Nat.zero_le _, rfl, Below.refl _ _⟩
    case round =>
      obtain ⟨k, hk, rfl, hbr⟩ := hrel
      obtain ⟨c0, c1⟩ := HC.out wr hbr
      have HBW := hide (HB0.out.trans (hbr.mono HB0.out.size))
      have hG := HG.out.below HBW.out
      have hA := HA.out.below HBW.out
      have HBR := hide hbr
      by_cases hkl : k < ins.length
      · obtain ⟨b, o, hab, hbl, hcell⟩ := hA.out (by omega)
        cases hab
        obtain ⟨hrow, hno, hlen⟩ := hA.row k hkl
        have x1 := hcell k hkl
        have x2 : wr.cell? ⟨go, k, none⟩ = some (V k) := by rw [cell_of_row wr go _ _ _ _ hG.out]; simp [List.getElem?_append, hkl]
        have HX : Hid (∀ W, Below bx.heap.size bx W → W.cell? ⟨gi, k, none⟩ = some (V k) ∧ W.cell? ⟨b, o + k, none⟩ = some (.slice (AS k) ins[k].length (CS k))) := hide (fun W hW => by
          have hW' := HB0.out.trans (hW.mono HB0.out.size)
          have hG' := HG.out.below hW'
          obtain ⟨b', o', hab', _, hcell'⟩ := (HA.out.below hW').out (by omega)
          cases hab'
          exact ⟨by rw [cell_of_row W gi _ _ _ _ hG'.inn]; simp [hkl], hcell' k hkl⟩)
        have H1 : Hid (∀ W, Below bx.heap.size bx W → Calls Tryz.prog 8 #[V k, .slice (AS k) ins[k].length (CS k)] W fun e w' => e = .returned (.bool true) ∧ Below W.heap.size W w') := hide (fun W hW => by
          have hW' := HB0.out.trans (hW.mono HB0.out.size)
          have := lsame_any W (V k) (.slice (AS k) ins[k].length (CS k)) ins[k] ins[k] (((HG.out.below hW').rows k hkl).row hno (by omega)) ((HA.out.below hW').row k hkl).1
          rwa [show (ins[k] == ins[k]) = true by simp] at this)
        have H2 : Hid (∀ W, Below bx.heap.size bx W → Calls Tryz.prog 18 #[V k, .slice (AS k) ins[k].length (CS k)] W fun e w' => e = .returned (.bool true) ∧ Below W.heap.size W w') := hide (fun W hW => by
          have hW' := HB0.out.trans (hW.mono HB0.out.size)
          exact lwhole_any W B (AS k) (CS k) ins[k] (V k) ((HG.out.below hW').rows k hkl) ((HA.out.below hW').row k hkl).1 hno hlen)
        have j3 : (0 : Int) ≤ (k : Int) := by omega
        have j4 : (k : Int) < (ins.length : Int) := by omega
        generalize ins[k].length = lk at x1 H1 H2 HX
        generalize hVk : V k = vk at x2 HX H1 H2
        clear hrow hno hlen hcell hG hA hVk
        have g1 : w.heap.size < wr.heap.size := Nat.lt_of_lt_of_le HSZ.out hbr.size
        have g2 : go < wr.heap.size := World.block_lt_of_cell? _ _ x2
        have g3 : b < wr.heap.size := World.block_lt_of_cell? _ _ x1
        go_wp2_with fail
        go_region_held3 (fun w' => w'.cell? ⟨w.heap.size, 0, none⟩ = some (.slice (some ⟨go, 0, none⟩) ins.length (ins.length + 1)) ∧ w'.cell? ⟨go, k, none⟩ = some vk ∧ w'.cell? ⟨b, o + k, none⟩ = some (.slice (AS k) lk (CS k))) (go_keep)
          ((go_at_call 8; refine (H1.out _ HBR.out.drew).mono ?_; rintro e w1 ⟨rfl, hb1⟩; have t1 := (hb1.cell (p := ⟨w.heap.size, 0, none⟩) g1).trans c0; have t2 := (hb1.cell (p := ⟨go, k, none⟩) g2).trans x2; have t3 := (hb1.cell (p := ⟨b, o + k, none⟩) g3).trans x1))
        rename_i hHeld
        clear hHeld t1 t2 t3
        have HBR1 : Hid (Below bx.heap.size bx w1) := hide (HBR.out.drew.trans (hb1.mono HBR.out.size))
        clear c0 c1 x1 x2 hb1 hbr HBW g1 g2 g3
        obtain ⟨c0, c1⟩ := HC.out w1 HBR1.out
        obtain ⟨x2, x1⟩ := HX.out w1 HBR1.out
        have g1 : w.heap.size < w1.heap.size := Nat.lt_of_lt_of_le HSZ.out HBR1.out.size
        have g2 : gi < w1.heap.size := World.block_lt_of_cell? _ _ x2
        have g3 : b < w1.heap.size := World.block_lt_of_cell? _ _ x1
        go_wp2_with fail
        go_region_held3 (fun w' => w'.cell? ⟨w.heap.size, 1, none⟩ = some (.slice (some ⟨gi, 0, none⟩) ins.length ins.length) ∧ w'.cell? ⟨gi, k, none⟩ = some vk ∧ w'.cell? ⟨b, o + k, none⟩ = some (.slice (AS k) lk (CS k))) (go_keep)
          ((go_at_call 18; refine (H2.out _ HBR1.out.drew).mono ?_; rintro e w2 ⟨rfl, hb2⟩; have t1 := (hb2.cell (p := ⟨w.heap.size, 1, none⟩) g1).trans c1; have t2 := (hb2.cell (p := ⟨gi, k, none⟩) g2).trans x2; have t3 := (hb2.cell (p := ⟨b, o + k, none⟩) g3).trans x1))
        rename_i hHeld
        clear hHeld t1 t2 t3
        have HBR2 : Hid (Below bx.heap.size bx w2) := hide (HBR1.out.drew.trans (hb2.mono HBR1.out.size))
        clear c0 c1 x1 x2 hb2 g1 g2 g3
        go_wp2
        go_roundw
        case rel => exact ⟨k + 1, by omega, by go_num, by first | exact HBR2.out | exact below_drewN HBR2.out _⟩
        case measure => simp [intOf]; omega
      · have ek : k = ins.length := by omega
        subst ek
        have z1 : ¬ (ins.length : Int) < (ins.length : Int) := by omega
        have x2 : wr.cell? ⟨go, ins.length, none⟩ = some (.slice (some ⟨gm, 0, none⟩) 1 1) := by rw [cell_of_row wr go _ _ _ _ hG.out]; simp
        have x3 : wr.cell? ⟨gm, 0, none⟩ = some (.int .i64 (-77)) := by rw [cell_of_row wr gm _ _ _ _ hG.mark]; rfl
        have j5 : (ins.length : Int) < (ins.length : Int) + 1 := by omega
        have j6 : (0 : Int) ≤ (ins.length : Int) := by omega
        clear hG hA hbr
        go_wp2
        go_ret
        exact ⟨rfl, by first | exact HBW.out | exact below_drewN HBW.out _⟩

end Go.Proofs.YtghomdecppfonaaGreat
