import Derived.Test.Ytmndgoapkmhglabo35OpenT
namespace Go.Proofs.Ytmndgoapkmhglab
open Go.RowKit
attribute [local go_sem ↓] Go.wp_at_zero Go.wp_at_succ
def tookL (x : LiF) (t : Int) : LiF := ⟨x.src, x.dst, x.late, x.sent, x.taken + 1, x.comes, t⟩
set_option maxHeartbeats 4000000 in
set_option maxRecDepth 100000 in
theorem ktook_any (w : World) (Z b : Nat) (aL : Option Addr) (n cL gS gT : Nat) (F : Nat → LiF) (st tl : Nat → Nat) (hB : Bk w Z b aL n cL gS gT F st tl) (q : Nat) (hq : q < 4) (aa ab ac : Int) (k : Nat) (hk : k < n) (hZ : Z ≤ w.heap.size)
    (h1 : 0 ≤ (F k).taken ∧ (F k).taken ≤ 1000 ∧ 0 ≤ (F k).late ∧ (F k).late ≤ 1) (ha : 0 ≤ aa ∧ aa ≤ 1099511627776 ∧ 0 ≤ ab ∧ ab ≤ 1099511627776)
    (h2 : (F k).dst = (q : Int)) (h3 : (F k).taken < (F k).sent) (h4 : (F k).comes ≤ aa) (h5 : (F k).taken + (F k).late = (st q : Int)) :
    Calls Try.prog 42 #[.pointer (some ⟨b, 0, none⟩), .int .i64 (k : Int), .agg #[.int .i64 (q : Int), .int .i64 aa, .int .i64 ab, .int .i64 ac]] w fun e w' => e = .returned (.bool true) ∧ Bk w' Z b aL n cL gS gT (fun l => if l = k then tookL (F k) (aa + ab) else F l) st tl ∧ Below Z w w' ∧ ∀ j, j < w.heap.size → aL ≠ some ⟨j, 0, none⟩ → w'.heap[j]? = w.heap[j]? := by
  obtain ⟨w0, hw0⟩ : ∃ w0, w0 = w.alloc (.cells #[.int .i64 (q : Int), .int .i64 aa, .int .i64 ab, .int .i64 ac] 43) := ⟨_, rfl⟩
  have hb0 : Below w.heap.size w w0 := by rw [hw0]; exact (Below.refl _ _).alloc (Nat.le_refl _) _
  have hA0 : ActAt w0 w.heap.size ⟨q, aa, ab, ac⟩ := by rw [hw0]; exact ActAt.boxed w ⟨q, aa, ab, ac⟩
  have hB0 := hB.below hb0
  obtain ⟨g, rfl, hL0, _, _, _, hZg⟩ := hB0.ls (by omega)
  obtain ⟨y0, y1, y2, y3, y4, y5, y6⟩ := hL0.cells hk
  have r0 := hB0.c0
  have hfew := hB.few
  obtain ⟨x, hx⟩ : ∃ x, x = F k := ⟨_, rfl⟩
  rw [← hx] at y0 y1 y2 y3 y4 y5 y6 h1 h2 h3 h4 h5
  obtain ⟨x0, x1, x2, x3, x4, x5, x6⟩ := x
  simp only [] at y0 y1 y2 y3 y4 y5 y6 h1 h2 h3 h4 h5
  subst h2
  obtain ⟨wx, hwx⟩ : ∃ wx, wx = w0.alloc (.cells #[.int .i64 x0, .int .i64 (q : Int), .int .i64 x2, .int .i64 x3, .int .i64 x4, .int .i64 x5, .int .i64 x6] 91) := ⟨_, rfl⟩
  have hbx0 : Below w0.heap.size w0 wx := by rw [hwx]; exact (Below.refl _ _).alloc (Nat.le_refl _) _
  have hbx : Below w.heap.size w wx := hb0.trans (hbx0.mono hb0.size)
  have hBx := hB.below hbx
  have z0 : wx.cell? ⟨w.heap.size, 0, none⟩ = some (.int .i64 (q : Int)) := (hbx0.cell (p := ⟨w.heap.size, 0, none⟩) hA0.lt).trans hA0.cells.1
  have z1 : wx.cell? ⟨w.heap.size, 1, none⟩ = some (.int .i64 aa) := (hbx0.cell (p := ⟨w.heap.size, 1, none⟩) hA0.lt).trans hA0.cells.2.1
  have z2 : wx.cell? ⟨w.heap.size, 2, none⟩ = some (.int .i64 ab) := (hbx0.cell (p := ⟨w.heap.size, 2, none⟩) hA0.lt).trans hA0.cells.2.2.1
  have r1 := hBx.c1
  have r2 := hBx.cs hq
  have r3 := hBx.c0
  obtain ⟨g', eg, hLx, ngb, _⟩ := hBx.ls (by omega)
  cases eg
  have q4 := (hLx.cells hk).2.2.2.2.1
  have q6 := (hLx.cells hk).2.2.2.2.2.2
  rw [← hx] at q4 q6
  simp only [] at q4 q6
  have f4 := hLx.froz (k * 7 + 4)
  have f6 := hLx.froz (k * 7 + 6)
  have hs0 : w0.heap.size = w.heap.size + 1 := by rw [hw0]; simp
  have l1 : wx.cell? ⟨w.heap.size + 1, 1, none⟩ = some (.int .i64 (q : Int)) := by rw [← hs0, hwx]; exact box_cell _ _ _ _ _ rfl
  have l2 : wx.cell? ⟨w.heap.size + 1, 2, none⟩ = some (.int .i64 x2) := by rw [← hs0, hwx]; exact box_cell _ _ _ _ _ rfl
  have l3 : wx.cell? ⟨w.heap.size + 1, 3, none⟩ = some (.int .i64 x3) := by rw [← hs0, hwx]; exact box_cell _ _ _ _ _ rfl
  have l4 : wx.cell? ⟨w.heap.size + 1, 4, none⟩ = some (.int .i64 x4) := by rw [← hs0, hwx]; exact box_cell _ _ _ _ _ rfl
  have l5 : wx.cell? ⟨w.heap.size + 1, 5, none⟩ = some (.int .i64 x5) := by rw [← hs0, hwx]; exact box_cell _ _ _ _ _ rfl
  have hgw : g < w.heap.size := by obtain ⟨g2, e2, h6, _⟩ := hB.ls (by omega); cases e2; exact h6.lt
  have ng : g ≠ w.heap.size := by omega
  rw [hw0] at y0 y1 y2 y3 y4 y5 y6 r0 hwx
  obtain ⟨wy, hwy⟩ : ∃ wy, wy = (wx.setCell ⟨g, k * 7 + 4, none⟩ (.int .i64 (x4 + 1))).drew := ⟨_, rfl⟩
  have hBy : Bk wy Z b (some ⟨g, 0, none⟩) n cL gS gT (fun l => if l = k then ⟨x0, q, x2, x3, x4 + 1, x5, x6⟩ else F l) st tl := by
    rw [hwy]
    refine (hBx.setL (F' := fun l => if l = k then ⟨x0, q, x2, x3, x4 + 1, x5, x6⟩ else F l) (l := k) (j := 4) rfl hk (by omega) (.int .i64 (x4 + 1)) (fun l' _ j' hj' => ?_)).of_blocks (fun _ _ _ => rfl)
    by_cases e : l' = k
    · subst e
      rw [if_pos rfl, ← hx]
      have : j' = 0 ∨ j' = 1 ∨ j' = 2 ∨ j' = 3 ∨ j' = 4 ∨ j' = 5 ∨ j' = 6 := by omega
      rcases this with rfl | rfl | rfl | rfl | rfl | rfl | rfl <;> simp [LiF.cell]
    · rw [if_neg e, if_neg (fun h => e h.1)]
  have hAx : ActAt wx w.heap.size ⟨q, aa, ab, ac⟩ := World.rowIs.of_block hA0 (hbx0.block _ hA0.lt)
  have hAy : ActAt wy w.heap.size ⟨q, aa, ab, ac⟩ := by
    rw [hwy]
    exact World.rowIs.of_block (World.rowIs.setOther hAx (a := ⟨g, k * 7 + 4, none⟩) (Ne.symm ng) _) rfl
  have s0 := hBy.c0
  have s1 := hAy.cells.2.1
  have s2 := hAy.cells.2.2.1
  simp only [] at s1 s2
  obtain ⟨g3, eg3, hLy, _⟩ := hBy.ls (by omega)
  cases eg3
  have s6 := (hLy.cells hk).2.2.2.2.2.2
  simp only [if_true] at s6
  have f6y := hLy.froz (k * 7 + 6)
  have hbz : Below Z w wy := by rw [hwy]; exact ((hbx.mono (by omega)).setCell (by show Z ≤ g; exact hZg) _).drew
  have hky : ∀ j, j < w.heap.size → (some (⟨g, 0, none⟩ : Addr)) ≠ some ⟨j, 0, none⟩ → (wy.setCell ⟨g, k * 7 + 6, none⟩ (.int .i64 (aa + ab))).heap[j]? = w.heap[j]? := fun j hj hne => by
    have hjg : j ≠ g := fun e => hne (by rw [e])
    rw [heap_setCell_other wy ⟨g, k * 7 + 6, none⟩ j _ hjg, hwy]
    show (wx.setCell ⟨g, k * 7 + 4, none⟩ (.int .i64 (x4 + 1))).heap[j]? = _
    rw [heap_setCell_other wx ⟨g, k * 7 + 4, none⟩ j _ hjg]
    exact hbx.block j hj
  have HKY := hide hky
  have HBY := hide hBy
  have HBZ := hide hbz
  have HWY := hide hwy
  have HBX := hide hBx
  have HBE := hide hbx
  have HWX := hide hwx
  have HX := hide hx
  have HZG := hide hZg
  have HZ := hide hZ
  have hwr : IntKind.i64.wrap (x4 + x2) = x4 + x2 := by rw [IntKind.wrap_i64]; omega
  have hw1 : IntKind.i64.wrap (x4 + 1) = x4 + 1 := by rw [IntKind.wrap_i64]; omega
  have hw2 : IntKind.i64.wrap (aa + ab) = aa + ab := by rw [IntKind.wrap_i64]; omega
  have m1 : (0 : Int) ≤ (k : Int) := by omega
  have m2 : (k : Int) < (n : Int) := by omega
  have m3 : ¬ ((k : Int) < 0) := by omega
  have m4 : ¬ ((k : Int) ≥ (n : Int)) := by omega
  have j1 : (0 : Int) ≤ (q : Int) := by omega
  have j2 : (q : Int) < 4 := by omega
  have d1 : ((q : Int) != (q : Int)) = false := by simp
  have d2 : decide (x4 ≥ x3) = false := decide_eq_false (by omega)
  have d3 : decide (x5 > aa) = false := decide_eq_false (by omega)
  have d4 : ((x4 + x2) != ((st q : Nat) : Int)) = false := by rw [h5]; simp
  clear hky hAx hAy hLy hBy hwy hbz hB hB0 hA0 hL0 hLx hBx hbx hbx0 hb0 hwx hw0 hs0 hx h3 h4 h5 hZg hZ
  go_enter Try.func42, Try.ntmps42
  go_wp2_with fail
  rw [← HWX.out]
  clear y0 y1 y2 y3 y4 y5 y6 r0
  go_big_region
  go_wp2_with fail
  rw [← HWY.out]
  clear z0 z1 z2 r1 r2 r3 q4 q6 f4 f6 l1 l2 l3 l4 l5
  go_big_region
  go_wp2
  go_ret
  have hfin : Bk (wy.setCell ⟨g, k * 7 + 6, none⟩ (.int .i64 (aa + ab))) Z b (some ⟨g, 0, none⟩) n cL gS gT (fun l => if l = k then tookL (F k) (aa + ab) else F l) st tl := by
    refine HBY.out.setL (l := k) (j := 6) rfl hk (by omega) (.int .i64 (aa + ab)) (fun l' _ j' hj' => ?_)
    by_cases e : l' = k
    · subst e
      rw [if_pos rfl, if_pos rfl, ← HX.out]
      have : j' = 0 ∨ j' = 1 ∨ j' = 2 ∨ j' = 3 ∨ j' = 4 ∨ j' = 5 ∨ j' = 6 := by omega
      rcases this with rfl | rfl | rfl | rfl | rfl | rfl | rfl <;> simp [LiF.cell, tookL]
    · rw [if_neg e, if_neg e, if_neg (fun h => e h.1)]
  have hbf : Below Z w (wy.setCell ⟨g, k * 7 + 6, none⟩ (.int .i64 (aa + ab))) := HBZ.out.setCell (by show Z ≤ g; exact HZG.out) _
  exact ⟨rfl, hfin.of_blocks (fun _ _ _ => rfl), by first | exact hbf.drew | exact hbf | exact below_drewN hbf _, HKY.out⟩
end Go.Proofs.Ytmndgoapkmhglab
