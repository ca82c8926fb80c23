import Derived.Test.Ytmndgoapkmhglabo35OpenT
namespace Go.Proofs.Ytmndgoapkmhglab
open Go.RowKit
attribute [local go_sem ↓] Go.wp_at_zero Go.wp_at_succ
set_option maxHeartbeats 4000000 in
set_option maxRecDepth 100000 in
theorem kready_any (w : World) (Z b : Nat) (aL : Option Addr) (n cL gS gT : Nat) (F : Nat → LiF) (st tl : Nat → Nat) (hB : Bk w Z b aL n cL gS gT F st tl) (q : Nat) (hq : q < 4) (aa ab ac : Int) (R : Bool)
    (hN : ∀ l, l < n → 0 ≤ (F l).taken ∧ (F l).taken ≤ 1000 ∧ 0 ≤ (F l).late ∧ (F l).late ≤ 1) (hst : st q ≤ 1000)
    (hR : R = true ↔ st q = tl q ∧ ∀ l, l < n → (F l).dst = (q : Int) → (F l).taken + (F l).late = (st q : Int) + 1) :
    Calls Try.prog 44 #[.pointer (some ⟨b, 0, none⟩), .agg #[.int .i64 (q : Int), .int .i64 aa, .int .i64 ab, .int .i64 ac]] w fun e w' => e = .returned (.bool R) ∧ Below w.heap.size w w' := by
  obtain ⟨w0, hw0⟩ : ∃ w0, w0 = w.alloc (.cells #[.int .i64 (q : Int), .int .i64 aa, .int .i64 ab, .int .i64 ac] 43) := ⟨_, rfl⟩
  have hb0 : Below w.heap.size w w0 := by rw [hw0]; exact (Below.refl _ _).alloc (Nat.le_refl _) _
  have hA0 : ActAt w0 w.heap.size ⟨q, aa, ab, ac⟩ := by rw [hw0]; exact ActAt.boxed w ⟨q, aa, ab, ac⟩
  have HA := hide hA0
  have HB0 := hide (hB.below hb0)
  have HBE := hide hb0
  have HW0 := hide hw0
  have HR := hide hR
  have HN := hide hN
  have hfew := hB.few
  have j1 : (0 : Int) ≤ (q : Int) := by omega
  have j2 : (q : Int) < 4 := by omega
  have hc0 : ∀ u, (w.alloc u).cell? ⟨b, 0, none⟩ = some (.slice aL n cL) := fun u => (hB.below ((Below.refl _ _).alloc (Nat.le_refl _) u)).c0
  clear hB hb0 hw0 hN hA0 hR
  have hs1 : IntKind.i64.wrap ((st q : Int) + 1) = (st q : Int) + 1 := by rw [IntKind.wrap_i64]; omega
  go_enter Try.func44, Try.ntmps44
  go_wp2
  go_loopw [5] (fun vi wr => ∃ k : Nat, k ≤ n ∧ vi = .int .i64 k ∧ Below w0.heap.size w0 wr ∧ ∀ l, l < k → (F l).dst = (q : Int) → (F l).taken + (F l).late = (st q : Int) + 1) (fun vi _ => n - (intOf vi).toNat)
  case atStart => exact ⟨0, by omega, rfl, by rw [HW0.out]; exact Below.refl _ _, fun l hl => absurd hl (by omega)⟩
  case round =>
    obtain ⟨k, hk, rfl, hbr, hall⟩ := hrel
    have HAL := hide hall
    have hBr := HB0.out.below hbr
    have r0 := hBr.c0
    have HBR := hide hbr
    clear hall
    by_cases hkl : k < n
    · obtain ⟨g, rfl, hLn, _⟩ := hBr.ls (by omega)
      obtain ⟨y0, y1, y2, y3, y4, y5, y6⟩ := hLn.cells hkl
      obtain ⟨t1, t2, t3, t4⟩ := HN.out k hkl
      have HST : Hid (((F k).dst = (q : Int) → (F k).taken + (F k).late = (st q : Int) + 1) → ∀ l, l < k + 1 → (F l).dst = (q : Int) → (F l).taken + (F l).late = (st q : Int) + 1) := hide (fun h l hl => by
        by_cases e : l = k
        · subst e; exact h
        · exact HAL.out l (by omega))
      have HNO : Hid ((F k).dst = (q : Int) → (F k).taken + (F k).late ≠ (st q : Int) + 1 → R = false) := hide (fun h1 h2 => by
        rw [Bool.eq_false_iff]
        intro h3
        exact h2 ((HR.out.1 h3).2 k hkl h1))
      generalize F k = x at *
      obtain ⟨x0, x1, x2, x3, x4, x5, x6⟩ := x
      simp only [] at y0 y1 y2 y3 y4 y5 y6 t1 t2 t3 t4 HST HNO
      have hwr : IntKind.i64.wrap (x4 + x2) = x4 + x2 := by rw [IntKind.wrap_i64]; omega
      have m1 : (0 : Int) ≤ (k : Int) := by omega
      have m2 : (k : Int) < (n : Int) := by omega
      obtain ⟨wx, hwx⟩ : ∃ wx, wx = wr.alloc (.cells #[.int .i64 x0, .int .i64 x1, .int .i64 x2, .int .i64 x3, .int .i64 x4, .int .i64 x5, .int .i64 x6] 91) := ⟨_, rfl⟩
      have hbx : Below w0.heap.size w0 wx := by rw [hwx]; exact hbr.alloc hbr.size _
      have z0 : wx.cell? ⟨w.heap.size, 0, none⟩ = some (.int .i64 (q : Int)) := (hbx.cell (p := ⟨w.heap.size, 0, none⟩) HA.out.lt).trans HA.out.cells.1
      have z1 : wx.cell? ⟨w.heap.size, 1, none⟩ = some (.int .i64 aa) := (hbx.cell (p := ⟨w.heap.size, 1, none⟩) HA.out.lt).trans HA.out.cells.2.1
      have r1 : wx.cell? ⟨b, 1, none⟩ = some (.slice (some ⟨gS, 0, none⟩) 4 4) := (HB0.out.below hbx).c1
      have r2 : wx.cell? ⟨gS, q, none⟩ = some (.int .i64 ((st q : Nat) : Int)) := (HB0.out.below hbx).cs hq
      have l0 : wx.cell? ⟨wr.heap.size, 0, none⟩ = some (.int .i64 x0) := by rw [hwx]; exact box_cell _ _ _ _ _ rfl
      have l1 : wx.cell? ⟨wr.heap.size, 1, none⟩ = some (.int .i64 x1) := by rw [hwx]; exact box_cell _ _ _ _ _ rfl
      have l2 : wx.cell? ⟨wr.heap.size, 2, none⟩ = some (.int .i64 x2) := by rw [hwx]; exact box_cell _ _ _ _ _ rfl
      have l3 : wx.cell? ⟨wr.heap.size, 3, none⟩ = some (.int .i64 x3) := by rw [hwx]; exact box_cell _ _ _ _ _ rfl
      have l4 : wx.cell? ⟨wr.heap.size, 4, none⟩ = some (.int .i64 x4) := by rw [hwx]; exact box_cell _ _ _ _ _ rfl
      have l5 : wx.cell? ⟨wr.heap.size, 5, none⟩ = some (.int .i64 x5) := by rw [hwx]; exact box_cell _ _ _ _ _ rfl
      have l6 : wx.cell? ⟨wr.heap.size, 6, none⟩ = some (.int .i64 x6) := by rw [hwx]; exact box_cell _ _ _ _ _ rfl
      have HWX := hide hwx
      have HBX := hide hbx
      have HBN := hide (below_drewN hbx)
      clear hbr hLn hBr hwx hbx
      by_cases e1 : x1 = (q : Int)
      · subst e1
        have d1 : ((q : Int) == (q : Int)) = true := by simp
        by_cases e2 : x4 + x2 = (st q : Int) + 1
        · have d2 : ((x4 + x2) == (st q : Int) + 1) = true := by rw [beq_iff_eq]; exact e2
          have HE2 := hide e2
          clear e2
          go_wp2_with fail
          rw [← HWX.out]
          go_big_region
          go_wp2
          go_roundw
          case rel => exact ⟨k + 1, by omega, by go_num, by first | exact HBX.out | exact HBX.out.drew | exact HBN.out _, HST.out (fun _ => HE2.out)⟩
          case measure => simp [intOf]; omega
        · have d2 : ((x4 + x2) == (st q : Int) + 1) = false := by rw [beq_eq_false_iff_ne]; exact e2
          have HF := hide (HNO.out rfl e2)
          have HBF := hide (HBE.out.trans (HBX.out.mono HBE.out.size))
          have HBM := hide (below_drewN HBF.out)
          clear e2
          go_wp2_with fail
          rw [← HWX.out]
          go_big_region
          go_wp2
          go_ret
          exact ⟨by rw [HF.out]; rfl, by first | exact HBF.out | exact HBF.out.drew | exact HBM.out _⟩
      · have d1 : (x1 == (q : Int)) = false := by rw [beq_eq_false_iff_ne]; exact e1
        have HE1 := hide e1
        clear e1
        go_wp2_with fail
        rw [← HWX.out]
        go_big_region
        go_wp2
        go_roundw
        case rel => exact ⟨k + 1, by omega, by go_num, by first | exact HBX.out | exact HBX.out.drew | exact HBN.out _, HST.out (fun h => absurd h HE1.out)⟩
        case measure => simp [intOf]; omega
    · have ek : k = n := by omega
      subst ek
      have hbr2 := hbr
      have z0 : wr.cell? ⟨w.heap.size, 0, none⟩ = some (.int .i64 (q : Int)) := (hbr.cell (p := ⟨w.heap.size, 0, none⟩) HA.out.lt).trans HA.out.cells.1
      have r1 := hBr.c1
      have r2 := hBr.cs hq
      have r3 := hBr.c2
      have r4 := hBr.ct hq
      have HBF := hide (HBE.out.trans (hbr.mono HBE.out.size))
      have HBN := hide (below_drewN (HBE.out.trans (hbr.mono HBE.out.size)))
      clear hbr hbr2 hBr
      go_wp2_with fail
      first | go_quiet (fail) | go_big_region
      go_wp2
      go_ret
      refine ⟨?_, by first | exact HBF.out | exact HBF.out.drew | exact HBN.out _⟩
      have hRR := HR.out
      have : R = decide (st q = tl q) := by
        rw [Bool.eq_iff_iff, hRR, decide_eq_true_iff]
        exact ⟨fun h => h.1, fun h => ⟨h, HAL.out⟩⟩
      rw [this]
      by_cases e : st q = tl q
      · simp [e]
      · have e' : ¬ ((st q : Int) = (tl q : Int)) := by omega
        first | (simp [e, e']; done) | (simp [e]; exact e')
set_option maxHeartbeats 4000000 in
set_option maxRecDepth 100000 in
theorem kfree_any (w : World) (Z b : Nat) (aL : Option Addr) (n cL gS gT : Nat) (F : Nat → LiF) (st tl : Nat → Nat) (hB : Bk w Z b aL n cL gS gT F st tl) (q : Nat) (hq : q < 4) (aa ab ac : Int) (R : Bool)
    (hN : ∀ l, l < n → 0 ≤ (F l).taken ∧ (F l).taken ≤ 1000 ∧ 0 ≤ (F l).late ∧ (F l).late ≤ 1) (htl : tl q ≤ 1000)
    (hR : R = true ↔ st q = tl q + 1 ∧ ∀ l, l < n → (F l).src = (q : Int) → (F l).taken = (F l).sent ∧ (F l).known ≤ aa) :
    Calls Try.prog 45 #[.pointer (some ⟨b, 0, none⟩), .agg #[.int .i64 (q : Int), .int .i64 aa, .int .i64 ab, .int .i64 ac]] w fun e w' => e = .returned (.bool R) ∧ Below w.heap.size w w' := by
  obtain ⟨w0, hw0⟩ : ∃ w0, w0 = w.alloc (.cells #[.int .i64 (q : Int), .int .i64 aa, .int .i64 ab, .int .i64 ac] 43) := ⟨_, rfl⟩
  have hb0 : Below w.heap.size w w0 := by rw [hw0]; exact (Below.refl _ _).alloc (Nat.le_refl _) _
  have hA0 : ActAt w0 w.heap.size ⟨q, aa, ab, ac⟩ := by rw [hw0]; exact ActAt.boxed w ⟨q, aa, ab, ac⟩
  have HA := hide hA0
  have HB0 := hide (hB.below hb0)
  have HBE := hide hb0
  have HW0 := hide hw0
  have HR := hide hR
  have HN := hide hN
  have hfew := hB.few
  have j1 : (0 : Int) ≤ (q : Int) := by omega
  have j2 : (q : Int) < 4 := by omega
  have hc0 : ∀ u, (w.alloc u).cell? ⟨b, 0, none⟩ = some (.slice aL n cL) := fun u => (hB.below ((Below.refl _ _).alloc (Nat.le_refl _) u)).c0
  clear hB hb0 hw0 hN hA0 hR
  have hs1 : IntKind.i64.wrap ((tl q : Int) + 1) = (tl q : Int) + 1 := by rw [IntKind.wrap_i64]; omega
  go_enter Try.func45, Try.ntmps45
  go_wp2
  go_loopw [5] (fun vi wr => ∃ k : Nat, k ≤ n ∧ vi = .int .i64 k ∧ Below w0.heap.size w0 wr ∧ ∀ l, l < k → (F l).src = (q : Int) → (F l).taken = (F l).sent ∧ (F l).known ≤ aa) (fun vi _ => n - (intOf vi).toNat)
  case atStart => exact ⟨0, by omega, rfl, by rw [HW0.out]; exact Below.refl _ _, fun l hl => absurd hl (by omega)⟩
  case round =>
    obtain ⟨k, hk, rfl, hbr, hall⟩ := hrel
    have HAL := hide hall
    have hBr := HB0.out.below hbr
    have r0 := hBr.c0
    have HBR := hide hbr
    clear hall
    by_cases hkl : k < n
    · obtain ⟨g, rfl, hLn, _⟩ := hBr.ls (by omega)
      obtain ⟨y0, y1, y2, y3, y4, y5, y6⟩ := hLn.cells hkl
      obtain ⟨t1, t2, t3, t4⟩ := HN.out k hkl
      have HST : Hid (((F k).src = (q : Int) → (F k).taken = (F k).sent ∧ (F k).known ≤ aa) → ∀ l, l < k + 1 → (F l).src = (q : Int) → (F l).taken = (F l).sent ∧ (F l).known ≤ aa) := hide (fun h l hl => by
        by_cases e : l = k
        · subst e; exact h
        · exact HAL.out l (by omega))
      have HNO : Hid ((F k).src = (q : Int) → ¬ ((F k).taken = (F k).sent ∧ (F k).known ≤ aa) → R = false) := hide (fun h1 h2 => by
        rw [Bool.eq_false_iff]
        intro h3
        exact h2 ((HR.out.1 h3).2 k hkl h1))
      generalize F k = x at *
      obtain ⟨x0, x1, x2, x3, x4, x5, x6⟩ := x
      simp only [] at y0 y1 y2 y3 y4 y5 y6 t1 t2 t3 t4 HST HNO
      have m1 : (0 : Int) ≤ (k : Int) := by omega
      have m2 : (k : Int) < (n : Int) := by omega
      obtain ⟨wx, hwx⟩ : ∃ wx, wx = wr.alloc (.cells #[.int .i64 x0, .int .i64 x1, .int .i64 x2, .int .i64 x3, .int .i64 x4, .int .i64 x5, .int .i64 x6] 91) := ⟨_, rfl⟩
      have hbx : Below w0.heap.size w0 wx := by rw [hwx]; exact hbr.alloc hbr.size _
      have z0 : (wx).cell? ⟨w.heap.size, 0, none⟩ = some (.int .i64 (q : Int)) := (hbx.cell (p := ⟨w.heap.size, 0, none⟩) HA.out.lt).trans HA.out.cells.1
      have z1 : wx.cell? ⟨w.heap.size, 1, none⟩ = some (.int .i64 aa) := (hbx.cell (p := ⟨w.heap.size, 1, none⟩) HA.out.lt).trans HA.out.cells.2.1
      have r1 : wx.cell? ⟨b, 1, none⟩ = some (.slice (some ⟨gS, 0, none⟩) 4 4) := (HB0.out.below hbx).c1
      have r2 : wx.cell? ⟨gS, q, none⟩ = some (.int .i64 ((st q : Nat) : Int)) := (HB0.out.below hbx).cs hq
      have l0 : wx.cell? ⟨wr.heap.size, 0, none⟩ = some (.int .i64 x0) := by rw [hwx]; exact box_cell _ _ _ _ _ rfl
      have l1 : wx.cell? ⟨wr.heap.size, 1, none⟩ = some (.int .i64 x1) := by rw [hwx]; exact box_cell _ _ _ _ _ rfl
      have l2 : wx.cell? ⟨wr.heap.size, 2, none⟩ = some (.int .i64 x2) := by rw [hwx]; exact box_cell _ _ _ _ _ rfl
      have l3 : wx.cell? ⟨wr.heap.size, 3, none⟩ = some (.int .i64 x3) := by rw [hwx]; exact box_cell _ _ _ _ _ rfl
      have l4 : wx.cell? ⟨wr.heap.size, 4, none⟩ = some (.int .i64 x4) := by rw [hwx]; exact box_cell _ _ _ _ _ rfl
      have l5 : wx.cell? ⟨wr.heap.size, 5, none⟩ = some (.int .i64 x5) := by rw [hwx]; exact box_cell _ _ _ _ _ rfl
      have l6 : wx.cell? ⟨wr.heap.size, 6, none⟩ = some (.int .i64 x6) := by rw [hwx]; exact box_cell _ _ _ _ _ rfl
      rw [hwx] at z0 z1
      have HWX := hide hwx
      have HBX := hide hbx
      have HBN := hide (below_drewN hbx)
      clear hbr hLn hBr hwx hbx
      have HBF := hide (HBE.out.trans (HBX.out.mono HBE.out.size))
      by_cases e1 : x0 = (q : Int)
      · subst e1
        have d1 : ((q : Int) == (q : Int)) = true := by simp
        by_cases e2 : x4 = x3
        · subst e2
          have d2 : (x4 == x4) = true := by simp
          by_cases e3 : x6 ≤ aa
          · have d3 : decide (x6 > aa) = false := decide_eq_false (by omega)
            have HE3 := hide e3
            clear e3
            go_wp2
            go_roundw
            case rel => exact ⟨k + 1, by omega, by go_num, by first | (rw [← HWX.out]; exact HBX.out) | exact HBX.out, HST.out (fun _ => ⟨rfl, HE3.out⟩)⟩
            case measure => simp [intOf]; omega
          · have d3 : decide (x6 > aa) = true := decide_eq_true (by omega)
            have HF := hide (HNO.out rfl (fun h => e3 h.2))
            clear e3
            go_wp2
            go_ret
            exact ⟨by rw [HF.out]; rfl, by first | (rw [← HWX.out]; exact HBF.out) | exact HBF.out⟩
        · have d2 : (x4 == x3) = false := by rw [beq_eq_false_iff_ne]; exact e2
          have HF := hide (HNO.out rfl (fun h => e2 h.1))
          go_wp2
          go_ret
          exact ⟨by rw [HF.out]; rfl, by first | (rw [← HWX.out]; exact HBF.out) | exact HBF.out⟩
      · have d1 : (x0 == (q : Int)) = false := by rw [beq_eq_false_iff_ne]; exact e1
        have HE1 := hide e1
        clear e1
        go_wp2
        go_roundw
        case rel => exact ⟨k + 1, by omega, by go_num, by first | (rw [← HWX.out]; exact HBX.out) | exact HBX.out, HST.out (fun h => absurd h HE1.out)⟩
        case measure => simp [intOf]; omega
    · have ek : k = n := by omega
      subst ek
      have hbr2 := hbr
      have z0 : wr.cell? ⟨w.heap.size, 0, none⟩ = some (.int .i64 (q : Int)) := (hbr.cell (p := ⟨w.heap.size, 0, none⟩) HA.out.lt).trans HA.out.cells.1
      have r1 := hBr.c1
      have r2 := hBr.cs hq
      have r3 := hBr.c2
      have r4 := hBr.ct hq
      have HBF := hide (HBE.out.trans (hbr.mono HBE.out.size))
      have HBN := hide (below_drewN (HBE.out.trans (hbr.mono HBE.out.size)))
      clear hbr hbr2 hBr
      go_wp2_with fail
      first | go_quiet (fail) | go_big_region
      go_wp2
      go_ret
      refine ⟨?_, by first | exact HBF.out | exact HBF.out.drew | exact HBN.out _⟩
      have hRR := HR.out
      have : R = decide (st q = tl q + 1) := by
        rw [Bool.eq_iff_iff, hRR, decide_eq_true_iff]
        exact ⟨fun h => h.1, fun h => ⟨h, HAL.out⟩⟩
      rw [this]
      by_cases e : st q = tl q + 1
      · simp [e]
      · have e' : ¬ ((st q : Int) = (tl q : Int) + 1) := by omega
        first | (simp [e, e']; done) | (simp [e]; exact e')
end Go.Proofs.Ytmndgoapkmhglab
