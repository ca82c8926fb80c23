import Derived.Test.Ytmndgoapkmhglabo35OpenT
namespace Go.Proofs.Ytmndgoapkmhglab
open Go.RowKit
attribute [local go_sem ↓] Go.wp_at_zero Go.wp_at_succ
def sentL (x : LiF) (t : Int) : LiF := ⟨x.src, x.dst, x.late, x.sent + 1, x.taken, t, x.known⟩
def tellL (F : Nat → LiF) (q t : Int) (k l : Nat) : LiF := if l < k ∧ (F l).src = q then sentL (F l) t else F l
set_option maxHeartbeats 4000000 in
set_option maxRecDepth 100000 in
theorem ktell_any (w : World) (Z b : Nat) (aL : Option Addr) (n cL gS gT : Nat) (F : Nat → LiF) (st tl : Nat → Nat) (hB : Bk w Z b aL n cL gS gT F st tl) (q : Nat) (hq : q < 4) (aa ab ac : Int) (hZ : Z ≤ w.heap.size)
    (h1 : ∀ l, l < n → 0 ≤ (F l).sent ∧ (F l).sent ≤ 1000) (ha : 0 ≤ aa ∧ aa ≤ 1099511627776 ∧ 0 ≤ ac ∧ ac ≤ 1099511627776) (ht : tl q ≤ 1000) :
    Calls Try.prog 46 #[.pointer (some ⟨b, 0, none⟩), .agg #[.int .i64 (q : Int), .int .i64 aa, .int .i64 ab, .int .i64 ac]] w fun e w' => (∃ v, e = .returned v) ∧ Bk w' Z b aL n cL gS gT (tellL F q (aa + ac) n) st (fun p => if p = q then tl q + 1 else tl p) ∧ Below Z w w' ∧ ∀ j, j < w.heap.size → aL ≠ some ⟨j, 0, none⟩ → j ≠ gT → w'.heap[j]? = w.heap[j]? := by
  obtain ⟨w0, hw0⟩ : ∃ w0, w0 = w.alloc (.cells #[.int .i64 (q : Int), .int .i64 aa, .int .i64 ab, .int .i64 ac] 43) := ⟨_, rfl⟩
  have hb0 : Below w.heap.size w w0 := by rw [hw0]; exact (Below.refl _ _).alloc (Nat.le_refl _) _
  have hA0 : ActAt w0 w.heap.size ⟨q, aa, ab, ac⟩ := by rw [hw0]; exact ActAt.boxed w ⟨q, aa, ab, ac⟩
  have hB0 := hB.below hb0
  have hgl : ∀ g, aL = some ⟨g, 0, none⟩ → 0 < n → g < w.heap.size := fun g e hn => by obtain ⟨g2, e2, h6, _⟩ := hB.ls hn; rw [e] at e2; cases e2; exact h6.lt
  have HGL := hide hgl
  have hgT := hB.tr.lt
  have r2 := hB0.c2
  have r4 := hB0.ct hq
  have fT := hB0.tr.frozen q
  have z0 := hA0.cells.1
  simp only [] at z0
  obtain ⟨wy, hwy⟩ : ∃ wy, wy = (w0.setCell ⟨gT, q, none⟩ (.int .i64 ((tl q : Int) + 1))).drew := ⟨_, rfl⟩
  have hBy : Bk wy Z b aL n cL gS gT F st (fun p => if p = q then tl q + 1 else tl p) := by
    rw [hwy]
    have h7 := hB0.setT (p := q) (tl q + 1)
    rw [show ((tl q + 1 : Nat) : Int) = (tl q : Int) + 1 by omega] at h7
    exact h7.of_blocks (fun _ _ _ => rfl)
  have hAy : ActAt wy w.heap.size ⟨q, aa, ab, ac⟩ := by
    rw [hwy]
    exact World.rowIs.of_block (World.rowIs.setOther hA0 (a := ⟨gT, q, none⟩) (by show w.heap.size ≠ gT; omega) _) rfl
  have hbz : Below Z w wy := by rw [hwy]; exact ((hb0.mono (by omega)).setCell (by show Z ≤ gT; exact hB.z3) _).drew
  have hfew := hB.few
  have HKY : Hid (∀ j, j < w.heap.size → aL ≠ some ⟨j, 0, none⟩ → j ≠ gT → wy.heap[j]? = w.heap[j]?) := hide (fun j hj _ hne => by
    rw [hwy]
    show (w0.setCell ⟨gT, q, none⟩ (.int .i64 ((tl q : Int) + 1))).heap[j]? = _
    rw [heap_setCell_other w0 ⟨gT, q, none⟩ j _ hne]
    exact hb0.block j hj)
  have HBY := hide hBy
  have HBZ := hide hbz
  have HAY := hide hAy
  have H1 := hide h1
  have HZ := hide hZ
  have s0 := hBy.c0
  have hw1 : IntKind.i64.wrap ((tl q : Int) + 1) = (tl q : Int) + 1 := by rw [IntKind.wrap_i64]; omega
  have hw2 : IntKind.i64.wrap (aa + ac) = aa + ac := by rw [IntKind.wrap_i64]; omega
  have j1 : (0 : Int) ≤ (q : Int) := by omega
  have j2 : (q : Int) < 4 := by omega
  have HWY := hide hwy
  have HW0 := hide hw0
  clear hAy hBy hwy hbz hB hB0 hA0 hb0 hw0 h1 hZ hgl hgT
  go_enter Try.func46, Try.ntmps46
  go_wp2_with fail
  rw [← HW0.out]
  go_big_region
  go_wp2
  rw [← HWY.out]
  clear r2 r4 fT z0
  go_loopw [4] (fun vi wr => ∃ k : Nat, k ≤ n ∧ vi = .int .i64 k ∧ Bk wr Z b aL n cL gS gT (tellL F q (aa + ac) k) st (fun p => if p = q then tl q + 1 else tl p) ∧ Below Z w wr ∧ ActAt wr w.heap.size ⟨q, aa, ab, ac⟩ ∧ ∀ j, j < w.heap.size → aL ≠ some ⟨j, 0, none⟩ → j ≠ gT → wr.heap[j]? = w.heap[j]?) (fun vi _ => n - (intOf vi).toNat)
  case atStart => exact ⟨0, by omega, rfl, HBY.out.congr (fun l _ => by unfold tellL; rw [if_neg (by omega)]) (fun _ _ => rfl) (fun _ _ => rfl), HBZ.out, HAY.out, HKY.out⟩
  case round =>
    obtain ⟨k, hk, rfl, hBr, hbr, hAr, hkr⟩ := hrel
    have HKR := hide hkr
    clear hkr
    have r0 := hBr.c0
    have HBR := hide hBr
    have HBW := hide hbr
    have HAR := hide hAr
    by_cases hkl : k < n
    · obtain ⟨g, rfl, hLn, _, _, _, hZg⟩ := hBr.ls (by omega)
      have hgw := HGL.out g rfl (by omega)
      obtain ⟨y0, y1, y2, y3, y4, y5, y6⟩ := hLn.cells hkl
      have etk : tellL F q (aa + ac) k k = F k := by unfold tellL; rw [if_neg (by omega)]
      rw [etk] at y0 y1 y2 y3 y4 y5 y6
      have z0 := hAr.cells.1
      have z1 := hAr.cells.2.1
      have z3 := hAr.cells.2.2.2
      simp only [] at z0 z1 z3
      have f3 := hLn.froz (k * 7 + 3)
      have t1 := H1.out k hkl
      obtain ⟨x, hx⟩ : ∃ x, x = F k := ⟨_, rfl⟩
      rw [← hx] at y0 y1 y2 y3 y4 y5 y6 t1
      have m1 : (0 : Int) ≤ (k : Int) := by omega
      have m2 : (k : Int) < (n : Int) := by omega
      obtain ⟨x0, x1, x2, x3, x4, x5, x6⟩ := x
      simp only [] at y0 y1 y2 y3 y4 y5 y6 t1
      have hw3 : IntKind.i64.wrap (x3 + 1) = x3 + 1 := by rw [IntKind.wrap_i64]; omega
      have HX := hide hx
      have HZG := hide hZg
      by_cases e1 : x0 = (q : Int)
      · subst e1
        obtain ⟨wz, hwz⟩ : ∃ wz, wz = (wr.setCell ⟨g, k * 7 + 3, none⟩ (.int .i64 (x3 + 1))).drew := ⟨_, rfl⟩
        have hBz : Bk wz Z b (some ⟨g, 0, none⟩) n cL gS gT (fun l => if l = k then ⟨q, x1, x2, x3 + 1, x4, x5, x6⟩ else tellL F q (aa + ac) k l) st (fun p => if p = q then tl q + 1 else tl p) := by
          rw [hwz]
          refine (hBr.setL (F' := fun l => if l = k then ⟨q, x1, x2, x3 + 1, x4, x5, x6⟩ else tellL F q (aa + ac) k l) (l := k) (j := 3) rfl hkl (by omega) (.int .i64 (x3 + 1)) (fun l' _ j' hj' => ?_)).of_blocks (fun _ _ _ => rfl)
          by_cases e : l' = k
          · subst e
            rw [if_pos rfl, etk, ← hx]
            have : j' = 0 ∨ j' = 1 ∨ j' = 2 ∨ j' = 3 ∨ j' = 4 ∨ j' = 5 ∨ j' = 6 := by omega
            rcases this with rfl | rfl | rfl | rfl | rfl | rfl | rfl <;> simp [LiF.cell]
          · rw [if_neg e, if_neg (fun h => e h.1)]
        have hAz : ActAt wz w.heap.size ⟨q, aa, ab, ac⟩ := by
          rw [hwz]
          exact World.rowIs.of_block (World.rowIs.setOther hAr (a := ⟨g, k * 7 + 3, none⟩) (by show w.heap.size ≠ g; omega) _) rfl
        have hbz : Below Z w wz := by rw [hwz]; exact (hbr.setCell (by show Z ≤ g; exact hZg) _).drew
        have u0 := hBz.c0
        have u1 := hAz.cells.2.1
        have u3 := hAz.cells.2.2.2
        simp only [] at u1 u3
        obtain ⟨g3, eg3, hLz, _⟩ := hBz.ls (by omega)
        cases eg3
        have u5 := (hLz.cells hkl).2.2.2.2.2.1
        simp only [if_true] at u5
        have f5 := hLz.froz (k * 7 + 5)
        have HBZZ := hide hBz
        have HAZ := hide hAz
        have HBzb := hide hbz
        have HKZ : Hid (∀ j, j < w.heap.size → (some (⟨g, 0, none⟩ : Addr)) ≠ some ⟨j, 0, none⟩ → j ≠ gT → (wz.setCell ⟨g, k * 7 + 5, none⟩ (.int .i64 (aa + ac))).heap[j]? = w.heap[j]?) := hide (fun j hj hne h9 => by
          have hjg : j ≠ g := fun e => hne (by rw [e])
          rw [heap_setCell_other wz ⟨g, k * 7 + 5, none⟩ j _ hjg, hwz]
          show (wr.setCell ⟨g, k * 7 + 3, none⟩ (.int .i64 (x3 + 1))).heap[j]? = _
          rw [heap_setCell_other wr ⟨g, k * 7 + 3, none⟩ j _ hjg]
          exact HKR.out j hj hne h9)
        have HWZ := hide hwz
        have d1 : ((q : Int) == (q : Int)) = true := by simp
        have ngh : w.heap.size ≠ g := by omega
        clear hBz hAz hbz hwz hLz hLn hBr hbr hAr hx etk
        go_wp2_with fail
        go_big_region
        go_wp2_with fail
        rw [← HWZ.out]
        clear y0 y1 y2 y3 y4 y5 y6 z0 z1 z3 f3 r0
        go_big_region
        go_wp2
        go_roundw
        case rel =>
          have hfin : Bk (wz.setCell ⟨g, k * 7 + 5, none⟩ (.int .i64 (aa + ac))) Z b (some ⟨g, 0, none⟩) n cL gS gT (tellL F q (aa + ac) (k + 1)) st (fun p => if p = q then tl q + 1 else tl p) := by
            refine HBZZ.out.setL (l := k) (j := 5) rfl hkl (by omega) (.int .i64 (aa + ac)) (fun l' _ j' hj' => ?_)
            by_cases e : l' = k
            · subst e
              have e8 : tellL F q (aa + ac) (l' + 1) l' = ⟨q, x1, x2, x3 + 1, x4, aa + ac, x6⟩ := by
                unfold tellL
                rw [← HX.out, if_pos ⟨by omega, rfl⟩]
                rfl
              rw [if_pos rfl, e8]
              have : j' = 0 ∨ j' = 1 ∨ j' = 2 ∨ j' = 3 ∨ j' = 4 ∨ j' = 5 ∨ j' = 6 := by omega
              rcases this with rfl | rfl | rfl | rfl | rfl | rfl | rfl <;> simp [LiF.cell]
            · rw [if_neg e, if_neg (fun h => e h.1)]
              unfold tellL
              by_cases e2 : l' < k
              · by_cases e3 : (F l').src = q
                · rw [if_pos ⟨by omega, e3⟩, if_pos ⟨e2, e3⟩]
                · rw [if_neg (fun h => e3 h.2), if_neg (fun h => e3 h.2)]
              · rw [if_neg (by omega), if_neg (fun h => e2 h.1)]
          have hbf : Below Z w (wz.setCell ⟨g, k * 7 + 5, none⟩ (.int .i64 (aa + ac))) := HBzb.out.setCell (by show Z ≤ g; exact HZG.out) _
          have haf : ActAt (wz.setCell ⟨g, k * 7 + 5, none⟩ (.int .i64 (aa + ac))) w.heap.size ⟨q, aa, ab, ac⟩ := World.rowIs.setOther HAZ.out (a := ⟨g, k * 7 + 5, none⟩) ngh _
          exact ⟨k + 1, by omega, by go_num, hfin.of_blocks (fun _ _ _ => rfl), hbf.drew, World.rowIs.of_block haf rfl, HKZ.out⟩
        case measure => simp [intOf]; omega
      · have d1 : (x0 == (q : Int)) = false := by rw [beq_eq_false_iff_ne]; exact e1
        have HE1 := hide e1
        have HBN := hide (below_drewN hbr)
        have HD := hide (below_drewN (Below.refl wr.heap.size wr))
        clear e1 hLn hBr hbr hAr hx etk
        go_wp2_with fail
        first | go_quiet (fail) | go_big_region
        go_wp2
        go_roundw
        case rel =>
          refine ⟨k + 1, by omega, by go_num, (HBR.out.below (HD.out _)).congr (fun l _ => ?_) (fun _ _ => rfl) (fun _ _ => rfl), HBN.out _, World.rowIs.of_block HAR.out ((HD.out _).block _ HAR.out.lt), fun j hj hne h9 => ((HD.out _).block j (Nat.lt_trans hj HAR.out.lt)).trans (HKR.out j hj hne h9)⟩
          unfold tellL
          by_cases e : l = k
          · subst e
            rw [if_neg (by omega), if_neg (fun h => HE1.out (by have := h.2; rw [← HX.out] at this; exact this))]
          · by_cases e2 : l < k
            · by_cases e3 : (F l).src = q
              · rw [if_pos ⟨e2, e3⟩, if_pos ⟨by omega, e3⟩]
              · rw [if_neg (fun h => e3 h.2), if_neg (fun h => e3 h.2)]
            · rw [if_neg (fun h => e2 h.1), if_neg (by omega)]
        case measure => simp [intOf]; omega
    · have ek : k = n := by omega
      subst ek
      clear hbr hBr hAr
      go_wp2
      go_end0
      exact ⟨⟨_, rfl⟩, HBR.out, HBW.out, HKR.out⟩
end Go.Proofs.Ytmndgoapkmhglab
