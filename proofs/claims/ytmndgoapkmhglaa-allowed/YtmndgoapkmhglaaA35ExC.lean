import Derived.Test.YtmndgoapkmhglaaA33ExA
/- lays. -/
namespace Go.Proofs.Ytmndgoapkmhglaa
open Go.RowKit
attribute [local go_sem ↓] Go.wp_at_zero Go.wp_at_succ

abbrev OpF.val (o : OpF) : Value := .agg #[.int .i64 o.k, .int .i64 o.a, .int .i64 o.b, .int .i64 o.c]

set_option maxHeartbeats 4000000 in
set_option maxRecDepth 100000 in
theorem rlays_any (w : World) (o : OpF) (hk : 0 ≤ o.k ∧ o.k ≤ 14) (n : Int) (vr vc vi vl : Value) (regs cells ins links : List Int) (hr : RowAt w vr regs) (hc : RowAt w vc cells) (hi : RowAt w vi ins) (hl : RowAt w vl links) :
    Calls Try.prog 59 #[o.val, .int .i64 n, vr, vc, vi, vl] w fun e w' => e = .returned (.int .i64 (laysF o n regs cells ins links)) ∧ Below w.heap.size w w' := by
  obtain ⟨k, a, b, c⟩ := o
  simp only at hk
  have HAL : Hid (∀ ob, Below w.heap.size w (w.alloc ob)) := hide (fun ob => (Below.refl _ _).alloc (Nat.le_refl _) ob)
  have HR := hide (fun ob z => rat_any (w.alloc ob) vr regs (hr.below (HAL.out ob)) z)
  have HC := hide (fun ob z => rat_any (w.alloc ob) vc cells (hc.below (HAL.out ob)) z)
  have HI := hide (fun ob z => rat_any (w.alloc ob) vi ins (hi.below (HAL.out ob)) z)
  have HL := hide (fun ob z => rat_any (w.alloc ob) vl links (hl.below (HAL.out ob)) z)
  have HN := hide (fun W x => rnumber_any W x)
  have HD := hide (fun W x y => rapply_any ⟨#[47]⟩ W x y)
  clear hr hc hi hl
  have hcs : k = 0 ∨ k = 1 ∨ k = 2 ∨ k = 3 ∨ k = 4 ∨ k = 5 ∨ k = 6 ∨ k = 7 ∨ k = 8 ∨ k = 9 ∨ k = 10 ∨ k = 11 ∨ k = 12 ∨ k = 13 ∨ k = 14 := by omega
  clear hk
  rcases hcs with rfl | rfl | rfl | rfl | rfl | hcs
  · have HF : Hid (laysF ⟨0, a, b, c⟩ n regs cells ins links = a) := hide rfl
    go_enter Try.func59, Try.ntmps59
    go_wp2
    go_ret
    exact ⟨by rw [HF.out]; rfl, HAL.out _⟩
  · have HF : Hid (laysF ⟨1, a, b, c⟩ n regs cells ins links = atF ins a) := hide rfl
    go_enter Try.func59, Try.ntmps59
    go_wp2_with fail
    refine (HI.out _ a).mono ?_
    rintro e w1 ⟨rfl, rfl⟩
    go_wp2
    go_ret
    exact ⟨by rw [HF.out]; rfl, HAL.out _⟩
  · have HF : Hid (laysF ⟨2, a, b, c⟩ n regs cells ins links = atF links a) := hide rfl
    go_enter Try.func59, Try.ntmps59
    go_wp2_with fail
    refine (HL.out _ a).mono ?_
    rintro e w1 ⟨rfl, rfl⟩
    go_wp2
    go_ret
    exact ⟨by rw [HF.out]; rfl, HAL.out _⟩
  · have HF : Hid (laysF ⟨3, a, b, c⟩ n regs cells ins links = atF cells a) := hide rfl
    go_enter Try.func59, Try.ntmps59
    go_wp2_with fail
    refine (HC.out _ a).mono ?_
    rintro e w1 ⟨rfl, rfl⟩
    go_wp2
    go_ret
    exact ⟨by rw [HF.out]; rfl, HAL.out _⟩
  · have HF : Hid (laysF ⟨4, a, b, c⟩ n regs cells ins links = b2i (decide (n = 0))) := hide rfl
    have HQ : Hid ((n == 0) = decide (n = 0)) := hide (by by_cases h : n = 0 <;> simp [h])
    go_enter Try.func59, Try.ntmps59
    go_wp2_with fail
    refine (HN.out _ _).mono ?_
    rintro e w1 ⟨rfl, hb1⟩
    go_wp2
    go_ret
    exact ⟨by rw [HF.out, ← HQ.out]; rfl, (HAL.out _).trans (hb1.mono (by simp))⟩
  · rcases hcs with rfl | rfl | rfl | rfl | rfl | rfl | rfl | rfl | rfl | rfl
    · have HF : Hid (laysF ⟨5, a, b, c⟩ n regs cells ins links = w64 (atF regs a + atF regs b)) := hide rfl
      go_enter Try.func59, Try.ntmps59
      go_wp2_with fail
      refine (HR.out _ a).mono ?_
      rintro e w1 ⟨rfl, rfl⟩
      go_wp2_with fail
      refine (HR.out _ b).mono ?_
      rintro e w1 ⟨rfl, rfl⟩
      generalize atF regs a = ra at *
      generalize atF regs b = rb at *
      go_wp2
      go_ret
      exact ⟨by rw [HF.out]; rfl, HAL.out _⟩
    · have HF : Hid (laysF ⟨6, a, b, c⟩ n regs cells ins links = w64 (atF regs a - atF regs b)) := hide rfl
      go_enter Try.func59, Try.ntmps59
      go_wp2_with fail
      refine (HR.out _ a).mono ?_
      rintro e w1 ⟨rfl, rfl⟩
      go_wp2_with fail
      refine (HR.out _ b).mono ?_
      rintro e w1 ⟨rfl, rfl⟩
      generalize atF regs a = ra at *
      generalize atF regs b = rb at *
      go_wp2
      go_ret
      exact ⟨by rw [HF.out]; rfl, HAL.out _⟩
    · have HF : Hid (laysF ⟨7, a, b, c⟩ n regs cells ins links = w64 (atF regs a * atF regs b)) := hide rfl
      go_enter Try.func59, Try.ntmps59
      go_wp2_with fail
      refine (HR.out _ a).mono ?_
      rintro e w1 ⟨rfl, rfl⟩
      go_wp2_with fail
      refine (HR.out _ b).mono ?_
      rintro e w1 ⟨rfl, rfl⟩
      generalize atF regs a = ra at *
      generalize atF regs b = rb at *
      go_wp2
      go_ret
      exact ⟨by rw [HF.out]; rfl, HAL.out _⟩
    · have HF : Hid (laysF ⟨8, a, b, c⟩ n regs cells ins links = apF [47] (atF regs a) (atF regs b)) := hide rfl
      go_enter Try.func59, Try.ntmps59
      go_wp2_with fail
      refine (HR.out _ a).mono ?_
      rintro e w1 ⟨rfl, rfl⟩
      go_wp2_with fail
      refine (HR.out _ b).mono ?_
      rintro e w1 ⟨rfl, rfl⟩
      generalize atF regs a = ra at *
      generalize atF regs b = rb at *
      go_wp2_with fail
      refine (HD.out _ ra rb).mono ?_
      rintro e w1 ⟨rfl, hb1⟩
      go_wp2
      go_ret
      exact ⟨by rw [HF.out]; rfl, (HAL.out _).trans (hb1.mono (by simp))⟩
    · have HF : Hid (laysF ⟨9, a, b, c⟩ n regs cells ins links = b2i (decide (atF regs a < atF regs b))) := hide rfl
      go_enter Try.func59, Try.ntmps59
      go_wp2_with fail
      refine (HR.out _ a).mono ?_
      rintro e w1 ⟨rfl, rfl⟩
      go_wp2_with fail
      refine (HR.out _ b).mono ?_
      rintro e w1 ⟨rfl, rfl⟩
      generalize atF regs a = ra at *
      generalize atF regs b = rb at *
      go_wp2_with fail
      refine (HN.out _ _).mono ?_
      rintro e w1 ⟨rfl, hb1⟩
      go_wp2
      go_ret
      exact ⟨by rw [HF.out]; rfl, (HAL.out _).trans (hb1.mono (by simp))⟩
    · have HF : Hid (laysF ⟨10, a, b, c⟩ n regs cells ins links = b2i (decide (atF regs a = atF regs b))) := hide rfl
      go_enter Try.func59, Try.ntmps59
      go_wp2_with fail
      refine (HR.out _ a).mono ?_
      rintro e w1 ⟨rfl, rfl⟩
      go_wp2_with fail
      refine (HR.out _ b).mono ?_
      rintro e w1 ⟨rfl, rfl⟩
      generalize atF regs a = ra at *
      generalize atF regs b = rb at *
      go_wp2_with fail
      refine (HN.out _ _).mono ?_
      rintro e w1 ⟨rfl, hb1⟩
      go_wp2
      go_ret
      exact ⟨by rw [HF.out, show decide (ra = rb) = (ra == rb) by by_cases h : ra = rb <;> simp [h]]; rfl, (HAL.out _).trans (hb1.mono (by simp))⟩
    · have HF : Hid (laysF ⟨11, a, b, c⟩ n regs cells ins links = b2i (decide (atF regs a ≠ 0) && decide (atF regs b ≠ 0))) := hide rfl
      go_enter Try.func59, Try.ntmps59
      go_wp2_with fail
      refine (HR.out _ a).mono ?_
      rintro e w1 ⟨rfl, rfl⟩
      go_wp2_with fail
      refine (HR.out _ b).mono ?_
      rintro e w1 ⟨rfl, rfl⟩
      generalize atF regs a = ra at *
      generalize atF regs b = rb at *
      by_cases h1 : ra = 0
      · have q1 : (ra != 0) = false := by rw [h1]; rfl
        have HG : Hid ((decide (ra ≠ 0) && decide (rb ≠ 0)) = false) := hide (by rw [decide_eq_false (by simpa using h1)]; rfl)
        clear h1
        go_wp2_with fail
        refine (HN.out _ _).mono ?_
        rintro e w1 ⟨rfl, hb1⟩
        go_wp2
        go_ret
        exact ⟨by rw [HF.out, HG.out]; rfl, (HAL.out _).trans (hb1.mono (by simp))⟩
      · have q1 : (ra != 0) = true := by rw [bne_iff_ne]; exact h1
        have HG : Hid ((decide (ra ≠ 0) && decide (rb ≠ 0)) = decide (rb ≠ 0)) := hide (by rw [decide_eq_true h1]; rfl)
        clear h1
        by_cases h2 : rb = 0
        · have q2 : (rb != 0) = false := by rw [h2]; rfl
          have HG2 : Hid ((decide (ra ≠ 0) && decide (rb ≠ 0)) = false) := hide (by rw [HG.out, decide_eq_false (by simpa using h2)])
          clear h2 HG
          go_wp2_with fail
          refine (HN.out _ _).mono ?_
          rintro e w1 ⟨rfl, hb1⟩
          go_wp2
          go_ret
          exact ⟨by rw [HF.out, HG2.out]; rfl, (HAL.out _).trans (hb1.mono (by simp))⟩
        · have q2 : (rb != 0) = true := by rw [bne_iff_ne]; exact h2
          have HG2 : Hid ((decide (ra ≠ 0) && decide (rb ≠ 0)) = true) := hide (by rw [HG.out, decide_eq_true h2])
          clear h2 HG
          go_wp2_with fail
          refine (HN.out _ _).mono ?_
          rintro e w1 ⟨rfl, hb1⟩
          go_wp2
          go_ret
          exact ⟨by rw [HF.out, HG2.out]; rfl, (HAL.out _).trans (hb1.mono (by simp))⟩
    · have HF : Hid (laysF ⟨12, a, b, c⟩ n regs cells ins links = b2i (decide (atF regs a ≠ 0) || decide (atF regs b ≠ 0))) := hide rfl
      go_enter Try.func59, Try.ntmps59
      go_wp2_with fail
      refine (HR.out _ a).mono ?_
      rintro e w1 ⟨rfl, rfl⟩
      go_wp2_with fail
      refine (HR.out _ b).mono ?_
      rintro e w1 ⟨rfl, rfl⟩
      generalize atF regs a = ra at *
      generalize atF regs b = rb at *
      by_cases h1 : ra = 0
      · have q1 : (ra != 0) = false := by rw [h1]; rfl
        have HG : Hid ((decide (ra ≠ 0) || decide (rb ≠ 0)) = decide (rb ≠ 0)) := hide (by rw [decide_eq_false (by simpa using h1)]; rfl)
        clear h1
        by_cases h2 : rb = 0
        · have q2 : (rb != 0) = false := by rw [h2]; rfl
          have HG2 : Hid ((decide (ra ≠ 0) || decide (rb ≠ 0)) = false) := hide (by rw [HG.out, decide_eq_false (by simpa using h2)])
          clear h2 HG
          go_wp2_with fail
          refine (HN.out _ _).mono ?_
          rintro e w1 ⟨rfl, hb1⟩
          go_wp2
          go_ret
          exact ⟨by rw [HF.out, HG2.out]; rfl, (HAL.out _).trans (hb1.mono (by simp))⟩
        · have q2 : (rb != 0) = true := by rw [bne_iff_ne]; exact h2
          have HG2 : Hid ((decide (ra ≠ 0) || decide (rb ≠ 0)) = true) := hide (by rw [HG.out, decide_eq_true h2])
          clear h2 HG
          go_wp2_with fail
          refine (HN.out _ _).mono ?_
          rintro e w1 ⟨rfl, hb1⟩
          go_wp2
          go_ret
          exact ⟨by rw [HF.out, HG2.out]; rfl, (HAL.out _).trans (hb1.mono (by simp))⟩
      · have q1 : (ra != 0) = true := by rw [bne_iff_ne]; exact h1
        have HG : Hid ((decide (ra ≠ 0) || decide (rb ≠ 0)) = true) := hide (by rw [decide_eq_true h1]; rfl)
        clear h1
        go_wp2_with fail
        refine (HN.out _ _).mono ?_
        rintro e w1 ⟨rfl, hb1⟩
        go_wp2
        go_ret
        exact ⟨by rw [HF.out, HG.out]; rfl, (HAL.out _).trans (hb1.mono (by simp))⟩
    · have HF : Hid (laysF ⟨13, a, b, c⟩ n regs cells ins links = b2i (decide (atF regs a = 0))) := hide rfl
      go_enter Try.func59, Try.ntmps59
      go_wp2_with fail
      refine (HR.out _ a).mono ?_
      rintro e w1 ⟨rfl, rfl⟩
      go_wp2_with fail
      refine (HR.out _ b).mono ?_
      rintro e w1 ⟨rfl, rfl⟩
      generalize atF regs a = ra at *
      generalize atF regs b = rb at *
      go_wp2_with fail
      refine (HN.out _ _).mono ?_
      rintro e w1 ⟨rfl, hb1⟩
      go_wp2
      go_ret
      exact ⟨by rw [HF.out, show decide (ra = 0) = (ra == 0) by by_cases h : ra = 0 <;> simp [h]]; rfl, (HAL.out _).trans (hb1.mono (by simp))⟩
    · have HF : Hid (laysF ⟨14, a, b, c⟩ n regs cells ins links = if atF regs a = 0 then atF regs c else atF regs b) := hide rfl
      go_enter Try.func59, Try.ntmps59
      go_wp2_with fail
      refine (HR.out _ a).mono ?_
      rintro e w1 ⟨rfl, rfl⟩
      go_wp2_with fail
      refine (HR.out _ b).mono ?_
      rintro e w1 ⟨rfl, rfl⟩
      generalize atF regs a = ra at *
      generalize atF regs b = rb at *
      by_cases h1 : ra = 0
      · have q1 : (ra == 0) = true := by rw [h1]; rfl
        have HG : Hid (laysF ⟨14, a, b, c⟩ n regs cells ins links = atF regs c) := hide (by rw [HF.out, if_pos h1])
        clear h1 HF
        go_wp2_with fail
        refine (HR.out _ c).mono ?_
        rintro e w1 ⟨rfl, rfl⟩
        go_wp2
        go_ret
        exact ⟨by rw [HG.out]; rfl, HAL.out _⟩
      · have q1 : (ra == 0) = false := by rw [beq_eq_false_iff_ne]; exact h1
        have HG : Hid (laysF ⟨14, a, b, c⟩ n regs cells ins links = rb) := hide (by rw [HF.out, if_neg h1])
        clear h1 HF
        go_wp2
        go_ret
        exact ⟨by rw [HG.out]; rfl, HAL.out _⟩

end Go.Proofs.Ytmndgoapkmhglaa
