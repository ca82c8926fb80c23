import Derived.Test.Ytmndgoapkmhglabc05Bytes
import Derived.Test.Ytmndgoapkmhglabc07RefC
namespace Go.Proofs.Ytmndgoapkmhglab
open Go.RowKit
attribute [local go_sem ↓] Go.wp_at_zero Go.wp_at_succ

theorem rlit_cases (t : RTk) : (t.c = 110 ∧ rlit t = true) ∨ (t.c ≠ 110 ∧ t.l = kTrue ∧ rlit t = true) ∨ (t.c ≠ 110 ∧ t.l ≠ kTrue ∧ t.l = kFalse ∧ rlit t = true) ∨ (t.c ≠ 110 ∧ t.l ≠ kTrue ∧ t.l ≠ kFalse ∧ rlit t = false) := by
  unfold rlit
  by_cases h1 : t.c = 110
  · left; simp [h1]
  by_cases h2 : t.l = kTrue
  · right; left; simp [h1, h2]
  by_cases h3 : t.l = kFalse
  · right; right; left; simp [h1, h3]; decide
  · right; right; right; simp [h1, h2, h3]

set_option maxHeartbeats 1000000 in
theorem rliteral_any (t : RTk) (w : World) :
    Calls Try.prog 115 #[t.val] w fun e w' => e = .returned (.bool (rlit t)) ∧ Below w.heap.size w w' := by
  rcases rlit_cases t with ⟨h1, hr⟩ | ⟨h1, h2, hr⟩ | ⟨h1, h2, h3, hr⟩ | ⟨h1, h2, h3, hr⟩
  · have q1 : ((t.c : Int) == 110) = true := by rw [h1]; rfl
    have HR := hide hr
    clear h1 hr
    go_enter Try.func115, Try.ntmps115
    go_wp2
    go_ret
    exact ⟨by rw [HR.out]; rfl, (Below.refl _ _).alloc (Nat.le_refl _) _⟩
  · have q1 : ((t.c : Int) == 110) = false := by rw [beq_eq_false_iff_ne]; omega
    have q2 := str_yes (t := t.word) h2
    simp only [kTrue] at q2
    have HR := hide hr
    clear h1 h2 hr
    go_enter Try.func115, Try.ntmps115
    go_wp2
    go_ret
    exact ⟨by rw [HR.out]; rfl, (Below.refl _ _).alloc (Nat.le_refl _) _⟩
  · have q1 : ((t.c : Int) == 110) = false := by rw [beq_eq_false_iff_ne]; omega
    have q3 := str_yes (t := t.word) h3
    simp only [kFalse] at q3
    have HR := hide hr
    clear h1 h2 h3 hr
    go_enter Try.func115, Try.ntmps115
    go_wp2
    go_ret
    exact ⟨by rw [HR.out]; rfl, (Below.refl _ _).alloc (Nat.le_refl _) _⟩
  · have q1 : ((t.c : Int) == 110) = false := by rw [beq_eq_false_iff_ne]; omega
    have q2 := str_no (t := t.word) h2
    have q3 := str_no (t := t.word) h3
    simp only [kTrue] at q2
    simp only [kFalse] at q3
    have HR := hide hr
    clear h1 h2 h3 hr
    go_enter Try.func115, Try.ntmps115
    go_wp2
    go_ret
    exact ⟨by rw [HR.out]; rfl, (Below.refl _ _).alloc (Nat.le_refl _) _⟩

theorem op_cases (l : List UInt8) : l = [43] ∨ l = [45] ∨ l = [42] ∨ l = [47] ∨ l = [60] ∨ l = [61] ∨ l = [38] ∨ l = [124] ∨
      (l ≠ [43] ∧ l ≠ [45] ∧ l ≠ [42] ∧ l ≠ [47] ∧ l ≠ [60] ∧ l ≠ [61] ∧ l ≠ [38] ∧ l ≠ [124]) := by
  by_cases h1 : l = [43]
  · exact .inl h1
  by_cases h2 : l = [45]
  · exact .inr (.inl h2)
  by_cases h3 : l = [42]
  · exact .inr (.inr (.inl h3))
  by_cases h4 : l = [47]
  · exact .inr (.inr (.inr (.inl h4)))
  by_cases h5 : l = [60]
  · exact .inr (.inr (.inr (.inr (.inl h5))))
  by_cases h6 : l = [61]
  · exact .inr (.inr (.inr (.inr (.inr (.inl h6)))))
  by_cases h7 : l = [38]
  · exact .inr (.inr (.inr (.inr (.inr (.inr (.inl h7))))))
  by_cases h8 : l = [124]
  · exact .inr (.inr (.inr (.inr (.inr (.inr (.inr (.inl h8)))))))
  exact .inr (.inr (.inr (.inr (.inr (.inr (.inr (.inr ⟨h1, h2, h3, h4, h5, h6, h7, h8⟩)))))))

set_option maxHeartbeats 1000000 in
theorem roperator_any (t : ByteArray) (w : World) :
    Calls Try.prog 116 #[.string t] w fun e w' => e = .returned (.bool (rop t.data.toList)) ∧ w = w' := by
  rcases op_cases t.data.toList with h | h | h | h | h | h | h | h | ⟨h1, h2, h3, h4, h5, h6, h7, h8⟩
  all_goals try (
    have HF := hide (congrArg rop h)
    have et := str_yes h
    clear h
    go_enter Try.func116, Try.ntmps116
    go_wp2
    go_ret
    exact ⟨by rw [HF.out]; rfl, rfl⟩)
  have HF : Hid (rop t.data.toList = false) := hide (by unfold rop opOf; rw [if_neg h1, if_neg h2, if_neg h3, if_neg h4, if_neg h5, if_neg h6, if_neg h7, if_neg h8]; rfl)
  have q1 := str_no h1
  have q2 := str_no h2
  have q3 := str_no h3
  have q4 := str_no h4
  have q5 := str_no h5
  have q6 := str_no h6
  have q7 := str_no h7
  have q8 := str_no h8
  clear h1 h2 h3 h4 h5 h6 h7 h8
  go_enter Try.func116, Try.ntmps116
  go_wp2
  go_ret
  exact ⟨by rw [HF.out]; rfl, rfl⟩

/-- three results: a text and two truths. -/
abbrev tri (r : List UInt8 × Bool × Bool) : Value := .tuple #[.string ⟨r.1.toArray⟩, .bool r.2.1, .bool r.2.2]

set_option maxHeartbeats 1000000 in
theorem rinside_any (t : RTk) (w : World) :
    Calls Try.prog 117 #[t.val] w fun e w' => e = .returned (tri (insF t)) ∧ Below w.heap.size w w' := by
  have fin : ∀ (a1 a2 a3 : Prop), a1 → a2 → a3 → a1 ∧ a2 ∧ a3 := fun _ _ _ x y z => ⟨x, y, z⟩
  clear fin
  have step : ∀ w1, Below (w.alloc (.cells #[.int .u8 (t.c : Int), .string t.word, .int .i64 (t.pos : Int), .int .i64 (t.n : Int)] 157)).heap.size (w.alloc (.cells #[.int .u8 (t.c : Int), .string t.word, .int .i64 (t.pos : Int), .int .i64 (t.n : Int)] 157)) w1 →
      w1.cell? ⟨w.heap.size, 0, none⟩ = some (.int .u8 (t.c : Int)) ∧ w1.cell? ⟨w.heap.size, 1, none⟩ = some (.string t.word) ∧ Below w.heap.size w w1 := fun w1 hb => by
    have hN := (hb.block w.heap.size (by simp)).trans (heap_alloc_new w _)
    refine ⟨?_, ?_, ((Below.refl _ _).alloc (Nat.le_refl _) _).trans (hb.mono (by simp))⟩
    · rw [cell_of_row w1 _ 0 _ _ _ hN]; rfl
    · rw [cell_of_row w1 _ 1 _ _ _ hN]; rfl
  have HSTEP := hide step
  clear step
  by_cases h1 : t.l = kNot
  · have HF : Hid (insF t = ([69], true, true)) := hide (by unfold insF; rw [if_pos h1])
    have q1 := str_yes (t := t.word) h1
    simp only [kNot] at q1
    clear h1
    go_enter Try.func117, Try.ntmps117
    go_wp2_with fail
    refine (rliteral_any t _).mono ?_
    rintro e w1 ⟨rfl, hb1⟩
    obtain ⟨d0, d1, hbw⟩ := HSTEP.out w1 hb1
    clear hb1
    go_wp2_with fail
    go_ret3
    exact ⟨by rw [HF.out]; rfl, hbw⟩
  have q1 := str_no (t := t.word) h1
  simp only [kNot] at q1
  by_cases h2 : t.l = kIf
  · have HF : Hid (insF t = ([69, 69, 69], true, true)) := hide (by unfold insF; rw [if_neg h1, if_pos h2])
    have q2 := str_yes (t := t.word) h2
    simp only [kIf] at q2
    clear h1 h2 q1
    go_enter Try.func117, Try.ntmps117
    go_wp2_with fail
    refine (rliteral_any t _).mono ?_
    rintro e w1 ⟨rfl, hb1⟩
    obtain ⟨d0, d1, hbw⟩ := HSTEP.out w1 hb1
    clear hb1
    go_wp2_with fail
    go_ret3
    exact ⟨by rw [HF.out]; rfl, hbw⟩
  have q2 := str_no (t := t.word) h2
  simp only [kIf] at q2
  by_cases h3 : rlit t = true
  · have HF : Hid (insF t = ([76], true, true)) := hide (by unfold insF; rw [if_neg h1, if_neg h2, if_pos h3])
    clear h1 h2
    go_enter Try.func117, Try.ntmps117
    go_wp2_with fail
    refine (rliteral_any t _).mono ?_
    rintro e w1 ⟨rfl, hb1⟩
    rw [h3]
    obtain ⟨d0, d1, hbw⟩ := HSTEP.out w1 hb1
    clear hb1
    go_wp2_with fail
    go_ret3
    exact ⟨by rw [HF.out]; rfl, hbw⟩
  have h3' : rlit t = false := by simpa using h3
  by_cases h4 : t.c = 97
  · have HF : Hid (insF t = ([79], true, true)) := hide (by unfold insF; rw [if_neg h1, if_neg h2, if_neg h3, if_pos h4])
    have q4 : ((t.c : Int) == 97) = true := by rw [h4]; rfl
    clear h1 h2 h3 h4
    go_enter Try.func117, Try.ntmps117
    go_wp2_with fail
    refine (rliteral_any t _).mono ?_
    rintro e w1 ⟨rfl, hb1⟩
    rw [h3']
    obtain ⟨d0, d1, hbw⟩ := HSTEP.out w1 hb1
    clear hb1
    go_wp2_with fail
    go_ret3
    exact ⟨by rw [HF.out]; rfl, hbw⟩
  have q4 : ((t.c : Int) == 97) = false := by rw [beq_eq_false_iff_ne]; omega
  by_cases h5 : t.l = [40]
  · have HF : Hid (insF t = ([69, 79], false, true)) := hide (by unfold insF; rw [if_neg h1, if_neg h2, if_neg h3, if_neg h4, h5]; rfl)
    have q5 := str_yes (t := t.word) h5
    clear h1 h2 h3 h4 h5 q1 q2
    go_enter Try.func117, Try.ntmps117
    go_wp2_with fail
    refine (rliteral_any t _).mono ?_
    rintro e w1 ⟨rfl, hb1⟩
    rw [h3']
    obtain ⟨d0, d1, hbw⟩ := HSTEP.out w1 hb1
    clear hb1
    go_wp2_with fail
    go_quiet (fail)
    go_wp2
    go_ret3
    exact ⟨by rw [HF.out]; rfl, below_drewN hbw _⟩
  · have HF : Hid (insF t = ([69, 79], false, false)) := hide (by unfold insF; rw [if_neg h1, if_neg h2, if_neg h3, if_neg h4]; simp [h5])
    have q5 := str_no (t := t.word) h5
    clear h1 h2 h3 h4 h5
    go_enter Try.func117, Try.ntmps117
    go_wp2_with fail
    refine (rliteral_any t _).mono ?_
    rintro e w1 ⟨rfl, hb1⟩
    rw [h3']
    obtain ⟨d0, d1, hbw⟩ := HSTEP.out w1 hb1
    clear hb1
    go_wp2_with fail
    go_quiet (fail)
    go_wp2
    go_ret3
    exact ⟨by rw [HF.out]; rfl, below_drewN hbw _⟩

end Go.Proofs.Ytmndgoapkmhglab

namespace Go.Proofs.Ytmndgoapkmhglab
open Go.RowKit
attribute [local go_sem ↓] Go.wp_at_zero Go.wp_at_succ

/-- a token laid into a box, behind a call. -/
theorem tok_step (t : RTk) (w : World) : ∀ w1, Below (w.alloc (.cells #[.int .u8 (t.c : Int), .string t.word, .int .i64 (t.pos : Int), .int .i64 (t.n : Int)] 157)).heap.size (w.alloc (.cells #[.int .u8 (t.c : Int), .string t.word, .int .i64 (t.pos : Int), .int .i64 (t.n : Int)] 157)) w1 →
      w1.cell? ⟨w.heap.size, 0, none⟩ = some (.int .u8 (t.c : Int)) ∧ w1.cell? ⟨w.heap.size, 1, none⟩ = some (.string t.word) ∧ w1.cell? ⟨w.heap.size, 2, none⟩ = some (.int .i64 (t.pos : Int)) ∧ w1.cell? ⟨w.heap.size, 3, none⟩ = some (.int .i64 (t.n : Int)) ∧ Below w.heap.size w w1 := fun w1 hb => by
    have hN := (hb.block w.heap.size (by simp)).trans (heap_alloc_new w _)
    refine ⟨?_, ?_, ?_, ?_, ((Below.refl _ _).alloc (Nat.le_refl _) _).trans (hb.mono (by simp))⟩
    · rw [cell_of_row w1 _ 0 _ _ _ hN]; rfl
    · rw [cell_of_row w1 _ 1 _ _ _ hN]; rfl
    · rw [cell_of_row w1 _ 2 _ _ _ hN]; rfl
    · rw [cell_of_row w1 _ 3 _ _ _ hN]; rfl

set_option maxHeartbeats 4000000 in
theorem rule80_any (t : RTk) (d : Int) (w : World) :
    Calls Try.prog 90 #[.int .u8 80, t.val, .int .i64 d] w fun e w' => e = .returned (tri (ruleF 80 t d)) ∧ Below w.heap.size w w' := by
  have HSTEP := hide (tok_step t w)
  by_cases h1 : t.l = kIn
  · have HF : Hid (ruleF 80 t d = ([97, 59, 80], true, true)) := hide (by unfold ruleF; rw [if_pos (by decide), if_pos h1])
    have q1 := str_yes (t := t.word) h1
    simp only [kIn] at q1
    clear h1
    go_enter Try.func90, Try.ntmps90
    go_wp2_with fail
    refine (rliteral_any t _).mono ?_
    rintro e w1 ⟨rfl, hb1⟩
    obtain ⟨d0, d1, d2, d3, hbw⟩ := HSTEP.out w1 hb1
    clear hb1
    go_wp2_with fail
    refine (roperator_any t.word _).mono ?_
    rintro e w2 ⟨rfl, rfl⟩
    go_wp2_with fail
    go_ret3
    exact ⟨by rw [HF.out]; rfl, hbw⟩
  have q1 := str_no (t := t.word) h1
  simp only [kIn] at q1
  by_cases h2 : t.l = kInt
  · have HF : Hid (ruleF 80 t d = ([97, 84, 81, 61, 69, 59, 80], true, true)) := hide (by unfold ruleF; rw [if_pos (by decide), if_neg h1, h2]; rfl)
    have q2 := str_yes (t := t.word) h2
    simp only [kInt] at q2
    clear h1 h2 q1
    go_enter Try.func90, Try.ntmps90
    go_wp2_with fail
    refine (rliteral_any t _).mono ?_
    rintro e w1 ⟨rfl, hb1⟩
    obtain ⟨d0, d1, d2, d3, hbw⟩ := HSTEP.out w1 hb1
    clear hb1
    go_wp2_with fail
    refine (roperator_any t.word _).mono ?_
    rintro e w2 ⟨rfl, rfl⟩
    go_wp2_with fail
    go_quiet (fail)
    go_wp2
    go_ret3
    exact ⟨by rw [HF.out]; rfl, below_drewN hbw _⟩
  have q2 := str_no (t := t.word) h2
  simp only [kInt] at q2
  by_cases h3 : t.l = kBool
  · have HF : Hid (ruleF 80 t d = ([97, 84, 81, 61, 69, 59, 80], true, true)) := hide (by unfold ruleF; rw [if_pos (by decide), if_neg h1, h3]; rfl)
    have q3 := str_yes (t := t.word) h3
    simp only [kBool] at q3
    clear h1 h2 h3 q1 q2
    go_enter Try.func90, Try.ntmps90
    go_wp2_with fail
    refine (rliteral_any t _).mono ?_
    rintro e w1 ⟨rfl, hb1⟩
    obtain ⟨d0, d1, d2, d3, hbw⟩ := HSTEP.out w1 hb1
    clear hb1
    go_wp2_with fail
    refine (roperator_any t.word _).mono ?_
    rintro e w2 ⟨rfl, rfl⟩
    go_wp2_with fail
    go_quiet (fail)
    go_wp2
    go_ret3
    exact ⟨by rw [HF.out]; rfl, below_drewN hbw _⟩
  have q3 := str_no (t := t.word) h3
  simp only [kBool] at q3
  have HF : Hid (ruleF 80 t d = ([97, 84, 81, 61, 69, 59, 80], true, false)) := hide (by unfold ruleF; rw [if_pos (by decide), if_neg h1]; simp [h2, h3])
  clear h1 h2 h3
  go_enter Try.func90, Try.ntmps90
  go_wp2_with fail
  refine (rliteral_any t _).mono ?_
  rintro e w1 ⟨rfl, hb1⟩
  obtain ⟨d0, d1, d2, d3, hbw⟩ := HSTEP.out w1 hb1
  clear hb1
  go_wp2_with fail
  refine (roperator_any t.word _).mono ?_
  rintro e w2 ⟨rfl, rfl⟩
  go_wp2_with fail
  go_quiet (fail)
  go_wp2
  go_ret3
  exact ⟨by rw [HF.out]; rfl, below_drewN hbw _⟩


set_option maxHeartbeats 4000000 in
theorem rule97_any (t : RTk) (d : Int) (w : World) :
    Calls Try.prog 90 #[.int .u8 97, t.val, .int .i64 d] w fun e w' => e = .returned (tri (ruleF 97 t d)) ∧ Below w.heap.size w w' := by
  have HSTEP := hide (tok_step t w)
  by_cases h1 : t.c = 97
  · have HF : Hid (ruleF 97 t d = ([], true, true)) := hide (by unfold ruleF; rw [if_neg (by decide), if_pos (by decide), h1]; rfl)
    have q1 : ((t.c : Int) == 97) = true := by rw [h1]; rfl
    clear h1
    go_enter Try.func90, Try.ntmps90
    go_wp2_with fail
    refine (rliteral_any t _).mono ?_
    rintro e w1 ⟨rfl, hb1⟩
    obtain ⟨d0, d1, d2, d3, hbw⟩ := HSTEP.out w1 hb1
    clear hb1
    go_wp2_with fail
    refine (roperator_any t.word _).mono ?_
    rintro e w2 ⟨rfl, rfl⟩
    go_wp2_with fail
    go_quiet (fail)
    go_wp2
    go_ret3
    exact ⟨by rw [HF.out]; rfl, below_drewN hbw _⟩
  have HF : Hid (ruleF 97 t d = ([], true, false)) := hide (by unfold ruleF; rw [if_neg (by decide), if_pos (by decide), beq_eq_false_iff_ne.2 h1])
  have q1 : ((t.c : Int) == 97) = false := by rw [beq_eq_false_iff_ne]; omega
  clear h1
  go_enter Try.func90, Try.ntmps90
  go_wp2_with fail
  refine (rliteral_any t _).mono ?_
  rintro e w1 ⟨rfl, hb1⟩
  obtain ⟨d0, d1, d2, d3, hbw⟩ := HSTEP.out w1 hb1
  clear hb1
  go_wp2_with fail
  refine (roperator_any t.word _).mono ?_
  rintro e w2 ⟨rfl, rfl⟩
  go_wp2_with fail
  go_quiet (fail)
  go_wp2
  go_ret3
  exact ⟨by rw [HF.out]; rfl, below_drewN hbw _⟩


set_option maxHeartbeats 4000000 in
theorem rule84_any (t : RTk) (d : Int) (w : World) :
    Calls Try.prog 90 #[.int .u8 84, t.val, .int .i64 d] w fun e w' => e = .returned (tri (ruleF 84 t d)) ∧ Below w.heap.size w w' := by
  have HSTEP := hide (tok_step t w)
  by_cases h1 : t.l = kAt
  · have HF : Hid (ruleF 84 t d = ([], true, true)) := hide (by unfold ruleF; rw [if_neg (by decide), if_neg (by decide), if_pos (by decide), h1]; rfl)
    have q1 := str_yes (t := t.word) h1
    simp only [kAt] at q1
    clear h1
    go_enter Try.func90, Try.ntmps90
    go_wp2_with fail
    refine (rliteral_any t _).mono ?_
    rintro e w1 ⟨rfl, hb1⟩
    obtain ⟨d0, d1, d2, d3, hbw⟩ := HSTEP.out w1 hb1
    clear hb1
    go_wp2_with fail
    refine (roperator_any t.word _).mono ?_
    rintro e w2 ⟨rfl, rfl⟩
    go_wp2_with fail
    go_quiet (fail)
    go_wp2
    go_ret3
    exact ⟨by rw [HF.out]; rfl, below_drewN hbw _⟩
  have q1 := str_no (t := t.word) h1
  simp only [kAt] at q1
  have HF : Hid (ruleF 84 t d = ([], true, false)) := hide (by unfold ruleF; rw [if_neg (by decide), if_neg (by decide), if_pos (by decide)]; simp [h1])
  clear h1
  go_enter Try.func90, Try.ntmps90
  go_wp2_with fail
  refine (rliteral_any t _).mono ?_
  rintro e w1 ⟨rfl, hb1⟩
  obtain ⟨d0, d1, d2, d3, hbw⟩ := HSTEP.out w1 hb1
  clear hb1
  go_wp2_with fail
  refine (roperator_any t.word _).mono ?_
  rintro e w2 ⟨rfl, rfl⟩
  go_wp2_with fail
  go_quiet (fail)
  go_wp2
  go_ret3
  exact ⟨by rw [HF.out]; rfl, below_drewN hbw _⟩


set_option maxHeartbeats 4000000 in
theorem rule81_any (t : RTk) (d : Int) (w : World) :
    Calls Try.prog 90 #[.int .u8 81, t.val, .int .i64 d] w fun e w' => e = .returned (tri (ruleF 81 t d)) ∧ Below w.heap.size w w' := by
  have HSTEP := hide (tok_step t w)
  by_cases h1 : t.c = 110
  · have q1 : ((t.c : Int) == 110) = true := by rw [h1]; rfl
    have HF : Hid (ruleF 81 t d = ([], true, decide ((t.n : Int) < 4))) := hide (by unfold ruleF; rw [if_neg (by decide), if_neg (by decide), if_neg (by decide), if_pos (by decide), h1, decide_eq_decide.2 (show t.n < 4 ↔ (t.n : Int) < 4 by omega)]; rfl)
    clear h1
    go_enter Try.func90, Try.ntmps90
    go_wp2_with fail
    refine (rliteral_any t _).mono ?_
    rintro e w1 ⟨rfl, hb1⟩
    obtain ⟨d0, d1, d2, d3, hbw⟩ := HSTEP.out w1 hb1
    clear hb1
    go_wp2_with fail
    refine (roperator_any t.word _).mono ?_
    rintro e w2 ⟨rfl, rfl⟩
    go_wp2_with fail
    go_quiet (fail)
    go_wp2
    go_ret3
    exact ⟨by rw [HF.out]; rfl, below_drewN hbw _⟩
  have q1 : ((t.c : Int) == 110) = false := by rw [beq_eq_false_iff_ne]; omega
  have HF : Hid (ruleF 81 t d = ([], true, false)) := hide (by unfold ruleF; rw [if_neg (by decide), if_neg (by decide), if_neg (by decide), if_pos (by decide), beq_eq_false_iff_ne.2 h1]; rfl)
  clear h1
  go_enter Try.func90, Try.ntmps90
  go_wp2_with fail
  refine (rliteral_any t _).mono ?_
  rintro e w1 ⟨rfl, hb1⟩
  obtain ⟨d0, d1, d2, d3, hbw⟩ := HSTEP.out w1 hb1
  clear hb1
  go_wp2_with fail
  refine (roperator_any t.word _).mono ?_
  rintro e w2 ⟨rfl, rfl⟩
  go_wp2_with fail
  go_quiet (fail)
  go_wp2
  go_ret3
  exact ⟨by rw [HF.out]; rfl, below_drewN hbw _⟩


set_option maxHeartbeats 4000000 in
theorem rule69_any (t : RTk) (d : Int) (w : World) :
    Calls Try.prog 90 #[.int .u8 69, t.val, .int .i64 d] w fun e w' => e = .returned (tri (ruleF 69 t d)) ∧ Below w.heap.size w w' := by
  have HSTEP := hide (tok_step t w)
  by_cases h1 : t.l = [40]
  · have q1 := str_yes (t := t.word) h1
    have HF : Hid (ruleF 69 t d = ([73, 41], true, decide (d < 16))) := hide (by unfold ruleF; rw [if_neg (by decide), if_neg (by decide), if_neg (by decide), if_neg (by decide), if_pos (by decide), if_pos h1])
    clear h1
    go_enter Try.func90, Try.ntmps90
    go_wp2_with fail
    refine (rliteral_any t _).mono ?_
    rintro e w1 ⟨rfl, hb1⟩
    obtain ⟨d0, d1, d2, d3, hbw⟩ := HSTEP.out w1 hb1
    clear hb1
    go_wp2_with fail
    refine (roperator_any t.word _).mono ?_
    rintro e w2 ⟨rfl, rfl⟩
    go_wp2_with fail
    go_ret3
    exact ⟨by rw [HF.out]; rfl, hbw⟩
  have q1 := str_no (t := t.word) h1
  by_cases h2 : rlit t = true
  · have HF : Hid (ruleF 69 t d = ([], true, true)) := hide (by unfold ruleF; rw [if_neg (by decide), if_neg (by decide), if_neg (by decide), if_neg (by decide), if_pos (by decide), if_neg h1, h2]; rfl)
    clear h1
    go_enter Try.func90, Try.ntmps90
    go_wp2_with fail
    refine (rliteral_any t _).mono ?_
    rintro e w1 ⟨rfl, hb1⟩
    rw [h2]
    obtain ⟨d0, d1, d2, d3, hbw⟩ := HSTEP.out w1 hb1
    clear hb1
    go_wp2_with fail
    refine (roperator_any t.word _).mono ?_
    rintro e w2 ⟨rfl, rfl⟩
    go_wp2_with fail
    go_quiet (fail)
    go_wp2
    go_ret3
    exact ⟨by rw [HF.out]; rfl, below_drewN hbw _⟩
  have h2' : rlit t = false := by simpa using h2
  by_cases h3 : t.c = 97
  · have HF : Hid (ruleF 69 t d = ([], true, true)) := hide (by unfold ruleF; rw [if_neg (by decide), if_neg (by decide), if_neg (by decide), if_neg (by decide), if_pos (by decide), if_neg h1, h2', h3]; rfl)
    have q3 : ((t.c : Int) == 97) = true := by rw [h3]; rfl
    clear h1 h2 h3
    go_enter Try.func90, Try.ntmps90
    go_wp2_with fail
    refine (rliteral_any t _).mono ?_
    rintro e w1 ⟨rfl, hb1⟩
    rw [h2']
    obtain ⟨d0, d1, d2, d3, hbw⟩ := HSTEP.out w1 hb1
    clear hb1
    go_wp2_with fail
    refine (roperator_any t.word _).mono ?_
    rintro e w2 ⟨rfl, rfl⟩
    go_wp2_with fail
    go_quiet (fail)
    go_wp2
    go_ret3
    exact ⟨by rw [HF.out]; rfl, below_drewN hbw _⟩
  have HF : Hid (ruleF 69 t d = ([], true, false)) := hide (by unfold ruleF; rw [if_neg (by decide), if_neg (by decide), if_neg (by decide), if_neg (by decide), if_pos (by decide), if_neg h1, h2', beq_eq_false_iff_ne.2 h3]; rfl)
  have q3 : ((t.c : Int) == 97) = false := by rw [beq_eq_false_iff_ne]; omega
  clear h1 h2 h3
  go_enter Try.func90, Try.ntmps90
  go_wp2_with fail
  refine (rliteral_any t _).mono ?_
  rintro e w1 ⟨rfl, hb1⟩
  rw [h2']
  obtain ⟨d0, d1, d2, d3, hbw⟩ := HSTEP.out w1 hb1
  clear hb1
  go_wp2_with fail
  refine (roperator_any t.word _).mono ?_
  rintro e w2 ⟨rfl, rfl⟩
  go_wp2_with fail
  go_quiet (fail)
  go_wp2
  go_ret3
  exact ⟨by rw [HF.out]; rfl, below_drewN hbw _⟩


set_option maxHeartbeats 4000000 in
theorem rule73_any (t : RTk) (d : Int) (w : World) :
    Calls Try.prog 90 #[.int .u8 73, t.val, .int .i64 d] w fun e w' => e = .returned (tri (ruleF 73 t d)) ∧ Below w.heap.size w w' := by
  have HSTEP := hide (tok_step t w)
  have HF : Hid (ruleF 73 t d = insF t) := hide (by unfold ruleF; rw [if_neg (by decide), if_neg (by decide), if_neg (by decide), if_neg (by decide), if_neg (by decide), if_pos (by decide)])
  go_enter Try.func90, Try.ntmps90
  go_wp2_with fail
  refine (rliteral_any t _).mono ?_
  rintro e w1 ⟨rfl, hb1⟩
  obtain ⟨d0, d1, d2, d3, hbw⟩ := HSTEP.out w1 hb1
  clear hb1
  go_wp2_with fail
  refine (roperator_any t.word _).mono ?_
  rintro e w2 ⟨rfl, rfl⟩
  go_wp2_with fail
  refine (rinside_any t _).mono ?_
  rintro e w3 ⟨rfl, hb3⟩
  go_wp2_with fail
  go_ret3
  exact ⟨by rw [HF.out]; rfl, hbw.trans (hb3.mono hbw.size)⟩


set_option maxHeartbeats 4000000 in
theorem rule76_any (t : RTk) (d : Int) (w : World) :
    Calls Try.prog 90 #[.int .u8 76, t.val, .int .i64 d] w fun e w' => e = .returned (tri (ruleF 76 t d)) ∧ Below w.heap.size w w' := by
  have HSTEP := hide (tok_step t w)
  by_cases h1 : rop t.word.data.toList = true
  · have HF : Hid (ruleF 76 t d = ([69], true, true)) := hide (by unfold ruleF; rw [if_neg (by decide), if_neg (by decide), if_neg (by decide), if_neg (by decide), if_neg (by decide), if_neg (by decide), if_pos (by decide), show rop t.l = true from h1]; rfl)
    go_enter Try.func90, Try.ntmps90
    go_wp2_with fail
    refine (rliteral_any t _).mono ?_
    rintro e w1 ⟨rfl, hb1⟩
    obtain ⟨d0, d1, d2, d3, hbw⟩ := HSTEP.out w1 hb1
    clear hb1
    go_wp2_with fail
    refine (roperator_any t.word _).mono ?_
    rintro e w2 ⟨rfl, rfl⟩
    rw [h1]
    go_wp2_with fail
    go_quiet (fail)
    go_wp2
    go_ret3
    exact ⟨by rw [HF.out]; rfl, below_drewN hbw _⟩
  have h1' : rop t.word.data.toList = false := by simpa using h1
  by_cases h2 : t.l = kFby
  · have HF : Hid (ruleF 76 t d = ([69], true, true)) := hide (by unfold ruleF; rw [if_neg (by decide), if_neg (by decide), if_neg (by decide), if_neg (by decide), if_neg (by decide), if_neg (by decide), if_pos (by decide), show rop t.l = false from h1', h2]; rfl)
    have q2 := str_yes (t := t.word) h2
    simp only [kFby] at q2
    clear h1 h2
    go_enter Try.func90, Try.ntmps90
    go_wp2_with fail
    refine (rliteral_any t _).mono ?_
    rintro e w1 ⟨rfl, hb1⟩
    obtain ⟨d0, d1, d2, d3, hbw⟩ := HSTEP.out w1 hb1
    clear hb1
    go_wp2_with fail
    refine (roperator_any t.word _).mono ?_
    rintro e w2 ⟨rfl, rfl⟩
    rw [h1']
    go_wp2_with fail
    go_quiet (fail)
    go_wp2
    go_ret3
    exact ⟨by rw [HF.out]; rfl, below_drewN hbw _⟩
  have q2 := str_no (t := t.word) h2
  simp only [kFby] at q2
  have HF : Hid (ruleF 76 t d = ([69], true, false)) := hide (by unfold ruleF; rw [if_neg (by decide), if_neg (by decide), if_neg (by decide), if_neg (by decide), if_neg (by decide), if_neg (by decide), if_pos (by decide), show rop t.l = false from h1']; simp [h2])
  clear h1 h2
  go_enter Try.func90, Try.ntmps90
  go_wp2_with fail
  refine (rliteral_any t _).mono ?_
  rintro e w1 ⟨rfl, hb1⟩
  obtain ⟨d0, d1, d2, d3, hbw⟩ := HSTEP.out w1 hb1
  clear hb1
  go_wp2_with fail
  refine (roperator_any t.word _).mono ?_
  rintro e w2 ⟨rfl, rfl⟩
  rw [h1']
  go_wp2_with fail
  go_quiet (fail)
  go_wp2
  go_ret3
  exact ⟨by rw [HF.out]; rfl, below_drewN hbw _⟩


set_option maxHeartbeats 4000000 in
theorem rule79_any (t : RTk) (d : Int) (w : World) :
    Calls Try.prog 90 #[.int .u8 79, t.val, .int .i64 d] w fun e w' => e = .returned (tri (ruleF 79 t d)) ∧ Below w.heap.size w w' := by
  have HSTEP := hide (tok_step t w)
  have HF : Hid (ruleF 79 t d = ([69], true, rop t.word.data.toList)) := hide (by unfold ruleF; rw [if_neg (by decide), if_neg (by decide), if_neg (by decide), if_neg (by decide), if_neg (by decide), if_neg (by decide), if_neg (by decide), if_pos (by decide)]; rfl)
  go_enter Try.func90, Try.ntmps90
  go_wp2_with fail
  refine (rliteral_any t _).mono ?_
  rintro e w1 ⟨rfl, hb1⟩
  obtain ⟨d0, d1, d2, d3, hbw⟩ := HSTEP.out w1 hb1
  clear hb1
  go_wp2_with fail
  refine (roperator_any t.word _).mono ?_
  rintro e w2 ⟨rfl, rfl⟩
  go_wp2_with fail
  go_ret3
  exact ⟨by rw [HF.out]; rfl, hbw⟩


theorem beq_cast (a b : Nat) : ((a : Int) == (b : Int)) = (a == b) := by
  rw [Bool.eq_iff_iff, beq_iff_eq, beq_iff_eq]; omega

theorem first_byte (t : RTk) (h : 0 < t.word.size) : t.l.getD 0 0 = t.word[0]'h := by
  unfold RTk.l
  rw [List.getD_eq_getElem?_getD, Array.getElem?_toList, Array.getElem?_eq_getElem (by simpa using h)]
  rfl

set_option maxHeartbeats 4000000 in
theorem rule_other (x : Nat) (t : RTk) (d : Int) (w : World) (hx : x ≠ 80 ∧ x ≠ 97 ∧ x ≠ 84 ∧ x ≠ 81 ∧ x ≠ 69 ∧ x ≠ 73 ∧ x ≠ 76 ∧ x ≠ 79) (ht : t.c = 115 → 0 < t.word.size) :
    Calls Try.prog 90 #[.int .u8 (x : Int), t.val, .int .i64 d] w fun e w' => e = .returned (tri (ruleF x t d)) ∧ Below w.heap.size w w' := by
  have HSTEP := hide (tok_step t w)
  have n80 : x ≠ 80 := by omega
  have m80 : ((x : Int) == 80) = false := by rw [beq_eq_false_iff_ne]; omega
  have n97 : x ≠ 97 := by omega
  have m97 : ((x : Int) == 97) = false := by rw [beq_eq_false_iff_ne]; omega
  have n84 : x ≠ 84 := by omega
  have m84 : ((x : Int) == 84) = false := by rw [beq_eq_false_iff_ne]; omega
  have n81 : x ≠ 81 := by omega
  have m81 : ((x : Int) == 81) = false := by rw [beq_eq_false_iff_ne]; omega
  have n69 : x ≠ 69 := by omega
  have m69 : ((x : Int) == 69) = false := by rw [beq_eq_false_iff_ne]; omega
  have n73 : x ≠ 73 := by omega
  have m73 : ((x : Int) == 73) = false := by rw [beq_eq_false_iff_ne]; omega
  have n76 : x ≠ 76 := by omega
  have m76 : ((x : Int) == 76) = false := by rw [beq_eq_false_iff_ne]; omega
  have n79 : x ≠ 79 := by omega
  have m79 : ((x : Int) == 79) = false := by rw [beq_eq_false_iff_ne]; omega
  clear hx
  by_cases h1 : t.c = 115
  · have q1 : ((t.c : Int) == 115) = true := by rw [h1]; rfl
    have hs := ht h1
    have HF : Hid (ruleF x t d = ([], true, (((t.word[0]'hs).toNat : Int) == (x : Int)))) := hide (by unfold ruleF; rw [if_neg n80, if_neg n97, if_neg n84, if_neg n81, if_neg n69, if_neg n73, if_neg n76, if_neg n79, h1, first_byte t hs, beq_cast]; rfl)
    have i1 : (0 : Int) < (t.word.size : Int) := by omega
    clear h1 n80 n97 n84 n81 n69 n73 n76 n79
    go_enter Try.func90, Try.ntmps90
    go_wp2_with fail
    refine (rliteral_any t _).mono ?_
    rintro e w1 ⟨rfl, hb1⟩
    obtain ⟨d0, d1, d2, d3, hbw⟩ := HSTEP.out w1 hb1
    clear hb1
    go_wp2_with fail
    refine (roperator_any t.word _).mono ?_
    rintro e w2 ⟨rfl, rfl⟩
    go_wp2_with fail
    go_quiet (fail)
    go_wp2
    go_ret3
    exact ⟨by rw [HF.out]; rfl, below_drewN hbw _⟩
  have q1 : ((t.c : Int) == 115) = false := by rw [beq_eq_false_iff_ne]; omega
  have HF : Hid (ruleF x t d = ([], true, false)) := hide (by unfold ruleF; rw [if_neg n80, if_neg n97, if_neg n84, if_neg n81, if_neg n69, if_neg n73, if_neg n76, if_neg n79, beq_eq_false_iff_ne.2 h1]; rfl)
  clear h1 n80 n97 n84 n81 n69 n73 n76 n79
  go_enter Try.func90, Try.ntmps90
  go_wp2_with fail
  refine (rliteral_any t _).mono ?_
  rintro e w1 ⟨rfl, hb1⟩
  obtain ⟨d0, d1, d2, d3, hbw⟩ := HSTEP.out w1 hb1
  clear hb1
  go_wp2_with fail
  refine (roperator_any t.word _).mono ?_
  rintro e w2 ⟨rfl, rfl⟩
  go_wp2_with fail
  go_quiet (fail)
  go_wp2
  go_ret3
  exact ⟨by rw [HF.out]; rfl, below_drewN hbw _⟩

theorem rule_any (x : Nat) (t : RTk) (d : Int) (w : World) (ht : t.c = 115 → 0 < t.word.size) :
    Calls Try.prog 90 #[.int .u8 (x : Int), t.val, .int .i64 d] w fun e w' => e = .returned (tri (ruleF x t d)) ∧ Below w.heap.size w w' := by
  by_cases h1 : x = 80
  · subst h1; exact rule80_any t d w
  by_cases h2 : x = 97
  · subst h2; exact rule97_any t d w
  by_cases h3 : x = 84
  · subst h3; exact rule84_any t d w
  by_cases h4 : x = 81
  · subst h4; exact rule81_any t d w
  by_cases h5 : x = 69
  · subst h5; exact rule69_any t d w
  by_cases h6 : x = 73
  · subst h6; exact rule73_any t d w
  by_cases h7 : x = 76
  · subst h7; exact rule76_any t d w
  by_cases h8 : x = 79
  · subst h8; exact rule79_any t d w
  exact rule_other x t d w ⟨h1, h2, h3, h4, h5, h6, h7, h8⟩ ht

end Go.Proofs.Ytmndgoapkmhglab
