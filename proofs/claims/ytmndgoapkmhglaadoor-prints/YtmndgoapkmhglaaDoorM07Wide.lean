import Derived.Test.YtmndgoapkmhglaaDoorM00Cut
import Derived.Test.YtmndgoapkmhglaaDoorM01Tkl
import Derived.Test.YtmndgoapkmhglaaDoorM02Dig
import Derived.Test.YtmndgoapkmhglaaDoorM06RefD
namespace Go.Proofs.YtmndgoapkmhglaaDoor
open Go.RowKit
attribute [local go_sem ↓] Go.wp_at_zero Go.wp_at_succ

/-- a token laid into a box, behind a call. -/
theorem tok_step (t : RTk) (w : World) : ∀ w1, Below (w.alloc (.cells #[.int .u8 (t.c : Int), .string t.word, .int .i64 (t.pos : Int), .int .i64 (t.n : Int)] 45)).heap.size (w.alloc (.cells #[.int .u8 (t.c : Int), .string t.word, .int .i64 (t.pos : Int), .int .i64 (t.n : Int)] 45)) w1 →
      w1.cell? ⟨w.heap.size, 0, none⟩ = some (.int .u8 (t.c : Int)) ∧ w1.cell? ⟨w.heap.size, 1, none⟩ = some (.string t.word) ∧ w1.cell? ⟨w.heap.size, 2, none⟩ = some (.int .i64 (t.pos : Int)) ∧ w1.cell? ⟨w.heap.size, 3, none⟩ = some (.int .i64 (t.n : Int)) ∧ Below w.heap.size w w1 := fun w1 hb => by
    have hN := (hb.block w.heap.size (by simp)).trans (heap_alloc_new w _)
    refine ⟨?_, ?_, ?_, ?_, ((Below.refl _ _).alloc (Nat.le_refl _) _).trans (hb.mono (by simp))⟩
    · rw [cell_of_row w1 _ 0 _ _ _ hN]; rfl
    · rw [cell_of_row w1 _ 1 _ _ _ hN]; rfl
    · rw [cell_of_row w1 _ 2 _ _ _ hN]; rfl
    · rw [cell_of_row w1 _ 3 _ _ _ hN]; rfl

set_option maxHeartbeats 4000000 in
theorem rule80_any (t : RTk) (d : Int) (w : World) :
    Calls Tryd.prog 39 #[.int .u8 80, t.val, .int .i64 d] w fun e w' => e = .returned (tri (ruleF 80 t d)) ∧ Below w.heap.size w w' := by
  have HSTEP := hide (tok_step t w)
  by_cases h1 : t.l = kIn
  · have HF : Hid (ruleF 80 t d = ([97, 59, 80], true, true)) := hide (by unfold ruleF; rw [if_pos (by decide), if_pos h1])
    have q1 := str_yes (t := t.word) h1
    simp only [kIn] at q1
    clear h1
    go_enter Tryd.func39, Tryd.ntmps39
    go_wp2_with fail
    refine (rliteral_any t _).mono ?_
    rintro e w1 ⟨rfl, hb1⟩
    obtain ⟨d0, d1, d2, d3, hbw⟩ := HSTEP.out w1 hb1
    clear hb1
    go_wp2_with fail
    refine (roperator_any t.word _).mono ?_
    rintro e w2 ⟨rfl, rfl⟩
    go_wp2_with fail
    go_ret3
    exact ⟨by rw [HF.out]; rfl, hbw⟩
  have q1 := str_no (t := t.word) h1
  simp only [kIn] at q1
  by_cases h2 : t.l = kInt
  · have HF : Hid (ruleF 80 t d = ([97, 84, 81, 61, 69, 59, 80], true, true)) := hide (by unfold ruleF; rw [if_pos (by decide), if_neg h1, h2]; rfl)
    have q2 := str_yes (t := t.word) h2
    simp only [kInt] at q2
    clear h1 h2 q1
    go_enter Tryd.func39, Tryd.ntmps39
    go_wp2_with fail
    refine (rliteral_any t _).mono ?_
    rintro e w1 ⟨rfl, hb1⟩
    obtain ⟨d0, d1, d2, d3, hbw⟩ := HSTEP.out w1 hb1
    clear hb1
    go_wp2_with fail
    refine (roperator_any t.word _).mono ?_
    rintro e w2 ⟨rfl, rfl⟩
    go_wp2_with fail
    go_quiet (fail)
    go_wp2
    go_ret3
    exact ⟨by rw [HF.out]; rfl, below_drewN hbw _⟩
  have q2 := str_no (t := t.word) h2
  simp only [kInt] at q2
  by_cases h3 : t.l = kBool
  · have HF : Hid (ruleF 80 t d = ([97, 84, 81, 61, 69, 59, 80], true, true)) := hide (by unfold ruleF; rw [if_pos (by decide), if_neg h1, h3]; rfl)
    have q3 := str_yes (t := t.word) h3
    simp only [kBool] at q3
    clear h1 h2 h3 q1 q2
    go_enter Tryd.func39, Tryd.ntmps39
    go_wp2_with fail
    refine (rliteral_any t _).mono ?_
    rintro e w1 ⟨rfl, hb1⟩
    obtain ⟨d0, d1, d2, d3, hbw⟩ := HSTEP.out w1 hb1
    clear hb1
    go_wp2_with fail
    refine (roperator_any t.word _).mono ?_
    rintro e w2 ⟨rfl, rfl⟩
    go_wp2_with fail
    go_quiet (fail)
    go_wp2
    go_ret3
    exact ⟨by rw [HF.out]; rfl, below_drewN hbw _⟩
  have q3 := str_no (t := t.word) h3
  simp only [kBool] at q3
  have HF : Hid (ruleF 80 t d = ([97, 84, 81, 61, 69, 59, 80], true, false)) := hide (by unfold ruleF; rw [if_pos (by decide), if_neg h1]; simp [h2, h3])
  clear h1 h2 h3
  go_enter Tryd.func39, Tryd.ntmps39
  go_wp2_with fail
  refine (rliteral_any t _).mono ?_
  rintro e w1 ⟨rfl, hb1⟩
  obtain ⟨d0, d1, d2, d3, hbw⟩ := HSTEP.out w1 hb1
  clear hb1
  go_wp2_with fail
  refine (roperator_any t.word _).mono ?_
  rintro e w2 ⟨rfl, rfl⟩
  go_wp2_with fail
  go_quiet (fail)
  go_wp2
  go_ret3
  exact ⟨by rw [HF.out]; rfl, below_drewN hbw _⟩


set_option maxHeartbeats 4000000 in
theorem rule97_any (t : RTk) (d : Int) (w : World) :
    Calls Tryd.prog 39 #[.int .u8 97, t.val, .int .i64 d] w fun e w' => e = .returned (tri (ruleF 97 t d)) ∧ Below w.heap.size w w' := by
  have HSTEP := hide (tok_step t w)
  by_cases h1 : t.c = 97
  · have HF : Hid (ruleF 97 t d = ([], true, true)) := hide (by unfold ruleF; rw [if_neg (by decide), if_pos (by decide), h1]; rfl)
    have q1 : ((t.c : Int) == 97) = true := by rw [h1]; rfl
    clear h1
    go_enter Tryd.func39, Tryd.ntmps39
    go_wp2_with fail
    refine (rliteral_any t _).mono ?_
    rintro e w1 ⟨rfl, hb1⟩
    obtain ⟨d0, d1, d2, d3, hbw⟩ := HSTEP.out w1 hb1
    clear hb1
    go_wp2_with fail
    refine (roperator_any t.word _).mono ?_
    rintro e w2 ⟨rfl, rfl⟩
    go_wp2_with fail
    go_quiet (fail)
    go_wp2
    go_ret3
    exact ⟨by rw [HF.out]; rfl, below_drewN hbw _⟩
  have HF : Hid (ruleF 97 t d = ([], true, false)) := hide (by unfold ruleF; rw [if_neg (by decide), if_pos (by decide), beq_eq_false_iff_ne.2 h1])
  have q1 : ((t.c : Int) == 97) = false := by rw [beq_eq_false_iff_ne]; omega
  clear h1
  go_enter Tryd.func39, Tryd.ntmps39
  go_wp2_with fail
  refine (rliteral_any t _).mono ?_
  rintro e w1 ⟨rfl, hb1⟩
  obtain ⟨d0, d1, d2, d3, hbw⟩ := HSTEP.out w1 hb1
  clear hb1
  go_wp2_with fail
  refine (roperator_any t.word _).mono ?_
  rintro e w2 ⟨rfl, rfl⟩
  go_wp2_with fail
  go_quiet (fail)
  go_wp2
  go_ret3
  exact ⟨by rw [HF.out]; rfl, below_drewN hbw _⟩


set_option maxHeartbeats 4000000 in
theorem rule84_any (t : RTk) (d : Int) (w : World) :
    Calls Tryd.prog 39 #[.int .u8 84, t.val, .int .i64 d] w fun e w' => e = .returned (tri (ruleF 84 t d)) ∧ Below w.heap.size w w' := by
  have HSTEP := hide (tok_step t w)
  by_cases h1 : t.l = kAt
  · have HF : Hid (ruleF 84 t d = ([], true, true)) := hide (by unfold ruleF; rw [if_neg (by decide), if_neg (by decide), if_pos (by decide), h1]; rfl)
    have q1 := str_yes (t := t.word) h1
    simp only [kAt] at q1
    clear h1
    go_enter Tryd.func39, Tryd.ntmps39
    go_wp2_with fail
    refine (rliteral_any t _).mono ?_
    rintro e w1 ⟨rfl, hb1⟩
    obtain ⟨d0, d1, d2, d3, hbw⟩ := HSTEP.out w1 hb1
    clear hb1
    go_wp2_with fail
    refine (roperator_any t.word _).mono ?_
    rintro e w2 ⟨rfl, rfl⟩
    go_wp2_with fail
    go_quiet (fail)
    go_wp2
    go_ret3
    exact ⟨by rw [HF.out]; rfl, below_drewN hbw _⟩
  have q1 := str_no (t := t.word) h1
  simp only [kAt] at q1
  have HF : Hid (ruleF 84 t d = ([], true, false)) := hide (by unfold ruleF; rw [if_neg (by decide), if_neg (by decide), if_pos (by decide)]; simp [h1])
  clear h1
  go_enter Tryd.func39, Tryd.ntmps39
  go_wp2_with fail
  refine (rliteral_any t _).mono ?_
  rintro e w1 ⟨rfl, hb1⟩
  obtain ⟨d0, d1, d2, d3, hbw⟩ := HSTEP.out w1 hb1
  clear hb1
  go_wp2_with fail
  refine (roperator_any t.word _).mono ?_
  rintro e w2 ⟨rfl, rfl⟩
  go_wp2_with fail
  go_quiet (fail)
  go_wp2
  go_ret3
  exact ⟨by rw [HF.out]; rfl, below_drewN hbw _⟩


set_option maxHeartbeats 4000000 in
theorem rule81_any (t : RTk) (d : Int) (w : World) :
    Calls Tryd.prog 39 #[.int .u8 81, t.val, .int .i64 d] w fun e w' => e = .returned (tri (ruleF 81 t d)) ∧ Below w.heap.size w w' := by
  have HSTEP := hide (tok_step t w)
  by_cases h1 : t.c = 110
  · have q1 : ((t.c : Int) == 110) = true := by rw [h1]; rfl
    have HF : Hid (ruleF 81 t d = ([], true, decide ((t.n : Int) < 4))) := hide (by unfold ruleF; rw [if_neg (by decide), if_neg (by decide), if_neg (by decide), if_pos (by decide), h1, decide_eq_decide.2 (show t.n < 4 ↔ (t.n : Int) < 4 by omega)]; rfl)
    clear h1
    go_enter Tryd.func39, Tryd.ntmps39
    go_wp2_with fail
    refine (rliteral_any t _).mono ?_
    rintro e w1 ⟨rfl, hb1⟩
    obtain ⟨d0, d1, d2, d3, hbw⟩ := HSTEP.out w1 hb1
    clear hb1
    go_wp2_with fail
    refine (roperator_any t.word _).mono ?_
    rintro e w2 ⟨rfl, rfl⟩
    go_wp2_with fail
    go_quiet (fail)
    go_wp2
    go_ret3
    exact ⟨by rw [HF.out]; rfl, below_drewN hbw _⟩
  have q1 : ((t.c : Int) == 110) = false := by rw [beq_eq_false_iff_ne]; omega
  have HF : Hid (ruleF 81 t d = ([], true, false)) := hide (by unfold ruleF; rw [if_neg (by decide), if_neg (by decide), if_neg (by decide), if_pos (by decide), beq_eq_false_iff_ne.2 h1]; rfl)
  clear h1
  go_enter Tryd.func39, Tryd.ntmps39
  go_wp2_with fail
  refine (rliteral_any t _).mono ?_
  rintro e w1 ⟨rfl, hb1⟩
  obtain ⟨d0, d1, d2, d3, hbw⟩ := HSTEP.out w1 hb1
  clear hb1
  go_wp2_with fail
  refine (roperator_any t.word _).mono ?_
  rintro e w2 ⟨rfl, rfl⟩
  go_wp2_with fail
  go_quiet (fail)
  go_wp2
  go_ret3
  exact ⟨by rw [HF.out]; rfl, below_drewN hbw _⟩


set_option maxHeartbeats 4000000 in
theorem rule69_any (t : RTk) (d : Int) (w : World) :
    Calls Tryd.prog 39 #[.int .u8 69, t.val, .int .i64 d] w fun e w' => e = .returned (tri (ruleF 69 t d)) ∧ Below w.heap.size w w' := by
  have HSTEP := hide (tok_step t w)
  by_cases h1 : t.l = [40]
  · have q1 := str_yes (t := t.word) h1
    have HF : Hid (ruleF 69 t d = ([73, 41], true, decide (d < 16))) := hide (by unfold ruleF; rw [if_neg (by decide), if_neg (by decide), if_neg (by decide), if_neg (by decide), if_pos (by decide), if_pos h1])
    clear h1
    go_enter Tryd.func39, Tryd.ntmps39
    go_wp2_with fail
    refine (rliteral_any t _).mono ?_
    rintro e w1 ⟨rfl, hb1⟩
    obtain ⟨d0, d1, d2, d3, hbw⟩ := HSTEP.out w1 hb1
    clear hb1
    go_wp2_with fail
    refine (roperator_any t.word _).mono ?_
    rintro e w2 ⟨rfl, rfl⟩
    go_wp2_with fail
    go_ret3
    exact ⟨by rw [HF.out]; rfl, hbw⟩
  have q1 := str_no (t := t.word) h1
  by_cases h2 : rlit t = true
  · have HF : Hid (ruleF 69 t d = ([], true, true)) := hide (by unfold ruleF; rw [if_neg (by decide), if_neg (by decide), if_neg (by decide), if_neg (by decide), if_pos (by decide), if_neg h1, h2]; rfl)
    clear h1
    go_enter Tryd.func39, Tryd.ntmps39
    go_wp2_with fail
    refine (rliteral_any t _).mono ?_
    rintro e w1 ⟨rfl, hb1⟩
    rw [h2]
    obtain ⟨d0, d1, d2, d3, hbw⟩ := HSTEP.out w1 hb1
    clear hb1
    go_wp2_with fail
    refine (roperator_any t.word _).mono ?_
    rintro e w2 ⟨rfl, rfl⟩
    go_wp2_with fail
    go_quiet (fail)
    go_wp2
    go_ret3
    exact ⟨by rw [HF.out]; rfl, below_drewN hbw _⟩
  have h2' : rlit t = false := by simpa using h2
  by_cases h3 : t.c = 97
  · have HF : Hid (ruleF 69 t d = ([], true, true)) := hide (by unfold ruleF; rw [if_neg (by decide), if_neg (by decide), if_neg (by decide), if_neg (by decide), if_pos (by decide), if_neg h1, h2', h3]; rfl)
    have q3 : ((t.c : Int) == 97) = true := by rw [h3]; rfl
    clear h1 h2 h3
    go_enter Tryd.func39, Tryd.ntmps39
    go_wp2_with fail
    refine (rliteral_any t _).mono ?_
    rintro e w1 ⟨rfl, hb1⟩
    rw [h2']
    obtain ⟨d0, d1, d2, d3, hbw⟩ := HSTEP.out w1 hb1
    clear hb1
    go_wp2_with fail
    refine (roperator_any t.word _).mono ?_
    rintro e w2 ⟨rfl, rfl⟩
    go_wp2_with fail
    go_quiet (fail)
    go_wp2
    go_ret3
    exact ⟨by rw [HF.out]; rfl, below_drewN hbw _⟩
  have HF : Hid (ruleF 69 t d = ([], true, false)) := hide (by unfold ruleF; rw [if_neg (by decide), if_neg (by decide), if_neg (by decide), if_neg (by decide), if_pos (by decide), if_neg h1, h2', beq_eq_false_iff_ne.2 h3]; rfl)
  have q3 : ((t.c : Int) == 97) = false := by rw [beq_eq_false_iff_ne]; omega
  clear h1 h2 h3
  go_enter Tryd.func39, Tryd.ntmps39
  go_wp2_with fail
  refine (rliteral_any t _).mono ?_
  rintro e w1 ⟨rfl, hb1⟩
  rw [h2']
  obtain ⟨d0, d1, d2, d3, hbw⟩ := HSTEP.out w1 hb1
  clear hb1
  go_wp2_with fail
  refine (roperator_any t.word _).mono ?_
  rintro e w2 ⟨rfl, rfl⟩
  go_wp2_with fail
  go_quiet (fail)
  go_wp2
  go_ret3
  exact ⟨by rw [HF.out]; rfl, below_drewN hbw _⟩


set_option maxHeartbeats 4000000 in
theorem rule73_any (t : RTk) (d : Int) (w : World) :
    Calls Tryd.prog 39 #[.int .u8 73, t.val, .int .i64 d] w fun e w' => e = .returned (tri (ruleF 73 t d)) ∧ Below w.heap.size w w' := by
  have HSTEP := hide (tok_step t w)
  have HF : Hid (ruleF 73 t d = insF t) := hide (by unfold ruleF; rw [if_neg (by decide), if_neg (by decide), if_neg (by decide), if_neg (by decide), if_neg (by decide), if_pos (by decide)])
  go_enter Tryd.func39, Tryd.ntmps39
  go_wp2_with fail
  refine (rliteral_any t _).mono ?_
  rintro e w1 ⟨rfl, hb1⟩
  obtain ⟨d0, d1, d2, d3, hbw⟩ := HSTEP.out w1 hb1
  clear hb1
  go_wp2_with fail
  refine (roperator_any t.word _).mono ?_
  rintro e w2 ⟨rfl, rfl⟩
  go_wp2_with fail
  refine (rinside_any t _).mono ?_
  rintro e w3 ⟨rfl, hb3⟩
  go_wp2_with fail
  go_ret3
  exact ⟨by rw [HF.out]; rfl, hbw.trans (hb3.mono hbw.size)⟩


set_option maxHeartbeats 4000000 in
theorem rule76_any (t : RTk) (d : Int) (w : World) :
    Calls Tryd.prog 39 #[.int .u8 76, t.val, .int .i64 d] w fun e w' => e = .returned (tri (ruleF 76 t d)) ∧ Below w.heap.size w w' := by
  have HSTEP := hide (tok_step t w)
  by_cases h1 : rop t.word.data.toList = true
  · have HF : Hid (ruleF 76 t d = ([69], true, true)) := hide (by unfold ruleF; rw [if_neg (by decide), if_neg (by decide), if_neg (by decide), if_neg (by decide), if_neg (by decide), if_neg (by decide), if_pos (by decide), show rop t.l = true from h1]; rfl)
    go_enter Tryd.func39, Tryd.ntmps39
    go_wp2_with fail
    refine (rliteral_any t _).mono ?_
    rintro e w1 ⟨rfl, hb1⟩
    obtain ⟨d0, d1, d2, d3, hbw⟩ := HSTEP.out w1 hb1
    clear hb1
    go_wp2_with fail
    refine (roperator_any t.word _).mono ?_
    rintro e w2 ⟨rfl, rfl⟩
    rw [h1]
    go_wp2_with fail
    go_quiet (fail)
    go_wp2
    go_ret3
    exact ⟨by rw [HF.out]; rfl, below_drewN hbw _⟩
  have h1' : rop t.word.data.toList = false := by simpa using h1
  by_cases h2 : t.l = kFby
  · have HF : Hid (ruleF 76 t d = ([69], true, true)) := hide (by unfold ruleF; rw [if_neg (by decide), if_neg (by decide), if_neg (by decide), if_neg (by decide), if_neg (by decide), if_neg (by decide), if_pos (by decide), show rop t.l = false from h1', h2]; rfl)
    have q2 := str_yes (t := t.word) h2
    simp only [kFby] at q2
    clear h1 h2
    go_enter Tryd.func39, Tryd.ntmps39
    go_wp2_with fail
    refine (rliteral_any t _).mono ?_
    rintro e w1 ⟨rfl, hb1⟩
    obtain ⟨d0, d1, d2, d3, hbw⟩ := HSTEP.out w1 hb1
    clear hb1
    go_wp2_with fail
    refine (roperator_any t.word _).mono ?_
    rintro e w2 ⟨rfl, rfl⟩
    rw [h1']
    go_wp2_with fail
    go_quiet (fail)
    go_wp2
    go_ret3
    exact ⟨by rw [HF.out]; rfl, below_drewN hbw _⟩
  have q2 := str_no (t := t.word) h2
  simp only [kFby] at q2
  have HF : Hid (ruleF 76 t d = ([69], true, false)) := hide (by unfold ruleF; rw [if_neg (by decide), if_neg (by decide), if_neg (by decide), if_neg (by decide), if_neg (by decide), if_neg (by decide), if_pos (by decide), show rop t.l = false from h1']; simp [h2])
  clear h1 h2
  go_enter Tryd.func39, Tryd.ntmps39
  go_wp2_with fail
  refine (rliteral_any t _).mono ?_
  rintro e w1 ⟨rfl, hb1⟩
  obtain ⟨d0, d1, d2, d3, hbw⟩ := HSTEP.out w1 hb1
  clear hb1
  go_wp2_with fail
  refine (roperator_any t.word _).mono ?_
  rintro e w2 ⟨rfl, rfl⟩
  rw [h1']
  go_wp2_with fail
  go_quiet (fail)
  go_wp2
  go_ret3
  exact ⟨by rw [HF.out]; rfl, below_drewN hbw _⟩


set_option maxHeartbeats 4000000 in
theorem rule79_any (t : RTk) (d : Int) (w : World) :
    Calls Tryd.prog 39 #[.int .u8 79, t.val, .int .i64 d] w fun e w' => e = .returned (tri (ruleF 79 t d)) ∧ Below w.heap.size w w' := by
  have HSTEP := hide (tok_step t w)
  have HF : Hid (ruleF 79 t d = ([69], true, rop t.word.data.toList)) := hide (by unfold ruleF; rw [if_neg (by decide), if_neg (by decide), if_neg (by decide), if_neg (by decide), if_neg (by decide), if_neg (by decide), if_neg (by decide), if_pos (by decide)]; rfl)
  go_enter Tryd.func39, Tryd.ntmps39
  go_wp2_with fail
  refine (rliteral_any t _).mono ?_
  rintro e w1 ⟨rfl, hb1⟩
  obtain ⟨d0, d1, d2, d3, hbw⟩ := HSTEP.out w1 hb1
  clear hb1
  go_wp2_with fail
  refine (roperator_any t.word _).mono ?_
  rintro e w2 ⟨rfl, rfl⟩
  go_wp2_with fail
  go_ret3
  exact ⟨by rw [HF.out]; rfl, hbw⟩


theorem beq_cast (a b : Nat) : ((a : Int) == (b : Int)) = (a == b) := by
  rw [Bool.eq_iff_iff, beq_iff_eq, beq_iff_eq]; omega

theorem first_byte (t : RTk) (h : 0 < t.word.size) : t.l.getD 0 0 = t.word[0]'h := by
  unfold RTk.l
  rw [List.getD_eq_getElem?_getD, Array.getElem?_toList, Array.getElem?_eq_getElem (by simpa using h)]
  rfl

set_option maxHeartbeats 4000000 in
theorem rule_other (x : Nat) (t : RTk) (d : Int) (w : World) (hx : x ≠ 80 ∧ x ≠ 97 ∧ x ≠ 84 ∧ x ≠ 81 ∧ x ≠ 69 ∧ x ≠ 73 ∧ x ≠ 76 ∧ x ≠ 79) (ht : t.c = 115 → 0 < t.word.size) :
    Calls Tryd.prog 39 #[.int .u8 (x : Int), t.val, .int .i64 d] w fun e w' => e = .returned (tri (ruleF x t d)) ∧ Below w.heap.size w w' := by
  have HSTEP := hide (tok_step t w)
  have n80 : x ≠ 80 := by omega
  have m80 : ((x : Int) == 80) = false := by rw [beq_eq_false_iff_ne]; omega
  have n97 : x ≠ 97 := by omega
  have m97 : ((x : Int) == 97) = false := by rw [beq_eq_false_iff_ne]; omega
  have n84 : x ≠ 84 := by omega
  have m84 : ((x : Int) == 84) = false := by rw [beq_eq_false_iff_ne]; omega
  have n81 : x ≠ 81 := by omega
  have m81 : ((x : Int) == 81) = false := by rw [beq_eq_false_iff_ne]; omega
  have n69 : x ≠ 69 := by omega
  have m69 : ((x : Int) == 69) = false := by rw [beq_eq_false_iff_ne]; omega
  have n73 : x ≠ 73 := by omega
  have m73 : ((x : Int) == 73) = false := by rw [beq_eq_false_iff_ne]; omega
  have n76 : x ≠ 76 := by omega
  have m76 : ((x : Int) == 76) = false := by rw [beq_eq_false_iff_ne]; omega
  have n79 : x ≠ 79 := by omega
  have m79 : ((x : Int) == 79) = false := by rw [beq_eq_false_iff_ne]; omega
  clear hx
  by_cases h1 : t.c = 115
  · have q1 : ((t.c : Int) == 115) = true := by rw [h1]; rfl
    have hs := ht h1
    have HF : Hid (ruleF x t d = ([], true, (((t.word[0]'hs).toNat : Int) == (x : Int)))) := hide (by unfold ruleF; rw [if_neg n80, if_neg n97, if_neg n84, if_neg n81, if_neg n69, if_neg n73, if_neg n76, if_neg n79, h1, first_byte t hs, beq_cast]; rfl)
    have i1 : (0 : Int) < (t.word.size : Int) := by omega
    clear h1 n80 n97 n84 n81 n69 n73 n76 n79
    go_enter Tryd.func39, Tryd.ntmps39
    go_wp2_with fail
    refine (rliteral_any t _).mono ?_
    rintro e w1 ⟨rfl, hb1⟩
    obtain ⟨d0, d1, d2, d3, hbw⟩ := HSTEP.out w1 hb1
    clear hb1
    go_wp2_with fail
    refine (roperator_any t.word _).mono ?_
    rintro e w2 ⟨rfl, rfl⟩
    go_wp2_with fail
    go_quiet (fail)
    go_wp2
    go_ret3
    exact ⟨by rw [HF.out]; rfl, below_drewN hbw _⟩
  have q1 : ((t.c : Int) == 115) = false := by rw [beq_eq_false_iff_ne]; omega
  have HF : Hid (ruleF x t d = ([], true, false)) := hide (by unfold ruleF; rw [if_neg n80, if_neg n97, if_neg n84, if_neg n81, if_neg n69, if_neg n73, if_neg n76, if_neg n79, beq_eq_false_iff_ne.2 h1]; rfl)
  clear h1 n80 n97 n84 n81 n69 n73 n76 n79
  go_enter Tryd.func39, Tryd.ntmps39
  go_wp2_with fail
  refine (rliteral_any t _).mono ?_
  rintro e w1 ⟨rfl, hb1⟩
  obtain ⟨d0, d1, d2, d3, hbw⟩ := HSTEP.out w1 hb1
  clear hb1
  go_wp2_with fail
  refine (roperator_any t.word _).mono ?_
  rintro e w2 ⟨rfl, rfl⟩
  go_wp2_with fail
  go_quiet (fail)
  go_wp2
  go_ret3
  exact ⟨by rw [HF.out]; rfl, below_drewN hbw _⟩

theorem rule_any (x : Nat) (t : RTk) (d : Int) (w : World) (ht : t.c = 115 → 0 < t.word.size) :
    Calls Tryd.prog 39 #[.int .u8 (x : Int), t.val, .int .i64 d] w fun e w' => e = .returned (tri (ruleF x t d)) ∧ Below w.heap.size w w' := by
  by_cases h1 : x = 80
  · subst h1; exact rule80_any t d w
  by_cases h2 : x = 97
  · subst h2; exact rule97_any t d w
  by_cases h3 : x = 84
  · subst h3; exact rule84_any t d w
  by_cases h4 : x = 81
  · subst h4; exact rule81_any t d w
  by_cases h5 : x = 69
  · subst h5; exact rule69_any t d w
  by_cases h6 : x = 73
  · subst h6; exact rule73_any t d w
  by_cases h7 : x = 76
  · subst h7; exact rule76_any t d w
  by_cases h8 : x = 79
  · subst h8; exact rule79_any t d w
  exact rule_other x t d w ⟨h1, h2, h3, h4, h5, h6, h7, h8⟩ ht

end Go.Proofs.YtmndgoapkmhglaaDoor

/- Plain mathematics: blanks behind signs; a text with a byte behind it; a text cut short; a text laid out. -/
namespace Go.Proofs.YtmndgoapkmhglaaDoor

def sgn (c : UInt8) : Bool := c == 40 || c == 41 || c == 59 || c == 61
def gapB (i : Nat) : UInt8 := if i % 2 = 0 then 32 else 10
def wideL : Nat → List UInt8 → List UInt8
  | _, [] => []
  | i, c :: r => if sgn c then c :: gapB i :: wideL (i + 1) r else c :: wideL (i + 1) r
def mv (l : List UInt8) (a : Nat) : Nat := a + ((l.take a).filter sgn).length

theorem sgn_cls {c : UInt8} (h : sgn c = true) : cls c.toNat = 3 := by
  unfold sgn at h
  simp at h
  rcases h with ((h | h) | h) | h <;> subst h <;> decide
theorem gap_cls (i : Nat) : cls (gapB i).toNat = 0 := by
  unfold gapB; split <;> decide

theorem mv_cons (c : UInt8) (r : List UInt8) (j : Nat) : mv (c :: r) (j + 1) = mv r j + 1 + (if sgn c then 1 else 0) := by
  unfold mv
  rw [List.take_succ_cons, List.filter_cons]
  split
  · simp; omega
  · simp; omega

theorem wideL_cons (i : Nat) (c : UInt8) (r : List UInt8) : wideL i (c :: r) = if sgn c then c :: gapB i :: wideL (i + 1) r else c :: wideL (i + 1) r := rfl

theorem wide_tw {cl : Nat} (hcl : cl = 1 ∨ cl = 2) : ∀ (r : List UInt8) (i : Nat), (wideL i r).takeWhile (W cl) = r.takeWhile (W cl) ∧ (wideL i r).dropWhile (W cl) = wideL (i + (r.takeWhile (W cl)).length) (r.dropWhile (W cl)) := by
  intro r
  induction r with
  | nil => intro i; exact ⟨rfl, rfl⟩
  | cons c r ih =>
    intro i
    rw [wideL_cons]
    by_cases hs : sgn c = true
    · have hw : W cl c = false := by unfold W; rw [sgn_cls hs]; rcases hcl with h | h <;> rw [h] <;> rfl
      rw [if_pos hs]
      simp only [List.takeWhile_cons, List.dropWhile_cons, hw]
      refine ⟨rfl, ?_⟩
      simp [wideL, hs]
    · rw [if_neg hs]
      simp only [List.takeWhile_cons, List.dropWhile_cons]
      by_cases hw : W cl c = true
      · simp only [hw, if_true]
        obtain ⟨h1, h2⟩ := ih (i + 1)
        rw [h1, h2]
        refine ⟨rfl, ?_⟩
        simp only [List.length_cons]
        rw [show i + 1 + (r.takeWhile (W cl)).length = i + ((r.takeWhile (W cl)).length + 1) by omega]
      · simp only [hw]
        refine ⟨rfl, ?_⟩
        simp [wideL, hs]

theorem wide_len : ∀ (l : List UInt8) i, (wideL i l).length = mv l l.length := by
  intro l
  induction l with
  | nil => intro i; rfl
  | cons c r ih =>
    intro i
    unfold wideL
    rw [List.length_cons, mv_cons]
    split
    · simp [ih]
    · simp [ih]

/-- the filter of the words of a run without signs. -/
theorem mv_run {cl : Nat} (hcl : cl = 1 ∨ cl = 2) : ∀ (r : List UInt8) (j : Nat), mv r ((r.takeWhile (W cl)).length + j) = (r.takeWhile (W cl)).length + mv (r.dropWhile (W cl)) j := by
  intro r
  induction r with
  | nil => intro j; simp
  | cons c r ih =>
    intro j
    rw [List.takeWhile_cons, List.dropWhile_cons]
    by_cases hw : W cl c = true
    · simp only [hw, if_true, List.length_cons]
      have hs : sgn c = false := by
        cases h : sgn c
        · rfl
        · unfold W at hw; rw [sgn_cls h] at hw; rcases hcl with e | e <;> rw [e] at hw <;> cases hw
      rw [show (r.takeWhile (W cl)).length + 1 + j = (r.takeWhile (W cl)).length + j + 1 by omega, mv_cons, ih j, hs]
      simp; omega
    · simp [hw]

def Moved1 (m : Nat → Nat) (t t' : Tk) : Prop := t'.kind = t.kind ∧ t'.text = t.text ∧ t'.pos = m t.pos

theorem wide_tk (m : Nat → Nat) : ∀ n k k' i (l : List UInt8), l.length = n → (∀ j, m (k + j) = k' + mv l j) → All2 (Moved1 m) (tk k l) (tk k' (wideL i l)) := by
  intro n
  induction n using Nat.strongRecOn with
  | _ n ih =>
    intro k k' i l hn hm
    have hm0 : m k = k' := by have := hm 0; simpa [mv] using this
    cases l with
    | nil => exact trivial
    | cons c r =>
      simp only [List.length_cons] at hn
      by_cases h0 : cls c.toNat = 0
      · have hs : sgn c = false := by cases h : sgn c; rfl; rw [sgn_cls h] at h0; cases h0
        unfold wideL
        rw [hs]
        simp only [Bool.false_eq_true, if_false]
        rw [tk_blank h0, tk_blank h0]
        refine ih r.length (by omega) _ _ _ r rfl ?_
        intro j
        have := hm (j + 1)
        rw [mv_cons, hs] at this
        rw [show k + 1 + j = k + (j + 1) by omega, this]
        simp; omega
      · by_cases h12 : cls c.toNat = 1 ∨ cls c.toNat = 2
        · have hs : sgn c = false := by cases h : sgn c; rfl; rw [sgn_cls h] at h12; omega
          unfold wideL
          rw [hs]
          simp only [Bool.false_eq_true, if_false]
          rw [tk_word h12, tk_word h12]
          obtain ⟨h1, h2⟩ := wide_tw h12 r (i + 1)
          rw [h1, h2]
          refine ⟨⟨rfl, rfl, hm0.symm⟩, ?_⟩
          have hl := take_drop_len (W (cls c.toNat)) r
          refine ih _ (by omega) _ _ _ _ rfl ?_
          intro j
          have := hm ((r.takeWhile (W (cls c.toNat))).length + j + 1)
          rw [mv_cons, hs, mv_run h12] at this
          rw [show k + 1 + (r.takeWhile (W (cls c.toNat))).length + j = k + ((r.takeWhile (W (cls c.toNat))).length + j + 1) by omega, this]
          simp; omega
        · have h3 : 3 ≤ cls c.toNat := by omega
          unfold wideL
          by_cases hs : sgn c = true
          · rw [if_pos hs, tk_one h3, tk_one h3, tk_blank (gap_cls i)]
            refine ⟨⟨rfl, rfl, hm0.symm⟩, ?_⟩
            refine ih r.length (by omega) _ _ _ r rfl ?_
            intro j
            have := hm (j + 1)
            rw [mv_cons, hs] at this
            rw [show k + 1 + j = k + (j + 1) by omega, this]
            simp; omega
          · rw [if_neg hs, tk_one h3, tk_one h3]
            refine ⟨⟨rfl, rfl, hm0.symm⟩, ?_⟩
            refine ih r.length (by omega) _ _ _ r rfl ?_
            intro j
            have := hm (j + 1)
            rw [mv_cons, if_neg hs] at this
            rw [show k + 1 + j = k + (j + 1) by omega, this]
            omega

def wideS (s : ByteArray) : ByteArray := ⟨(wideL 0 s.data.toList).toArray⟩
theorem size_list (s : ByteArray) : s.size = s.data.toList.length := Array.length_toList.symm

theorem wide_toks (s : ByteArray) : All2 (Moved1 (mv s.data.toList)) (toks s) (toks (wideS s)) := by
  rw [toks_list, toks_list]
  refine All2.app (wide_tk _ _ 0 0 0 _ rfl (fun j => by rw [Nat.zero_add, Nat.zero_add])) ⟨⟨rfl, rfl, ?_⟩, trivial⟩
  show (wideS s).size = mv s.data.toList s.size
  rw [size_list, size_list]
  show (wideL 0 s.data.toList).length = _
  exact wide_len _ 0

theorem TsDig.all {ts : List Tk} (h : TsDig ts) (i : Nat) : DigTok (tkAt ts i) := by
  by_cases hi : i < ts.length
  · exact h i hi
  · have : tkAt ts i = tkEnd := by unfold tkAt; rw [List.getD_eq_getElem?_getD, List.getElem?_eq_none (by omega)]; rfl
    rw [this]
    intro hk
    cases hk

theorem moved_at {m : Nat → Nat} (h0 : m 0 = 0) {ts ts' : List Tk} (h : All2 (Moved1 m) ts ts') (i : Nat) : Moved1 m (tkAt ts i) (tkAt ts' i) :=
  All2.getD (R := Moved1 m) ⟨rfl, rfl, h0.symm⟩ i h

theorem wide_tsR (s : ByteArray) : TsR (fun a b => b = mv s.data.toList a) (toks s) (toks (wideS s)) := by
  have h := wide_toks s
  refine ⟨h.len, fun i => ?_⟩
  obtain ⟨h1, h2, h3⟩ := moved_at (by rfl) h i
  have hd := (toks_dig s).all i
  refine ⟨h1, h3, fun _ => by unfold Tk.l; rw [h2], fun hk => ?_, fun _ => h2⟩
  have := (hd hk).2
  exact ⟨this, by unfold Tk.l; rw [h2]; exact this⟩

theorem wide_text (s : ByteArray) (hs : s.size ≤ 1500) (hs' : (wideS s).size ≤ 1500) : textF (wideS s) = ((textF s).1, mv s.data.toList (textF s).2) := by
  have h := textR (P := fun a b => b = mv s.data.toList a) rfl s (wideS s) hs hs' (wide_tsR s)
  exact Prod.ext h.1 h.2

/- what is laid out -/
def gapL (a b : List UInt8) : List UInt8 := if a = [59] then [10] else if a = [40] ∨ b = [41] ∨ b = [59] then [] else [32]
def trimL : List UInt8 → List UInt8
  | [] => []
  | [c] => [c]
  | c :: d :: r => if c = 48 then trimL (d :: r) else c :: d :: r
def bareL (t : Tk) : List UInt8 := if t.kind = 3 then trimL t.l else t.l
def pieceL (ts : List Tk) (j : Nat) : List UInt8 := (if j = 0 then [] else gapL (tkAt ts (j - 1)).l (tkAt ts j).l) ++ bareL (tkAt ts j)
def outN (ts : List Tk) : Nat → List UInt8
  | 0 => []
  | j + 1 => outN ts j ++ pieceL ts j
def outF (s : ByteArray) : ByteArray := ⟨(outN (toks s) (toks s).length).toArray⟩

theorem wide_out (s : ByteArray) : outF (wideS s) = outF s := by
  have h := wide_toks s
  unfold outF
  rw [h.len]
  have hp : ∀ j, pieceL (toks (wideS s)) j = pieceL (toks s) j := by
    intro j
    obtain ⟨a1, a2, _⟩ := moved_at (by rfl) h j
    obtain ⟨b1, b2, _⟩ := moved_at (by rfl) h (j - 1)
    unfold pieceL bareL Tk.l
    rw [a1, a2, b2]
  have ho : ∀ n, outN (toks (wideS s)) n = outN (toks s) n := by
    intro n
    induction n with
    | zero => rfl
    | succ n ih => unfold outN; rw [ih, hp]
  rw [ho]

/- a byte behind; a text cut short -/
theorem text_ok {s : ByteArray} (hs : s.size ≤ 1500) (h : (textF s).1 = 0) : ∃ p, parseF s = .ok p := by
  unfold textF at h
  rw [if_neg (by omega)] at h
  cases hp : parseF s with
  | error e => rw [hp] at h; cases h
  | ok p => exact ⟨p, rfl⟩

theorem tkAt_left {a b : List Tk} {i : Nat} (h : i < a.length) : tkAt (a ++ b) i = tkAt a i := by
  unfold tkAt; rw [List.getD_eq_getElem?_getD, List.getD_eq_getElem?_getD, List.getElem?_append_left h]
theorem tkAt_mid {a b : List Tk} {t : Tk} : tkAt (a ++ t :: b) a.length = t := by
  unfold tkAt; rw [List.getD_eq_getElem?_getD, List.getElem?_append_right (Nat.le_refl _)]; simp
theorem tkAt_mem {a : List Tk} {i : Nat} (h : i < a.length) : tkAt a i ∈ a := by
  unfold tkAt; rw [List.getD_eq_getElem?_getD, List.getElem?_eq_getElem h]; exact List.getElem_mem h

theorem end_at (s : ByteArray) (hs : s.size ≤ 1500) (p : PS) (h : parseF s = .ok p) : p.next = (tk 0 s.data.toList).length ∧ (p.hd (toks s)).kind = 0 ∧ (p = pZero ∨ (tkAt (toks s) (p.next - 1)).l = [59]) := by
  have ht := toks_ok s hs
  obtain ⟨h1, h2, h3⟩ := declsEnd ht _ _ _ (pZero_wf ht).next (by simp) h
  refine ⟨?_, h1, h3⟩
  rw [toks_list] at h1 h2
  simp at h2
  by_cases e : p.next < (tk 0 s.data.toList).length
  · exfalso
    unfold PS.hd at h1
    rw [tkAt_left e] at h1
    exact (tk_kind _ _ _ rfl _ (tkAt_mem e)).1 h1
  · omega

theorem hash_text (s s' : ByteArray) (hs : s.size < 1500) (h : (textF s).1 = 0) (hl : s'.data.toList = s.data.toList ++ [35]) : textF s' = (2, s.size) := by
  have hs' : s'.size ≤ 1500 := by rw [size_list, hl, List.length_append, ← size_list]; simp; omega
  obtain ⟨p, hp⟩ := text_ok (by omega) h
  obtain ⟨h1, h2, _⟩ := end_at s (by omega) p hp
  have ht := toks_list s
  have ht' : toks s' = tk 0 s.data.toList ++ tokW s.size [35] 4 :: [⟨0, s'.size, ⟨#[]⟩⟩] := by
    rw [toks_list, hl, tk_split (c := 35) (by decide) [] _ 0 _ rfl, tk_nil, Nat.zero_add, ← size_list]
    simp
    rfl
  have hat : tkAt (toks s') (tk 0 s.data.toList).length = tokW s.size [35] 4 := by rw [ht']; exact tkAt_mid
  have hc : CutTs (tk 0 s.data.toList).length (toks s) (toks s') := by
    refine ⟨toks_ok s (by omega), by rw [ht]; simp, by rw [ht']; simp, ?_, ?_, ?_, ?_⟩
    · intro i hi; rw [ht, ht', tkAt_left hi, tkAt_left hi]
    · rw [hat]; show kindK [35] 4 ≠ 1; decide
    · rw [hat]; show kindK [35] 4 ≠ 3; decide
    · rw [hat]; show kwL.contains [35] = false; decide
  have he := declsC hc (.inl (by rw [hat]; exact kindK_pos [35] 4)) _ (toks s').length _ _ (Nat.zero_le _) (by simp) hp h2 (by rw [h1]; exact Nat.le_refl _)
  unfold textF
  rw [if_neg (by omega)]
  have hpe : parseF s' = .error (tk 0 s.data.toList).length := he
  rw [hpe]
  simp only
  rw [hat]
  rfl

theorem cut_text (s s' : ByteArray) (l1 l2 : List UInt8) (hs : s.size ≤ 1500) (h : (textF s).1 = 0) (hl : s.data.toList = l1 ++ 59 :: l2) (hn : (59 : UInt8) ∉ l2) (hl' : s'.data.toList = l1) : textF s' = (2, l1.length) := by
  have hsz : s.size = l1.length + 1 + l2.length := by rw [size_list, hl]; simp; omega
  have hs' : s'.size = l1.length := by rw [size_list, hl']
  obtain ⟨p, hp⟩ := text_ok hs h
  obtain ⟨h1, h2, h3⟩ := end_at s hs p hp
  have hA : tk 0 s.data.toList = tk 0 l1 ++ tokW l1.length [59] 3 :: tk (l1.length + 1) l2 := by
    rw [hl, tk_split (c := 59) (by decide) l2 _ 0 _ rfl, Nat.zero_add]; rfl
  have hne : p ≠ pZero := by
    intro e
    rw [e, hA] at h1
    simp [pZero] at h1
  have h4 := h3.resolve_left hne
  have ht2 : tk (l1.length + 1) l2 = [] := by
    cases hb : tk (l1.length + 1) l2 with
    | nil => rfl
    | cons t b =>
      exfalso
      have hlen : (tk 0 s.data.toList).length = (tk 0 l1).length + 1 + (b.length + 1) := by rw [hA, hb]; simp; omega
      rw [h1, hlen, toks_list, hA, hb] at h4
      have e1 : tkAt (tk 0 l1 ++ tokW l1.length [59] 3 :: t :: b ++ [⟨0, s.size, ⟨#[]⟩⟩]) ((tk 0 l1).length + 1 + (b.length + 1) - 1) = tkAt (t :: b) b.length := by
        unfold tkAt
        simp only [List.append_assoc, List.cons_append, List.getD_eq_getElem?_getD]
        rw [List.getElem?_append_right (by omega), show (tk 0 l1).length + 1 + (b.length + 1) - 1 - (tk 0 l1).length = b.length + 1 by omega, List.getElem?_cons_succ, ← List.cons_append, List.getElem?_append_left (by simp)]
      rw [e1] at h4
      have hm : tkAt (t :: b) b.length ∈ tk (l1.length + 1) l2 := by rw [hb]; exact tkAt_mem (by simp)
      obtain ⟨_, c, hc, hh, _⟩ := tk_kind _ _ _ rfl _ hm
      unfold Tk.l at h4
      rw [h4] at hh
      simp at hh
      subst hh
      exact hn hc
  rw [ht2] at hA
  have ht : toks s = tk 0 l1 ++ tokW l1.length [59] 3 :: [⟨0, s.size, ⟨#[]⟩⟩] := by rw [toks_list, hA]; simp
  have ht' : toks s' = tk 0 l1 ++ [⟨0, l1.length, ⟨#[]⟩⟩] := by rw [toks_list, hl', hs']
  have hat : tkAt (toks s') (tk 0 l1).length = ⟨0, l1.length, ⟨#[]⟩⟩ := by rw [ht']; exact tkAt_mid
  have hat2 : tkAt (toks s) (tk 0 l1).length = tokW l1.length [59] 3 := by rw [ht]; exact tkAt_mid
  have hc : CutTs (tk 0 l1).length (toks s) (toks s') := by
    refine ⟨toks_ok s hs, by rw [ht]; simp, by rw [ht']; simp, ?_, ?_, ?_, ?_⟩
    · intro i hi; rw [ht, ht', tkAt_left hi, tkAt_left hi]
    · rw [hat]; show (0:Nat) ≠ 1; decide
    · rw [hat]; show (0:Nat) ≠ 3; decide
    · rw [hat]; show kwL.contains [] = false; decide
  have he := declsC hc (.inr ⟨by rw [hat2]; exact kindK_pos [59] 3, by rw [hat2]; rfl⟩) _ (toks s').length _ _ (Nat.zero_le _) (by simp) hp h2 (by rw [h1, hA]; simp)
  unfold textF
  rw [if_neg (by omega)]
  have hpe : parseF s' = .error (tk 0 l1).length := he
  rw [hpe]
  simp only
  rw [hat]

end Go.Proofs.YtmndgoapkmhglaaDoor
