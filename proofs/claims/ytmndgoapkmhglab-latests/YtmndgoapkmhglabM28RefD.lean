import Derived.Test.YtmndgoapkmhglabM03RefClass
import Derived.Test.YtmndgoapkmhglabM27RefC
namespace Go.Proofs.Ytmndgoapkmhglab
open Go.RowKit
attribute [local go_sem ↓] Go.wp_at_zero Go.wp_at_succ

theorem rlit_cases (t : RTk) : (t.c = 110 ∧ rlit t = true) ∨ (t.c ≠ 110 ∧ t.l = kTrue ∧ rlit t = true) ∨ (t.c ≠ 110 ∧ t.l ≠ kTrue ∧ t.l = kFalse ∧ rlit t = true) ∨ (t.c ≠ 110 ∧ t.l ≠ kTrue ∧ t.l ≠ kFalse ∧ rlit t = false) := by
  unfold rlit
  by_cases h1 : t.c = 110
  · left; simp [h1]
  by_cases h2 : t.l = kTrue
  · right; left; simp [h1, h2]
  by_cases h3 : t.l = kFalse
  · right; right; left; simp [h1, h3]; decide
  · right; right; right; simp [h1, h2, h3]

set_option maxHeartbeats 1000000 in
theorem rliteral_any (t : RTk) (w : World) :
    Calls Try.prog 115 #[t.val] w fun e w' => e = .returned (.bool (rlit t)) ∧ Below w.heap.size w w' := by
  rcases rlit_cases t with ⟨h1, hr⟩ | ⟨h1, h2, hr⟩ | ⟨h1, h2, h3, hr⟩ | ⟨h1, h2, h3, hr⟩
  · have q1 : ((t.c : Int) == 110) = true := by rw [h1]; rfl
    have HR := hide hr
    clear h1 hr
    go_enter Try.func115, Try.ntmps115
    go_wp2
    go_ret
    exact ⟨by rw [HR.out]; rfl, (Below.refl _ _).alloc (Nat.le_refl _) _⟩
  · have q1 : ((t.c : Int) == 110) = false := by rw [beq_eq_false_iff_ne]; omega
    have q2 := str_yes (t := t.word) h2
    simp only [kTrue] at q2
    have HR := hide hr
    clear h1 h2 hr
    go_enter Try.func115, Try.ntmps115
    go_wp2
    go_ret
    exact ⟨by rw [HR.out]; rfl, (Below.refl _ _).alloc (Nat.le_refl _) _⟩
  · have q1 : ((t.c : Int) == 110) = false := by rw [beq_eq_false_iff_ne]; omega
    have q3 := str_yes (t := t.word) h3
    simp only [kFalse] at q3
    have HR := hide hr
    clear h1 h2 h3 hr
    go_enter Try.func115, Try.ntmps115
    go_wp2
    go_ret
    exact ⟨by rw [HR.out]; rfl, (Below.refl _ _).alloc (Nat.le_refl _) _⟩
  · have q1 : ((t.c : Int) == 110) = false := by rw [beq_eq_false_iff_ne]; omega
    have q2 := str_no (t := t.word) h2
    have q3 := str_no (t := t.word) h3
    simp only [kTrue] at q2
    simp only [kFalse] at q3
    have HR := hide hr
    clear h1 h2 h3 hr
    go_enter Try.func115, Try.ntmps115
    go_wp2
    go_ret
    exact ⟨by rw [HR.out]; rfl, (Below.refl _ _).alloc (Nat.le_refl _) _⟩

theorem op_cases (l : List UInt8) : l = [43] ∨ l = [45] ∨ l = [42] ∨ l = [47] ∨ l = [60] ∨ l = [61] ∨ l = [38] ∨ l = [124] ∨
      (l ≠ [43] ∧ l ≠ [45] ∧ l ≠ [42] ∧ l ≠ [47] ∧ l ≠ [60] ∧ l ≠ [61] ∧ l ≠ [38] ∧ l ≠ [124]) := by
  by_cases h1 : l = [43]
  · exact .inl h1
  by_cases h2 : l = [45]
  · exact .inr (.inl h2)
  by_cases h3 : l = [42]
  · exact .inr (.inr (.inl h3))
  by_cases h4 : l = [47]
  · exact .inr (.inr (.inr (.inl h4)))
  by_cases h5 : l = [60]
  · exact .inr (.inr (.inr (.inr (.inl h5))))
  by_cases h6 : l = [61]
  · exact .inr (.inr (.inr (.inr (.inr (.inl h6)))))
  by_cases h7 : l = [38]
  · exact .inr (.inr (.inr (.inr (.inr (.inr (.inl h7))))))
  by_cases h8 : l = [124]
  · exact .inr (.inr (.inr (.inr (.inr (.inr (.inr (.inl h8)))))))
  exact .inr (.inr (.inr (.inr (.inr (.inr (.inr (.inr ⟨h1, h2, h3, h4, h5, h6, h7, h8⟩)))))))

set_option maxHeartbeats 1000000 in
theorem roperator_any (t : ByteArray) (w : World) :
    Calls Try.prog 116 #[.string t] w fun e w' => e = .returned (.bool (rop t.data.toList)) ∧ w = w' := by
  rcases op_cases t.data.toList with h | h | h | h | h | h | h | h | ⟨h1, h2, h3, h4, h5, h6, h7, h8⟩
  all_goals try (
    have HF := hide (congrArg rop h)
    have et := str_yes h
    clear h
    go_enter Try.func116, Try.ntmps116
    go_wp2
    go_ret
    exact ⟨by rw [HF.out]; rfl, rfl⟩)
  have HF : Hid (rop t.data.toList = false) := hide (by unfold rop opOf; rw [if_neg h1, if_neg h2, if_neg h3, if_neg h4, if_neg h5, if_neg h6, if_neg h7, if_neg h8]; rfl)
  have q1 := str_no h1
  have q2 := str_no h2
  have q3 := str_no h3
  have q4 := str_no h4
  have q5 := str_no h5
  have q6 := str_no h6
  have q7 := str_no h7
  have q8 := str_no h8
  clear h1 h2 h3 h4 h5 h6 h7 h8
  go_enter Try.func116, Try.ntmps116
  go_wp2
  go_ret
  exact ⟨by rw [HF.out]; rfl, rfl⟩

/-- three results: a text and two truths. -/
abbrev tri (r : List UInt8 × Bool × Bool) : Value := .tuple #[.string ⟨r.1.toArray⟩, .bool r.2.1, .bool r.2.2]

set_option maxHeartbeats 1000000 in
theorem rinside_any (t : RTk) (w : World) :
    Calls Try.prog 117 #[t.val] w fun e w' => e = .returned (tri (insF t)) ∧ Below w.heap.size w w' := by
  have fin : ∀ (a1 a2 a3 : Prop), a1 → a2 → a3 → a1 ∧ a2 ∧ a3 := fun _ _ _ x y z => ⟨x, y, z⟩
  clear fin
  have step : ∀ w1, Below (w.alloc (.cells #[.int .u8 (t.c : Int), .string t.word, .int .i64 (t.pos : Int), .int .i64 (t.n : Int)] 157)).heap.size (w.alloc (.cells #[.int .u8 (t.c : Int), .string t.word, .int .i64 (t.pos : Int), .int .i64 (t.n : Int)] 157)) w1 →
      w1.cell? ⟨w.heap.size, 0, none⟩ = some (.int .u8 (t.c : Int)) ∧ w1.cell? ⟨w.heap.size, 1, none⟩ = some (.string t.word) ∧ Below w.heap.size w w1 := fun w1 hb => by
    have hN := (hb.block w.heap.size (by simp)).trans (heap_alloc_new w _)
    refine ⟨?_, ?_, ((Below.refl _ _).alloc (Nat.le_refl _) _).trans (hb.mono (by simp))⟩
    · rw [cell_of_row w1 _ 0 _ _ _ hN]; rfl
    · rw [cell_of_row w1 _ 1 _ _ _ hN]; rfl
  have HSTEP := hide step
  clear step
  by_cases h1 : t.l = kNot
  · have HF : Hid (insF t = ([69], true, true)) := hide (by unfold insF; rw [if_pos h1])
    have q1 := str_yes (t := t.word) h1
    simp only [kNot] at q1
    clear h1
    go_enter Try.func117, Try.ntmps117
    go_wp2_with fail
    refine (rliteral_any t _).mono ?_
    rintro e w1 ⟨rfl, hb1⟩
    obtain ⟨d0, d1, hbw⟩ := HSTEP.out w1 hb1
    clear hb1
    go_wp2_with fail
    go_ret3
    exact ⟨by rw [HF.out]; rfl, hbw⟩
  have q1 := str_no (t := t.word) h1
  simp only [kNot] at q1
  by_cases h2 : t.l = kIf
  · have HF : Hid (insF t = ([69, 69, 69], true, true)) := hide (by unfold insF; rw [if_neg h1, if_pos h2])
    have q2 := str_yes (t := t.word) h2
    simp only [kIf] at q2
    clear h1 h2 q1
    go_enter Try.func117, Try.ntmps117
    go_wp2_with fail
    refine (rliteral_any t _).mono ?_
    rintro e w1 ⟨rfl, hb1⟩
    obtain ⟨d0, d1, hbw⟩ := HSTEP.out w1 hb1
    clear hb1
    go_wp2_with fail
    go_ret3
    exact ⟨by rw [HF.out]; rfl, hbw⟩
  have q2 := str_no (t := t.word) h2
  simp only [kIf] at q2
  by_cases h3 : rlit t = true
  · have HF : Hid (insF t = ([76], true, true)) := hide (by unfold insF; rw [if_neg h1, if_neg h2, if_pos h3])
    clear h1 h2
    go_enter Try.func117, Try.ntmps117
    go_wp2_with fail
    refine (rliteral_any t _).mono ?_
    rintro e w1 ⟨rfl, hb1⟩
    rw [h3]
    obtain ⟨d0, d1, hbw⟩ := HSTEP.out w1 hb1
    clear hb1
    go_wp2_with fail
    go_ret3
    exact ⟨by rw [HF.out]; rfl, hbw⟩
  have h3' : rlit t = false := by simpa using h3
  by_cases h4 : t.c = 97
  · have HF : Hid (insF t = ([79], true, true)) := hide (by unfold insF; rw [if_neg h1, if_neg h2, if_neg h3, if_pos h4])
    have q4 : ((t.c : Int) == 97) = true := by rw [h4]; rfl
    clear h1 h2 h3 h4
    go_enter Try.func117, Try.ntmps117
    go_wp2_with fail
    refine (rliteral_any t _).mono ?_
    rintro e w1 ⟨rfl, hb1⟩
    rw [h3']
    obtain ⟨d0, d1, hbw⟩ := HSTEP.out w1 hb1
    clear hb1
    go_wp2_with fail
    go_ret3
    exact ⟨by rw [HF.out]; rfl, hbw⟩
  have q4 : ((t.c : Int) == 97) = false := by rw [beq_eq_false_iff_ne]; omega
  by_cases h5 : t.l = [40]
  · have HF : Hid (insF t = ([69, 79], false, true)) := hide (by unfold insF; rw [if_neg h1, if_neg h2, if_neg h3, if_neg h4, h5]; rfl)
    have q5 := str_yes (t := t.word) h5
    clear h1 h2 h3 h4 h5 q1 q2
    go_enter Try.func117, Try.ntmps117
    go_wp2_with fail
    refine (rliteral_any t _).mono ?_
    rintro e w1 ⟨rfl, hb1⟩
    rw [h3']
    obtain ⟨d0, d1, hbw⟩ := HSTEP.out w1 hb1
    clear hb1
    go_wp2_with fail
    go_quiet (fail)
    go_wp2
    go_ret3
    exact ⟨by rw [HF.out]; rfl, below_drewN hbw _⟩
  · have HF : Hid (insF t = ([69, 79], false, false)) := hide (by unfold insF; rw [if_neg h1, if_neg h2, if_neg h3, if_neg h4]; simp [h5])
    have q5 := str_no (t := t.word) h5
    clear h1 h2 h3 h4 h5
    go_enter Try.func117, Try.ntmps117
    go_wp2_with fail
    refine (rliteral_any t _).mono ?_
    rintro e w1 ⟨rfl, hb1⟩
    rw [h3']
    obtain ⟨d0, d1, hbw⟩ := HSTEP.out w1 hb1
    clear hb1
    go_wp2_with fail
    go_quiet (fail)
    go_wp2
    go_ret3
    exact ⟨by rw [HF.out]; rfl, below_drewN hbw _⟩

end Go.Proofs.Ytmndgoapkmhglab
