import Derived.Test.YtmndgoapkmhglaaA27TabA
/- number, number, apply. -/
namespace Go.Proofs.Ytmndgoapkmhglaa
open Go.RowKit
attribute [local go_sem ↓] Go.wp_at_zero Go.wp_at_succ

theorem rnumber_any (w : World) (b : Bool) :
    Calls Try.prog 92 #[.bool b] w fun e w' => e = .returned (.int .i64 (b2i b)) ∧ Below w.heap.size w w' := by
  cases b
  all_goals
    go_enter Try.func92, Try.ntmps92
    go_wp2
    go_ret
    exact ⟨rfl, Below.refl _ _⟩

theorem apF_lt (a b : Int) : apF [60] a b = b2i (decide (a < b)) := rfl
theorem apF_eq (a b : Int) : apF [61] a b = b2i (decide (a = b)) := rfl
theorem apF_and (a b : Int) : apF [38] a b = b2i (decide (a = 1) && decide (b = 1)) := rfl

set_option maxHeartbeats 2000000 in
theorem rapply_any (o : ByteArray) (w : World) (x y : Int) :
    Calls Try.prog 93 #[.string o, .int .i64 x, .int .i64 y] w fun e w' => e = .returned (.int .i64 (apF o.data.toList x y)) ∧ Below w.heap.size w w' := by
  by_cases h1 : o.data.toList = [43]
  · have HF : Hid (apF o.data.toList x y = w64 (x + y)) := hide (by rw [h1]; rfl)
    have q1 := str_yes h1
    clear h1
    go_enter Try.func93, Try.ntmps93
    go_wp2
    go_ret
    exact ⟨by rw [HF.out]; rfl, Below.refl _ _⟩
  have q1 := str_no h1
  by_cases h2 : o.data.toList = [45]
  · have HF : Hid (apF o.data.toList x y = w64 (x - y)) := hide (by rw [h2]; rfl)
    have q2 := str_yes h2
    clear h1 h2
    go_enter Try.func93, Try.ntmps93
    go_wp2
    go_ret
    exact ⟨by rw [HF.out]; rfl, Below.refl _ _⟩
  have q2 := str_no h2
  by_cases h3 : o.data.toList = [42]
  · have HF : Hid (apF o.data.toList x y = w64 (x * y)) := hide (by rw [h3]; rfl)
    have q3 := str_yes h3
    clear h1 h2 h3
    go_enter Try.func93, Try.ntmps93
    go_wp2
    go_ret
    exact ⟨by rw [HF.out]; rfl, Below.refl _ _⟩
  have q3 := str_no h3
  by_cases h4 : o.data.toList = [47]
  · have q4 := str_yes h4
    by_cases hy : y = 0
    · have HF : Hid (apF o.data.toList x y = 0) := hide (by rw [h4, hy]; rfl)
      have q5 : (y == 0) = true := by rw [hy]; rfl
      clear h1 h2 h3 h4 hy
      go_enter Try.func93, Try.ntmps93
      go_wp2
      go_ret
      exact ⟨by rw [HF.out]; rfl, Below.refl _ _⟩
    · have HF : Hid (apF o.data.toList x y = w64 (x.tdiv y)) := hide (by rw [h4]; show (if y = 0 then 0 else w64 (x.tdiv y)) = _; rw [if_neg hy])
      have q5 : (y == 0) = false := by rw [beq_eq_false_iff_ne]; exact hy
      clear h1 h2 h3 h4
      go_enter Try.func93, Try.ntmps93
      go_wp2
      go_ret
      exact ⟨by rw [HF.out]; rfl, Below.refl _ _⟩
  have q4 := str_no h4
  by_cases h5 : o.data.toList = [60]
  · have HF : Hid (apF o.data.toList x y = b2i (decide (x < y))) := hide (by rw [h5]; rfl)
    have q5 := str_yes h5
    have HN := hide (fun W b => rnumber_any W b)
    clear h1 h2 h3 h4 h5
    go_enter Try.func93, Try.ntmps93
    go_wp2_with fail
    refine (HN.out _ _).mono ?_
    rintro e w1 ⟨rfl, hb1⟩
    go_wp2
    go_ret
    exact ⟨by rw [HF.out]; rfl, hb1⟩
  have q5 := str_no h5
  by_cases h6 : o.data.toList = [61]
  · have HF : Hid (apF o.data.toList x y = b2i (decide (x = y))) := hide (by rw [h6]; rfl)
    have q6 := str_yes h6
    have HN := hide (fun W b => rnumber_any W b)
    clear h1 h2 h3 h4 h5 h6
    go_enter Try.func93, Try.ntmps93
    go_wp2_with fail
    refine (HN.out _ _).mono ?_
    rintro e w1 ⟨rfl, hb1⟩
    go_wp2
    go_ret
    exact ⟨by rw [HF.out]; rfl, hb1⟩
  have q6 := str_no h6
  have HN := hide (fun W b => rnumber_any W b)
  have hcx : x = 1 ∨ (x == 1) = false := by by_cases e : x = 1 <;> simp [e]
  have hcy : y = 1 ∨ (y == 1) = false := by by_cases e : y = 1 <;> simp [e]
  by_cases h7 : o.data.toList = [38]
  · have HF : Hid (apF o.data.toList x y = b2i (decide (x = 1) && decide (y = 1))) := hide (by rw [h7]; rfl)
    have q7 := str_yes h7
    clear h1 h2 h3 h4 h5 h6 h7
    rcases hcx with rfl | c1
    · rcases hcy with rfl | c2
      all_goals
        go_enter Try.func93, Try.ntmps93
        go_wp2_with fail
        refine (HN.out _ _).mono ?_
        rintro e w1 ⟨rfl, hb1⟩
        go_wp2
        go_ret
        exact ⟨by rw [HF.out]; simp_all, hb1⟩
    · go_enter Try.func93, Try.ntmps93
      go_wp2_with fail
      refine (HN.out _ _).mono ?_
      rintro e w1 ⟨rfl, hb1⟩
      go_wp2
      go_ret
      exact ⟨by rw [HF.out]; simp_all, hb1⟩
  have q7 := str_no h7
  have HF : Hid (apF o.data.toList x y = b2i (decide (x = 1) || decide (y = 1))) := hide (by unfold apF; rw [if_neg h1, if_neg h2, if_neg h3, if_neg h4, if_neg h5, if_neg h6, if_neg h7])
  clear h1 h2 h3 h4 h5 h6 h7
  rcases hcx with rfl | c1
  · go_enter Try.func93, Try.ntmps93
    go_wp2_with fail
    refine (HN.out _ _).mono ?_
    rintro e w1 ⟨rfl, hb1⟩
    go_wp2
    go_ret
    exact ⟨by rw [HF.out]; simp_all, hb1⟩
  · rcases hcy with rfl | c2
    all_goals
      go_enter Try.func93, Try.ntmps93
      go_wp2_with fail
      refine (HN.out _ _).mono ?_
      rintro e w1 ⟨rfl, hb1⟩
      go_wp2
      go_ret
      exact ⟨by rw [HF.out]; simp_all, hb1⟩

end Go.Proofs.Ytmndgoapkmhglaa
