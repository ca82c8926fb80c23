import Derived.Test.Ytmndgoapkmhglabo07PlyP
import Derived.Test.Ytmndgoapkmhglabo29LawP
namespace Go.Proofs.Ytmndgoapkmhglab
open Go.RowKit
attribute [local go_sem ↓] Go.wp_at_zero Go.wp_at_succ
theorem truth_any (w : World) (b : Bool) :
    Calls Try.prog 133 #[.bool b] w fun e w' => e = .returned (.int .i64 (b2i b)) ∧ w = w' := by
  cases b
  all_goals
    go_enter Try.func133, Try.ntmps133
    go_wp2
    go_ret
    exact ⟨rfl, rfl⟩
theorem rknot_any (w : World) (a : Int) :
    Calls Try.prog 122 #[.int .i64 a] w fun e w' => e = .returned (.int .i64 (b2i (decide (a = 0)))) ∧ w = w' := by
  have HN := hide (fun W b => truth_any W b)
  go_enter Try.func122, Try.ntmps122
  go_wp2_with fail
  refine (HN.out _ _).mono ?_
  rintro e w1 ⟨rfl, rfl⟩
  go_wp2
  go_ret
  exact ⟨rfl, rfl⟩
def choF (a b c : Int) : Int := if a ≠ 0 then b else c
theorem choose_any (w : World) (a b c : Int) :
    Calls Try.prog 123 #[.int .i64 a, .int .i64 b, .int .i64 c] w fun e w' => e = .returned (.int .i64 (choF a b c)) ∧ w = w' := by
  by_cases h : a = 0
  · have HF : Hid (choF a b c = c) := hide (by unfold choF; rw [if_neg (by simpa using h)])
    have q : (a != 0) = false := by rw [h]; rfl
    clear h
    go_enter Try.func123, Try.ntmps123
    go_wp2
    go_ret
    exact ⟨by rw [HF.out]; rfl, rfl⟩
  · have HF : Hid (choF a b c = b) := hide (by unfold choF; rw [if_pos h])
    have q : (a != 0) = true := by rw [bne_iff_ne]; exact h
    clear h
    go_enter Try.func123, Try.ntmps123
    go_wp2
    go_ret
    exact ⟨by rw [HF.out]; rfl, rfl⟩
def quoF (a b : Int) : Int := if b = 0 then 0 else if b = -1 then w64 (0 - a) else w64 (a.tdiv b)
theorem quotient_any (w : World) (a b : Int) :
    Calls Try.prog 134 #[.int .i64 a, .int .i64 b] w fun e w' => e = .returned (.int .i64 (quoF a b)) ∧ w = w' := by
  by_cases h : b = 0
  · have HF : Hid (quoF a b = 0) := hide (by unfold quoF; rw [if_pos h])
    have q : (b == 0) = true := by rw [h]; rfl
    clear h
    go_enter Try.func134, Try.ntmps134
    go_wp2
    go_ret
    exact ⟨by rw [HF.out]; rfl, rfl⟩
  have q : (b == 0) = false := by rw [beq_eq_false_iff_ne]; exact h
  by_cases h1 : b = -1
  · have HF : Hid (quoF a b = w64 (-a)) := hide (by unfold quoF; rw [if_neg h, if_pos h1, Int.zero_sub])
    have q1 : (b == -1) = true := by rw [h1]; rfl
    clear h h1
    go_enter Try.func134, Try.ntmps134
    go_wp2
    go_ret
    exact ⟨by rw [HF.out]; rfl, rfl⟩
  · have HF : Hid (quoF a b = w64 (a.tdiv b)) := hide (by unfold quoF; rw [if_neg h, if_neg h1])
    have q1 : (b == -1) = false := by rw [beq_eq_false_iff_ne]; exact h1
    clear h1
    go_enter Try.func134, Try.ntmps134
    go_wp2
    go_ret
    exact ⟨by rw [HF.out]; rfl, rfl⟩
set_option maxHeartbeats 2000000 in
theorem pair_any (op : Nat) (w : World) (x y : Int) :
    Calls Try.prog 124 #[.int .i64 (op : Int), .int .i64 x, .int .i64 y] w fun e w' => e = .returned (.int .i64 (pairF op x y)) ∧ w = w' := by
  have HN := hide (fun W b => truth_any W b)
  have HQ := hide (fun W => quotient_any W x y)
  have no : ∀ k : Nat, op ≠ k → ((op : Int) == (k : Int)) = false := fun k h => by rw [beq_eq_false_iff_ne]; omega
  by_cases h5 : op = 5
  · have HF : Hid (pairF op x y = w64 (x + y)) := hide (by rw [h5]; rfl)
    have q : ((op : Int) == 5) = true := by rw [h5]; rfl
    clear h5 no
    go_enter Try.func124, Try.ntmps124
    go_wp2
    go_ret
    exact ⟨by rw [HF.out]; rfl, rfl⟩
  have q5 : ((op : Int) == 5) = false := no 5 h5
  by_cases h6 : op = 6
  · have HF : Hid (pairF op x y = w64 (x - y)) := hide (by rw [h6]; rfl)
    have q : ((op : Int) == 6) = true := by rw [h6]; rfl
    clear h5 h6 no
    go_enter Try.func124, Try.ntmps124
    go_wp2
    go_ret
    exact ⟨by rw [HF.out]; rfl, rfl⟩
  have q6 : ((op : Int) == 6) = false := no 6 h6
  by_cases h7 : op = 7
  · have HF : Hid (pairF op x y = w64 (x * y)) := hide (by rw [h7]; rfl)
    have q : ((op : Int) == 7) = true := by rw [h7]; rfl
    clear h5 h6 h7 no
    go_enter Try.func124, Try.ntmps124
    go_wp2
    go_ret
    exact ⟨by rw [HF.out]; rfl, rfl⟩
  have q7 : ((op : Int) == 7) = false := no 7 h7
  by_cases h8 : op = 8
  · have HF : Hid (pairF op x y = quoF x y) := hide (by rw [h8]; rfl)
    have q : ((op : Int) == 8) = true := by rw [h8]; rfl
    clear h5 h6 h7 h8 no
    go_enter Try.func124, Try.ntmps124
    go_wp2_with fail
    refine (HQ.out _).mono ?_
    rintro e w1 ⟨rfl, rfl⟩
    go_wp2
    go_ret
    exact ⟨by rw [HF.out]; rfl, rfl⟩
  have q8 : ((op : Int) == 8) = false := no 8 h8
  by_cases h9 : op = 9
  · have HF : Hid (pairF op x y = b2i (decide (x < y))) := hide (by rw [h9]; rfl)
    have q : ((op : Int) == 9) = true := by rw [h9]; rfl
    clear h5 h6 h7 h8 h9 no
    go_enter Try.func124, Try.ntmps124
    go_wp2_with fail
    refine (HN.out _ _).mono ?_
    rintro e w1 ⟨rfl, rfl⟩
    go_wp2
    go_ret
    exact ⟨by rw [HF.out]; rfl, rfl⟩
  have q9 : ((op : Int) == 9) = false := no 9 h9
  by_cases h10 : op = 10
  · have HF : Hid (pairF op x y = b2i (decide (x = y))) := hide (by rw [h10]; rfl)
    have q : ((op : Int) == 10) = true := by rw [h10]; rfl
    clear h5 h6 h7 h8 h9 h10 no
    go_enter Try.func124, Try.ntmps124
    go_wp2_with fail
    refine (HN.out _ _).mono ?_
    rintro e w1 ⟨rfl, rfl⟩
    go_wp2
    go_ret
    exact ⟨by rw [HF.out]; rfl, rfl⟩
  have q10 : ((op : Int) == 10) = false := no 10 h10
  have hcx : x = 0 ∨ (x != 0) = true := by by_cases e : x = 0 <;> simp [e]
  have hcy : y = 0 ∨ (y != 0) = true := by by_cases e : y = 0 <;> simp [e]
  by_cases h11 : op = 11
  · have HF : Hid (pairF op x y = b2i (decide (x ≠ 0) && decide (y ≠ 0))) := hide (by rw [h11]; rfl)
    have q : ((op : Int) == 11) = true := by rw [h11]; rfl
    clear h5 h6 h7 h8 h9 h10 h11 no
    rcases hcx with rfl | c1
    · go_enter Try.func124, Try.ntmps124
      go_wp2_with fail
      refine (HN.out _ _).mono ?_
      rintro e w1 ⟨rfl, rfl⟩
      go_wp2
      go_ret
      exact ⟨by rw [HF.out]; simp_all, rfl⟩
    · rcases hcy with rfl | c2
      all_goals
        go_enter Try.func124, Try.ntmps124
        go_wp2_with fail
        refine (HN.out _ _).mono ?_
        rintro e w1 ⟨rfl, rfl⟩
        go_wp2
        go_ret
        exact ⟨by rw [HF.out]; simp_all, rfl⟩
  have q11 : ((op : Int) == 11) = false := no 11 h11
  by_cases h12 : op = 12
  · have HF : Hid (pairF op x y = b2i (decide (x ≠ 0) || decide (y ≠ 0))) := hide (by rw [h12]; rfl)
    have q : ((op : Int) == 12) = true := by rw [h12]; rfl
    clear h5 h6 h7 h8 h9 h10 h11 h12 no
    rcases hcx with rfl | c1
    · rcases hcy with rfl | c2
      all_goals
        go_enter Try.func124, Try.ntmps124
        go_wp2_with fail
        refine (HN.out _ _).mono ?_
        rintro e w1 ⟨rfl, rfl⟩
        go_wp2
        go_ret
        exact ⟨by rw [HF.out]; simp_all, rfl⟩
    · go_enter Try.func124, Try.ntmps124
      go_wp2_with fail
      refine (HN.out _ _).mono ?_
      rintro e w1 ⟨rfl, rfl⟩
      go_wp2
      go_ret
      exact ⟨by rw [HF.out]; simp_all, rfl⟩
  have q12 : ((op : Int) == 12) = false := no 12 h12
  have HF : Hid (pairF op x y = 0) := hide (by unfold pairF; rw [if_neg h5, if_neg h6, if_neg h7, if_neg h8, if_neg h9, if_neg h10, if_neg h11, if_neg h12])
  clear h5 h6 h7 h8 h9 h10 h11 h12 no
  go_enter Try.func124, Try.ntmps124
  go_wp2
  go_ret
  exact ⟨by rw [HF.out]; rfl, rfl⟩
set_option maxHeartbeats 1000000 in
theorem element_any (w : World) (v : Value) (ins : List (List Int)) (h : LsAt w v ins) (i k : Nat) :
    Calls Try.prog 121 #[v, .int .i64 (i : Int), .int .i64 (k : Int)] w fun e w' => e = .returned (.int .i64 (elemF ins i k)) ∧ w = w' := by
  obtain ⟨A, C, rfl, hm, hc⟩ := h
  by_cases hi : i < ins.length
  · obtain ⟨b, o, rfl, hb, hr⟩ := hc (by omega)
    obtain ⟨x, hx, A', C', rfl, hm', hc'⟩ := hr i hi
    have j2 : ¬ (i : Int) ≥ (ins.length : Int) := by omega
    have i1 : (0 : Int) ≤ (i : Int) := by omega
    have i2 : (i : Int) < (ins.length : Int) := by omega
    by_cases hk : k < ins[i].length
    · obtain ⟨b', o', rfl, hb', hr'⟩ := hc' (by omega)
      have hv : elemF ins i k = ins[i][k] := by
        unfold elemF
        rw [List.getD_eq_getElem?_getD, List.getD_eq_getElem?_getD, List.getElem?_eq_getElem hi, Option.getD_some, List.getElem?_eq_getElem hk, Option.getD_some]
      have hx' := hr' k hk
      have HV := hide hv
      have k1 : (0 : Int) ≤ (k : Int) := by omega
      generalize ins[i][k] = z at hx' HV
      have k2 : (k : Int) < (ins[i].length : Int) := by omega
      have k3 : ¬ (k : Int) ≥ (ins[i].length : Int) := by omega
      clear hv hc hc' hr hr' hk
      generalize ins[i].length = n at *
      go_enter Try.func121, Try.ntmps121
      go_wp2
      go_ret
      exact ⟨by rw [HV.out]; rfl, rfl⟩
    · have hv : elemF ins i k = 0 := by
        unfold elemF
        rw [List.getD_eq_getElem?_getD, List.getD_eq_getElem?_getD, List.getElem?_eq_getElem hi, Option.getD_some, List.getElem?_eq_none (Nat.le_of_not_lt hk)]; rfl
      have HV := hide hv
      have k3 : (k : Int) ≥ (ins[i].length : Int) := by omega
      clear hv hc hc' hr
      generalize ins[i].length = n at *
      go_enter Try.func121, Try.ntmps121
      go_wp2
      go_ret
      exact ⟨by rw [HV.out]; rfl, rfl⟩
  · have hv : elemF ins i k = 0 := by
      unfold elemF
      have e : ins[i]? = none := List.getElem?_eq_none (Nat.le_of_not_lt hi)
      rw [List.getD_eq_getElem?_getD, List.getD_eq_getElem?_getD, e]; rfl
    have HV := hide hv
    have j2 : (i : Int) ≥ (ins.length : Int) := by omega
    clear hv hc
    go_enter Try.func121, Try.ntmps121
    go_wp2
    go_ret
    exact ⟨by rw [HV.out]; rfl, rfl⟩
end Go.Proofs.Ytmndgoapkmhglab
