import Derived.Test.YtmndgoapkmhglaaDoorM02Dig
namespace Go.Proofs.YtmndgoapkmhglaaDoor
open Go.RowKit


def rcl (c : Nat) : Nat := if c = 0 then 32 else if c = 1 then 97 else if c = 2 then 48 else if c = 3 then 115 else 120
def rcls (c : Nat) : Nat := rcl (cls c)

def signB : ByteArray := { data := #[40, 41, 59, 61, 43, 45, 42, 47, 60, 38, 124] }
theorem signB_at : ∀ k : Fin 11, (signB[k.1]'(k.2)).toNat = signL.getD k.1 0 := by decide
theorem sign_hit {k c : Nat} (h : k < 11) (h1 : (((signB[k]'h).toNat : Int) == (c : Int)) = true) : signL.contains c = true := by
  have e := signB_at ⟨k, h⟩
  simp only [beq_iff_eq, Int.natCast_inj] at h1
  simp only at e
  rw [e] at h1
  subst h1
  have : ∀ k : Fin 11, signL.contains (signL.getD k.1 0) = true := by decide
  exact this ⟨k, h⟩
theorem sign_miss {k c : Nat} (h : k < 11) (h1 : (((signB[k]'h).toNat : Int) == (c : Int)) = false) : signL.getD k 0 ≠ c := by
  have e := signB_at ⟨k, h⟩
  simp only at e
  rw [← e]
  intro h2
  rw [h2] at h1
  simp at h1
theorem sign_none {c : Nat} (h : ∀ j, j < 11 → signL.getD j 0 ≠ c) : signL.contains c = false := by
  rw [List.contains_eq_mem]
  simp only [decide_eq_false_iff_not]
  intro hm
  obtain ⟨j, hj, e⟩ := List.getElem_of_mem hm
  refine h j hj ?_
  rw [List.getD_eq_getElem?_getD, List.getElem?_eq_getElem hj]
  exact e

set_option maxHeartbeats 400000 in
theorem refclass_any (c : Nat) (w : World) :
    Calls Tryd.prog 37 #[.int .u8 (c : Int)] w fun e w' => e = .returned (.int .u8 (rcls c : Nat)) ∧ w = w' := by
  by_cases h1 : 97 ≤ c ∧ c ≤ 122
  · have HF : Hid (rcls c = 97) := hide (by rw [rcls, cls_1 h1.1 h1.2]; rfl)
    obtain ⟨h1, h2⟩ := h1
    go_enter Tryd.func37, Tryd.ntmps37
    go_wp2
    go_ret
    exact ⟨by rw [HF.out]; rfl, rfl⟩
  by_cases h2 : 48 ≤ c ∧ c ≤ 57
  · have HF : Hid (rcls c = 48) := hide (by rw [rcls, cls_2 h2.1 h2.2]; rfl)
    obtain ⟨h2, h3⟩ := h2
    clear h1
    go_enter Tryd.func37, Tryd.ntmps37
    go_wp2
    go_ret
    exact ⟨by rw [HF.out]; rfl, rfl⟩
  by_cases h3 : c = 32
  · subst h3
    go_enter Tryd.func37, Tryd.ntmps37
    go_wp2
    go_ret
    exact ⟨rfl, rfl⟩
  by_cases h4 : c = 10
  · subst h4
    go_enter Tryd.func37, Tryd.ntmps37
    go_wp2
    go_ret
    exact ⟨rfl, rfl⟩
  have HF : Hid (rcls c = if signL.contains c then 115 else 120) := hide (by rw [rcls, cls_34 h1 h2 h3 h4]; split <;> rfl)
  have k3 : ((c : Int) == 32) = false := by simp; omega
  have k4 : ((c : Int) == 10) = false := by simp; omega
  have hiv : c < 48 ∨ (57 < c ∧ c < 97) ∨ 122 < c := by omega
  clear h3 h4 h1 h2
  rcases hiv with h | ⟨h, h'⟩ | h
  all_goals
    go_enter Tryd.func37, Tryd.ntmps37
    go_wp2
    go_loop [4] (fun i => ∃ k : Nat, k ≤ 11 ∧ i = .int .i64 k ∧ ∀ j, j < k → signL.getD j 0 ≠ c) (fun i => 11 - (intOf i).toNat)
    case atStart => exact ⟨0, by omega, rfl, by intro j hj; omega⟩
    case round =>
      obtain ⟨k, hk, rfl, hne⟩ := hrel
      have HN := hide hne
      clear hne
      by_cases hlt : k < 11
      · go_wp2
        · go_ret
          exact ⟨ret_intN (by rw [HF.out, if_pos (sign_hit hlt ‹_›)]; rfl), rfl⟩
        · refine ⟨⟨k + 1, by omega, by go_num, fun j hj => ?_⟩, by simp [intOf]; omega⟩
          by_cases e : j = k
          · subst e; exact sign_miss hlt ‹_›
          · exact HN.out j (by omega)
      · have ek : k = 11 := by omega
        subst ek
        go_wp2
        go_ret
        exact ⟨ret_intN (by rw [HF.out, if_neg (by rw [sign_none HN.out]; simp)]; rfl), rfl⟩

end Go.Proofs.YtmndgoapkmhglaaDoor

namespace Go.Proofs.YtmndgoapkmhglaaDoor
open Go.RowKit

set_option maxHeartbeats 1000000 in
theorem classOf_any (c : Nat) (w : World) :
    Calls Tryd.prog 34 #[.int .u8 (c : Int)] w fun e w' => e = .returned (.int .i64 (cls c : Nat)) ∧ w = w' := by
  have hiv : c = 32 ∨ c = 10 ∨ (97 ≤ c ∧ c ≤ 122) ∨ (48 ≤ c ∧ c ≤ 57) ∨ ((c ≠ 32 ∧ c ≠ 10) ∧ (c < 48 ∨ (57 < c ∧ c < 97) ∨ 122 < c)) := by omega
  rcases hiv with h | h | ⟨h, h'⟩ | ⟨h, h'⟩ | ⟨⟨h3, h4⟩, hh⟩
  · subst h
    go_enter Tryd.func34, Tryd.ntmps34
    go_wp2
    go_ret
    exact ⟨rfl, rfl⟩
  · subst h
    go_enter Tryd.func34, Tryd.ntmps34
    go_wp2
    go_ret
    exact ⟨rfl, rfl⟩
  · have HF : Hid (cls c = 1) := hide (by unfold cls; rw [if_neg (by omega), if_pos ⟨h, h'⟩])
    have k3 : ((c : Int) == 32) = false := by simp; omega
    have k4 : ((c : Int) == 10) = false := by simp; omega
    go_enter Tryd.func34, Tryd.ntmps34
    go_wp2
    go_ret
    exact ⟨by rw [HF.out]; rfl, rfl⟩
  · have HF : Hid (cls c = 2) := hide (by unfold cls; rw [if_neg (by omega), if_neg (by omega), if_pos ⟨h, h'⟩])
    have k3 : ((c : Int) == 32) = false := by simp; omega
    have k4 : ((c : Int) == 10) = false := by simp; omega
    go_enter Tryd.func34, Tryd.ntmps34
    go_wp2
    go_ret
    exact ⟨by rw [HF.out]; rfl, rfl⟩
  · have k3 : ((c : Int) == 32) = false := by simp; omega
    have k4 : ((c : Int) == 10) = false := by simp; omega
    by_cases hs : signL.contains c = true
    · have HF : Hid (cls c = 3) := hide (by unfold cls; rw [if_neg (by omega), if_neg (by omega), if_neg (by omega), if_pos hs])
      have hc : c = 40 ∨ c = 41 ∨ c = 59 ∨ c = 61 ∨ c = 43 ∨ c = 45 ∨ c = 42 ∨ c = 47 ∨ c = 60 ∨ c = 38 ∨ c = 124 := by simpa [signL] using hs
      clear hs h3 h4 hh k3 k4
      rcases hc with rfl | rfl | rfl | rfl | rfl | rfl | rfl | rfl | rfl | rfl | rfl
      all_goals
        go_enter Tryd.func34, Tryd.ntmps34
        go_wp2
        go_ret
        exact ⟨by rw [HF.out]; rfl, rfl⟩
    · have HF : Hid (cls c = 4) := hide (by unfold cls; rw [if_neg (by omega), if_neg (by omega), if_neg (by omega), if_neg hs])
      have hc : ¬ (c = 40 ∨ c = 41 ∨ c = 59 ∨ c = 61 ∨ c = 43 ∨ c = 45 ∨ c = 42 ∨ c = 47 ∨ c = 60 ∨ c = 38 ∨ c = 124) := by simpa [signL] using hs
      have q1 : ((c : Int) == 40) = false := by simp; omega
      have q2 : ((c : Int) == 41) = false := by simp; omega
      have q3 : ((c : Int) == 59) = false := by simp; omega
      have q4 : ((c : Int) == 61) = false := by simp; omega
      have q5 : ((c : Int) == 43) = false := by simp; omega
      have q6 : ((c : Int) == 45) = false := by simp; omega
      have q7 : ((c : Int) == 42) = false := by simp; omega
      have q8 : ((c : Int) == 47) = false := by simp; omega
      have q9 : ((c : Int) == 60) = false := by simp; omega
      have q10 : ((c : Int) == 38) = false := by simp; omega
      have q11 : ((c : Int) == 124) = false := by simp; omega
      clear hs h3 h4 hc
      rcases hh with h | ⟨h, h'⟩ | h
      all_goals
        go_enter Tryd.func34, Tryd.ntmps34
        go_wp2
        go_ret
        exact ⟨by rw [HF.out]; rfl, rfl⟩

set_option maxHeartbeats 400000 in
theorem runEnd_any (s : ByteArray) (k cl : Nat) (w : World) (hs : s.size ≤ maxLen) (hk : k ≤ s.size) :
    Calls Tryd.prog 35 #[.string s, .int .i64 (k : Int), .int .i64 (cl : Int)] w fun e w' =>
      e = .returned (.int .i64 ((if cl = 1 ∨ cl = 2 then runTo s cl (s.size - k) k else k : Nat) : Int)) ∧ w = w' := by
  unfold maxLen at hs
  by_cases hc : cl = 1 ∨ cl = 2
  · rw [if_pos hc]
    have hq : ((cl : Int) != 1) = false ∨ (((cl : Int) != 1) = true ∧ ((cl : Int) != 2) = false) := by
      rcases hc with rfl | rfl
      · left; rfl
      · right; exact ⟨rfl, rfl⟩
    clear hc
    rcases hq with q1 | ⟨q1, q2⟩
    all_goals
      go_enter Tryd.func35, Tryd.ntmps35
      go_wp2
      go_loop [1] (fun i => ∃ j : Nat, k ≤ j ∧ j ≤ s.size ∧ i = .int .i64 j ∧ runTo s cl (s.size - k) k = runTo s cl (s.size - j) j) (fun i => s.size - (intOf i).toNat)
      case atStart => exact ⟨k, Nat.le_refl _, hk, rfl, rfl⟩
      case round =>
        obtain ⟨j, hj1, hj2, rfl, hj3⟩ := hrel
        have HJ := hide hj3
        clear hj3
        by_cases hlt : j < s.size
        · have eb := byt_eq s j hlt
          by_cases hcc : cls (byt s j) = cl
          · have hb : ((cls (byt s j) : Int) == (cl : Int)) = true := by rw [hcc]; simp
            have HC := hide hcc
            clear hcc
            go_wp2_with (go_at_call 34; refine (classOf_any _ _).mono ?_; rintro e w' ⟨rfl, rfl⟩)
            go_round
            case rel => exact ⟨j + 1, by omega, by omega, by go_num, by rw [HJ.out, runTo_step s cl j hlt HC.out]⟩
            case measure => simp [intOf]; omega
          · have hb : ((cls (byt s j) : Int) == (cl : Int)) = false := by rw [beq_eq_false_iff_ne]; omega
            go_wp2_with (go_at_call 34; refine (classOf_any _ _).mono ?_; rintro e w' ⟨rfl, rfl⟩)
            go_ret
            exact ⟨ret_intN (by rw [HJ.out, runTo_stop s cl _ j (by rintro ⟨_, h⟩; exact hcc h)]), rfl⟩
        · go_wp2
          go_ret
          exact ⟨ret_intN (by rw [HJ.out, runTo_stop s cl _ j (by omega)]), rfl⟩
  · rw [if_neg hc]
    have q1 : ((cl : Int) != 1) = true := by rw [bne_iff_ne]; omega
    have q2 : ((cl : Int) != 2) = true := by rw [bne_iff_ne]; omega
    clear hc
    go_enter Tryd.func35, Tryd.ntmps35
    go_wp2
    go_ret
    exact ⟨rfl, rfl⟩

set_option maxHeartbeats 1000000 in
theorem wordKind_any (t : ByteArray) (w : World) (ht : t.size ≤ maxLen) :
    Calls Tryd.prog 57 #[.string t] w fun e w' => e = .returned (.int .i64 (wordK t.data.toList : Nat)) ∧ w = w' := by
  by_cases hk : keptL.contains t.data.toList = true
  · have HF : Hid (wordK t.data.toList = 2) := hide (by unfold wordK; rw [if_pos hk])
    have hc : t.data.toList = kIn ∨ t.data.toList = kInt ∨ t.data.toList = kBool ∨ t.data.toList = kAt ∨ t.data.toList = kIf ∨ t.data.toList = kFby ∨ t.data.toList = kNot ∨ t.data.toList = kTrue ∨ t.data.toList = kFalse := by
      simpa [keptL] using hk
    clear hk
    rcases hc with h | h | h | h | h | h | h | h | h
    all_goals
      have et := str_yes h
      simp only [kIn, kInt, kBool, kAt, kIf, kFby, kNot, kTrue, kFalse] at et
      clear h
      go_enter Tryd.func57, Tryd.ntmps57
      go_wp2
      go_ret
      exact ⟨ret_intN (by rw [HF.out]; rfl), rfl⟩
  · have hn : ∀ l ∈ keptL, (t.toList == l) = false := fun l hl => str_no (by rintro rfl; exact hk (by simpa using hl))
    have n1 := hn kIn (by simp [keptL])
    have n2 := hn kInt (by simp [keptL])
    have n3 := hn kBool (by simp [keptL])
    have n4 := hn kAt (by simp [keptL])
    have n5 := hn kIf (by simp [keptL])
    have n6 := hn kFby (by simp [keptL])
    have n7 := hn kNot (by simp [keptL])
    have n8 := hn kTrue (by simp [keptL])
    have n9 := hn kFalse (by simp [keptL])
    simp only [kIn, kInt, kBool, kAt, kIf, kFby, kNot, kTrue, kFalse] at n1 n2 n3 n4 n5 n6 n7 n8 n9
    have HF : Hid (wordK t.data.toList = if 8 < t.size then 5 else 1) := hide (by unfold wordK; rw [if_neg hk, size_len])
    clear hn hk
    unfold maxLen at ht
    by_cases h8 : 8 < t.size
    all_goals
      go_enter Tryd.func57, Tryd.ntmps57
      go_wp2
      go_ret
      refine ⟨ret_intN ?_, rfl⟩
      rw [HF.out]
    · rw [if_pos h8]; rfl
    · rw [if_neg h8]; rfl

set_option maxHeartbeats 400000 in
theorem numberKind_any (t : ByteArray) (w : World) (ht : t.size ≤ maxLen) :
    Calls Tryd.prog 58 #[.string t] w fun e w' => e = .returned (.int .i64 (numK t.data.toList : Nat)) ∧ w = w' := by
  have HF : Hid (numK t.data.toList = if 18 < t.size then 5 else 3) := hide (by unfold numK; rw [size_len])
  unfold maxLen at ht
  by_cases h8 : 18 < t.size
  all_goals
    go_enter Tryd.func58, Tryd.ntmps58
    go_wp2
    go_ret
    refine ⟨ret_intN ?_, rfl⟩
    rw [HF.out]
  · rw [if_pos h8]; rfl
  · rw [if_neg h8]; rfl

set_option maxHeartbeats 400000 in
theorem kindOf_any (t : ByteArray) (cl : Nat) (w : World) (ht : t.size ≤ maxLen) (hcl : cl ≤ 4) :
    Calls Tryd.prog 36 #[.string t, .int .i64 (cl : Int)] w fun e w' => e = .returned (.int .i64 (kindB t cl : Nat)) ∧ w = w' := by
  have hc : cl = 0 ∨ cl = 1 ∨ cl = 2 ∨ cl = 3 ∨ cl = 4 := by omega
  clear hcl
  rcases hc with rfl | rfl | rfl | rfl | rfl
  all_goals
    go_enter Tryd.func36, Tryd.ntmps36
    go_wp2_with (first | (go_at_call 57; refine (wordKind_any _ _ ht).mono ?_; rintro e w' ⟨rfl, rfl⟩) | (go_at_call 58; refine (numberKind_any _ _ ht).mono ?_; rintro e w' ⟨rfl, rfl⟩))
    go_ret
    exact ⟨ret_intN (by simp [kindB, kindK]), rfl⟩

end Go.Proofs.YtmndgoapkmhglaaDoor
