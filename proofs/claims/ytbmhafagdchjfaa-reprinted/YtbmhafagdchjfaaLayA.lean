import Derived.Test.YtbmhafagdchjfaaWide
import Derived.Test.YtbmhafagdchjfaaJudM
namespace Go.Proofs.Ytbmhafagdchjfaa
open Go.RowKit
attribute [local go_sem ↓] Go.wp_at_zero Go.wp_at_succ
attribute [local go_sem] Try.fieldTok0 Try.fieldTok1 Try.fieldTok2

def sgnN (c : Nat) : Bool := c == 40 || c == 41 || c == 59 || c == 61
theorem sgn_nat (c : UInt8) : sgn c = sgnN c.toNat := by
  have h : ∀ d : UInt8, (c == d) = (c.toNat == d.toNat) := by
    intro d
    rw [Bool.eq_iff_iff]
    simp [UInt8.toNat_inj]
  unfold sgn sgnN
  rw [h, h, h, h]
  rfl

set_option maxHeartbeats 400000 in
theorem sign_any (c : Nat) (w : World) : Calls Try.prog 26 #[.int .u8 (c : Int)] w fun e w' => e = .returned (.bool (sgnN c)) ∧ w = w' := by
  by_cases h1 : c = 40
  · have HF : Hid (sgnN c = true) := hide (by rw [h1]; rfl)
    have q1 : ((c : Int) == 40) = true := by rw [h1]; rfl
    clear h1
    go_enter Try.func26, Try.ntmps26
    go_wp2
    go_ret
    exact ⟨by rw [HF.out]; rfl, rfl⟩
  have q1 : ((c : Int) == 40) = false := by rw [beq_eq_false_iff_ne]; omega
  by_cases h2 : c = 41
  · have HF : Hid (sgnN c = true) := hide (by rw [h2]; rfl)
    have q2 : ((c : Int) == 41) = true := by rw [h2]; rfl
    clear h1 h2
    go_enter Try.func26, Try.ntmps26
    go_wp2
    go_ret
    exact ⟨by rw [HF.out]; rfl, rfl⟩
  have q2 : ((c : Int) == 41) = false := by rw [beq_eq_false_iff_ne]; omega
  by_cases h3 : c = 59
  · have HF : Hid (sgnN c = true) := hide (by rw [h3]; rfl)
    have q3 : ((c : Int) == 59) = true := by rw [h3]; rfl
    clear h1 h2 h3
    go_enter Try.func26, Try.ntmps26
    go_wp2
    go_ret
    exact ⟨by rw [HF.out]; rfl, rfl⟩
  have q3 : ((c : Int) == 59) = false := by rw [beq_eq_false_iff_ne]; omega
  by_cases h4 : c = 61
  · have HF : Hid (sgnN c = true) := hide (by rw [h4]; rfl)
    have q4 : ((c : Int) == 61) = true := by rw [h4]; rfl
    clear h1 h2 h3 h4
    go_enter Try.func26, Try.ntmps26
    go_wp2
    go_ret
    exact ⟨by rw [HF.out]; rfl, rfl⟩
  have q4 : ((c : Int) == 61) = false := by rw [beq_eq_false_iff_ne]; omega
  have HF : Hid (sgnN c = false) := hide (by simp [sgnN, h1, h2, h3, h4])
  clear h1 h2 h3 h4
  go_enter Try.func26, Try.ntmps26
  go_wp2
  go_ret
  exact ⟨by rw [HF.out]; rfl, rfl⟩

/-- where the last ; stands, among the first bytes. -/
def lastN (s : ByteArray) : Nat → Int
  | 0 => -1
  | k + 1 => if byt s k = 59 then (k : Int) else lastN s k

set_option maxHeartbeats 400000 in
theorem last_any (s : ByteArray) (w : World) (hs : s.size ≤ maxLen) : Calls Try.prog 14 #[.string s] w fun e w' => e = .returned (.int .i64 (lastN s s.size)) ∧ w = w' := by
  unfold maxLen at hs
  go_enter Try.func14, Try.ntmps14
  go_wp2
  go_loop [3, 4] (fun a i => ∃ j : Nat, j ≤ s.size ∧ i = .int .i64 j ∧ a = .int .i64 (lastN s j)) (fun _ i => s.size - (intOf i).toNat)
  case atStart => exact ⟨0, Nat.zero_le _, rfl, rfl⟩
  case round =>
    obtain ⟨j, hj, rfl, rfl⟩ := hrel
    by_cases hlt : j < s.size
    · have eb := byt_eq s j hlt
      by_cases hb : byt s j = 59
      · have q1 : ((byt s j : Int) == 59) = true := by rw [hb]; rfl
        have HL : Hid (lastN s (j + 1) = (j : Int)) := hide (by unfold lastN; rw [if_pos hb])
        clear hb
        go_wp2
        go_round
        case rel => exact ⟨j + 1, by omega, by go_num, by rw [HL.out]⟩
        case measure => simp [intOf]; omega
      · have q1 : ((byt s j : Int) == 59) = false := by rw [beq_eq_false_iff_ne]; omega
        have HL : Hid (lastN s (j + 1) = lastN s j) := hide (by rw [lastN, if_neg hb])
        clear hb
        go_wp2
        go_round
        case rel => exact ⟨j + 1, by omega, by go_num, by rw [HL.out]⟩
        case measure => simp [intOf]; omega
    · have ej : j = s.size := by omega
      have HE := hide ej
      clear ej
      go_wp2
      go_ret
      exact ⟨by rw [HE.out]; rfl, rfl⟩

set_option maxHeartbeats 400000 in
theorem gap_any (a b : ByteArray) (w : World) : Calls Try.prog 40 #[.string a, .string b] w fun e w' => e = .returned (.string ⟨(gapL a.data.toList b.data.toList).toArray⟩) ∧ w = w' := by
  by_cases h1 : a.data.toList = [59]
  · have q1 := str_yes h1
    have HF : Hid (gapL a.data.toList b.data.toList = [10]) := hide (by unfold gapL; rw [if_pos h1])
    clear h1
    go_enter Try.func40, Try.ntmps40
    go_wp2
    go_ret
    exact ⟨by rw [HF.out]; rfl, rfl⟩
  have q1 := str_no h1
  by_cases h2 : a.data.toList = [40]
  · have q2 := str_yes h2
    have HF : Hid (gapL a.data.toList b.data.toList = []) := hide (by unfold gapL; rw [if_neg h1, if_pos (.inl h2)])
    clear h1 h2 q1
    go_enter Try.func40, Try.ntmps40
    go_wp2
    go_ret
    exact ⟨by rw [HF.out]; rfl, rfl⟩
  have q2 := str_no h2
  by_cases h3 : b.data.toList = [41]
  · have q3 := str_yes h3
    have HF : Hid (gapL a.data.toList b.data.toList = []) := hide (by unfold gapL; rw [if_neg h1, if_pos (.inr (.inl h3))])
    clear h1 h2 h3
    go_enter Try.func40, Try.ntmps40
    go_wp2
    go_ret
    exact ⟨by rw [HF.out]; rfl, rfl⟩
  have q3 := str_no h3
  by_cases h4 : b.data.toList = [59]
  · have q4 := str_yes h4
    have HF : Hid (gapL a.data.toList b.data.toList = []) := hide (by unfold gapL; rw [if_neg h1, if_pos (.inr (.inr h4))])
    clear h1 h2 h3 h4 q3
    go_enter Try.func40, Try.ntmps40
    go_wp2
    go_ret
    exact ⟨by rw [HF.out]; rfl, rfl⟩
  have q4 := str_no h4
  have HF : Hid (gapL a.data.toList b.data.toList = [32]) := hide (by unfold gapL; rw [if_neg h1, if_neg (by simp [h2, h3, h4])])
  clear h1 h2 h3 h4
  go_enter Try.func40, Try.ntmps40
  go_wp2
  go_ret
  exact ⟨by rw [HF.out]; rfl, rfl⟩

end Go.Proofs.Ytbmhafagdchjfaa
