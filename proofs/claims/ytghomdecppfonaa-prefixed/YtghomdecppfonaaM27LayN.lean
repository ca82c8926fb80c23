import Derived.Test.YtghomdecppfonaaM15JudN
import Derived.Test.YtghomdecppfonaaM26LayC
namespace Go.Proofs.Ytghomdecppfonaa
open Go.RowKit
attribute [local go_sem ↓] Go.wp_at_zero Go.wp_at_succ

/-- what Print lays out. -/
def printF (s : ByteArray) : ByteArray := if (textF s).1 = 0 then outF s else ⟨#[]⟩

theorem text_short {s : ByteArray} (h : (textF s).1 = 0) : s.size ≤ 1500 := by
  by_cases hs : 1500 < s.size
  · exfalso; unfold textF at h; rw [if_pos hs] at h; cases h
  · omega

set_option maxHeartbeats 1000000 in
set_option maxRecDepth 100000 in
theorem print_any (s : ByteArray) (w : World) (hs : s.size ≤ maxLen) :
    Calls Try.prog 14 #[.string s] w fun e w' => e = .returned (.tuple #[.string (printF s), .int .i64 ((textF s).1 : Int)]) ∧ Below w.heap.size w w' := by
  go_enter Try.func14, Try.ntmps14
  go_wp2_with fail
  refine (text_any s w hs (fun h p hp => good_parse s h p hp)).mono ?_
  rintro e w1 ⟨⟨vd, vn, rfl, hr⟩, hb1⟩
  have hv : (∃ a n c, vd = .slice a n c) ∧ (∃ a n c, vn = .slice a n c) := by
    rcases hr with ⟨_, rfl, rfl⟩ | ⟨_, p, _, h1, h2, _⟩
    · exact ⟨⟨_, _, _, rfl⟩, ⟨_, _, _, rfl⟩⟩
    · exact ⟨h1, h2⟩
  obtain ⟨⟨a1, n1, c1, rfl⟩, ⟨a2, n2, c2, rfl⟩⟩ := hv
  clear hr hs
  by_cases he : (textF s).1 = 0
  · have q1 : (((textF s).1 : Int) != 0) = false := by rw [he]; rfl
    have HP : Hid (printF s = outF s) := hide (by unfold printF; rw [if_pos he])
    have HE := hide he
    have hs' := text_short he
    clear he
    go_wp2_with fail
    refine (out_any s _ hs').mono ?_
    rintro e w2 ⟨rfl, hb2⟩
    go_wp2_with fail
    go_ret2
    exact ⟨by rw [HP.out, HE.out]; rfl, (hb1.alloc hb1.size _).trans (hb2.mono (by have := hb1.size; simp; omega))⟩
  · have q1 : (((textF s).1 : Int) != 0) = true := by rw [bne_iff_ne]; omega
    have HP : Hid (printF s = ⟨#[]⟩) := hide (by unfold printF; rw [if_neg he])
    clear he
    go_wp2_with fail
    go_ret2
    exact ⟨by rw [HP.out]; rfl, hb1.alloc hb1.size _⟩

end Go.Proofs.Ytghomdecppfonaa

namespace Go.Proofs.Ytghomdecppfonaa
open Go.RowKit
attribute [local go_sem ↓] Go.wp_at_zero Go.wp_at_succ
attribute [local go_sem] Try.fieldTok0 Try.fieldTok1 Try.fieldTok2

def sgnN (c : Nat) : Bool := c == 40 || c == 41 || c == 59 || c == 61
theorem sgn_nat (c : UInt8) : sgn c = sgnN c.toNat := by
  have h : ∀ d : UInt8, (c == d) = (c.toNat == d.toNat) := by
    intro d
    rw [Bool.eq_iff_iff]
    simp [UInt8.toNat_inj]
  unfold sgn sgnN
  rw [h, h, h, h]
  rfl

set_option maxHeartbeats 400000 in
theorem sign_any (c : Nat) (w : World) : Calls Try.prog 34 #[.int .u8 (c : Int)] w fun e w' => e = .returned (.bool (sgnN c)) ∧ w = w' := by
  by_cases h1 : c = 40
  · have HF : Hid (sgnN c = true) := hide (by rw [h1]; rfl)
    have q1 : ((c : Int) == 40) = true := by rw [h1]; rfl
    clear h1
    go_enter Try.func34, Try.ntmps34
    go_wp2
    go_ret
    exact ⟨by rw [HF.out]; rfl, rfl⟩
  have q1 : ((c : Int) == 40) = false := by rw [beq_eq_false_iff_ne]; omega
  by_cases h2 : c = 41
  · have HF : Hid (sgnN c = true) := hide (by rw [h2]; rfl)
    have q2 : ((c : Int) == 41) = true := by rw [h2]; rfl
    clear h1 h2
    go_enter Try.func34, Try.ntmps34
    go_wp2
    go_ret
    exact ⟨by rw [HF.out]; rfl, rfl⟩
  have q2 : ((c : Int) == 41) = false := by rw [beq_eq_false_iff_ne]; omega
  by_cases h3 : c = 59
  · have HF : Hid (sgnN c = true) := hide (by rw [h3]; rfl)
    have q3 : ((c : Int) == 59) = true := by rw [h3]; rfl
    clear h1 h2 h3
    go_enter Try.func34, Try.ntmps34
    go_wp2
    go_ret
    exact ⟨by rw [HF.out]; rfl, rfl⟩
  have q3 : ((c : Int) == 59) = false := by rw [beq_eq_false_iff_ne]; omega
  by_cases h4 : c = 61
  · have HF : Hid (sgnN c = true) := hide (by rw [h4]; rfl)
    have q4 : ((c : Int) == 61) = true := by rw [h4]; rfl
    clear h1 h2 h3 h4
    go_enter Try.func34, Try.ntmps34
    go_wp2
    go_ret
    exact ⟨by rw [HF.out]; rfl, rfl⟩
  have q4 : ((c : Int) == 61) = false := by rw [beq_eq_false_iff_ne]; omega
  have HF : Hid (sgnN c = false) := hide (by simp [sgnN, h1, h2, h3, h4])
  clear h1 h2 h3 h4
  go_enter Try.func34, Try.ntmps34
  go_wp2
  go_ret
  exact ⟨by rw [HF.out]; rfl, rfl⟩

/-- where the last ; stands, among the first bytes. -/
def lastN (s : ByteArray) : Nat → Int
  | 0 => -1
  | k + 1 => if byt s k = 59 then (k : Int) else lastN s k

set_option maxHeartbeats 400000 in
theorem last_any (s : ByteArray) (w : World) (hs : s.size ≤ maxLen) : Calls Try.prog 17 #[.string s] w fun e w' => e = .returned (.int .i64 (lastN s s.size)) ∧ w = w' := by
  unfold maxLen at hs
  go_enter Try.func17, Try.ntmps17
  go_wp2
  go_loop [3, 4] (fun a i => ∃ j : Nat, j ≤ s.size ∧ i = .int .i64 j ∧ a = .int .i64 (lastN s j)) (fun _ i => s.size - (intOf i).toNat)
  case atStart => exact ⟨0, Nat.zero_le _, rfl, rfl⟩
  case round =>
    obtain ⟨j, hj, rfl, rfl⟩ := hrel
    by_cases hlt : j < s.size
    · have eb := byt_eq s j hlt
      by_cases hb : byt s j = 59
      · have q1 : ((byt s j : Int) == 59) = true := by rw [hb]; rfl
        have HL : Hid (lastN s (j + 1) = (j : Int)) := hide (by unfold lastN; rw [if_pos hb])
        clear hb
        go_wp2
        go_round
        case rel => exact ⟨j + 1, by omega, by go_num, by rw [HL.out]⟩
        case measure => simp [intOf]; omega
      · have q1 : ((byt s j : Int) == 59) = false := by rw [beq_eq_false_iff_ne]; omega
        have HL : Hid (lastN s (j + 1) = lastN s j) := hide (by rw [lastN, if_neg hb])
        clear hb
        go_wp2
        go_round
        case rel => exact ⟨j + 1, by omega, by go_num, by rw [HL.out]⟩
        case measure => simp [intOf]; omega
    · have ej : j = s.size := by omega
      have HE := hide ej
      clear ej
      go_wp2
      go_ret
      exact ⟨by rw [HE.out]; rfl, rfl⟩

end Go.Proofs.Ytghomdecppfonaa

namespace Go.Proofs.Ytghomdecppfonaa
open Go.RowKit
attribute [local go_sem ↓] Go.wp_at_zero Go.wp_at_succ

theorem check_all (s : ByteArray) (w : World) (hs : s.size ≤ maxLen) :
    Calls Try.prog 10 #[.string s] w fun e w' => e = .returned (.tuple #[.int .i64 ((textF s).1 : Int), .int .i64 ((textF s).2 : Int)]) ∧ Below w.heap.size w w' :=
  check_any s w hs (fun h p hp => good_parse s h p hp)

def ansA : ByteArray := { data := #[105, 110, 32, 97, 59, 105, 110, 116, 32, 120, 32, 97, 116, 32, 48, 61, 40, 97, 43, 40, 48, 32, 102, 98, 121, 32, 120, 41, 41, 59] }
def ansB : ByteArray := { data := #[105, 110, 116, 32, 120, 32, 97, 116, 32, 48, 61, 120, 59] }
theorem ansA_text : textF ansA = (0, 0) := by decide +kernel
theorem ansB_text : textF ansB = (6, 4) := by decide +kernel

set_option maxHeartbeats 1000000 in
set_option maxRecDepth 100000 in
theorem answers_any (w : World) : Calls Try.prog 13 #[] w fun e w' => e = .returned (.bool true) ∧ Below w.heap.size w w' := by
  have cA := check_all ansA w (by decide)
  rw [ansA_text] at cA
  have cB := fun w => check_all ansB w (by decide)
  rw [ansB_text] at cB
  unfold ansA at cA
  unfold ansB at cB
  go_enter Try.func13, Try.ntmps13
  go_wp2_with fail
  refine cA.mono ?_
  rintro e w1 ⟨rfl, hb1⟩
  clear cA
  go_wp2_with fail
  refine (cB _).mono ?_
  rintro e w2 ⟨rfl, hb2⟩
  clear cB
  go_wp2_with fail
  go_ret
  exact ⟨rfl, hb1.trans (hb2.mono hb1.size)⟩

end Go.Proofs.Ytghomdecppfonaa
