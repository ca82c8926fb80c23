import Derived.Test.YtmndgoapkmhglaaDoorM07Wide
import Derived.Test.YtmndgoapkmhglaaDoorM36RefL
namespace Go.Proofs.YtmndgoapkmhglaaDoor
open Go.RowKit
attribute [local go_sem ↓] Go.wp_at_zero Go.wp_at_succ
attribute [local go_sem] Tryd.fieldTok0 Tryd.fieldTok1 Tryd.fieldTok2

set_option maxHeartbeats 400000 in
theorem gap_any (a b : ByteArray) (w : World) : Calls Tryd.prog 15 #[.string a, .string b] w fun e w' => e = .returned (.string ⟨(gapL a.data.toList b.data.toList).toArray⟩) ∧ w = w' := by
  by_cases h1 : a.data.toList = [59]
  · have q1 := str_yes h1
    have HF : Hid (gapL a.data.toList b.data.toList = [10]) := hide (by unfold gapL; rw [if_pos h1])
    clear h1
    go_enter Tryd.func15, Tryd.ntmps15
    go_wp2
    go_ret
    exact ⟨by rw [HF.out]; rfl, rfl⟩
  have q1 := str_no h1
  by_cases h2 : a.data.toList = [40]
  · have q2 := str_yes h2
    have HF : Hid (gapL a.data.toList b.data.toList = []) := hide (by unfold gapL; rw [if_neg h1, if_pos (.inl h2)])
    clear h1 h2 q1
    go_enter Tryd.func15, Tryd.ntmps15
    go_wp2
    go_ret
    exact ⟨by rw [HF.out]; rfl, rfl⟩
  have q2 := str_no h2
  by_cases h3 : b.data.toList = [41]
  · have q3 := str_yes h3
    have HF : Hid (gapL a.data.toList b.data.toList = []) := hide (by unfold gapL; rw [if_neg h1, if_pos (.inr (.inl h3))])
    clear h1 h2 h3
    go_enter Tryd.func15, Tryd.ntmps15
    go_wp2
    go_ret
    exact ⟨by rw [HF.out]; rfl, rfl⟩
  have q3 := str_no h3
  by_cases h4 : b.data.toList = [59]
  · have q4 := str_yes h4
    have HF : Hid (gapL a.data.toList b.data.toList = []) := hide (by unfold gapL; rw [if_neg h1, if_pos (.inr (.inr h4))])
    clear h1 h2 h3 h4 q3
    go_enter Tryd.func15, Tryd.ntmps15
    go_wp2
    go_ret
    exact ⟨by rw [HF.out]; rfl, rfl⟩
  have q4 := str_no h4
  have HF : Hid (gapL a.data.toList b.data.toList = [32]) := hide (by unfold gapL; rw [if_neg h1, if_neg (by simp [h2, h3, h4])])
  clear h1 h2 h3 h4
  go_enter Tryd.func15, Tryd.ntmps15
  go_wp2
  go_ret
  exact ⟨by rw [HF.out]; rfl, rfl⟩

end Go.Proofs.YtmndgoapkmhglaaDoor

namespace Go.Proofs.YtmndgoapkmhglaaDoor
open Go.RowKit
attribute [local go_sem ↓] Go.wp_at_zero Go.wp_at_succ
attribute [local go_sem] Tryd.fieldTok0 Tryd.fieldTok1 Tryd.fieldTok2

theorem trim_step (l : List UInt8) (k : Nat) (h : k + 1 < l.length) : trimL (l.drop k) = if l[k]'(by omega) = 48 then trimL (l.drop (k + 1)) else l.drop k := by
  rw [List.drop_eq_getElem_cons (show k < l.length by omega), List.drop_eq_getElem_cons h]
  rfl
theorem trim_end (l : List UInt8) (k : Nat) (h : l.length ≤ k + 1) : trimL (l.drop k) = l.drop k := by
  have hl : (l.drop k).length ≤ 1 := by rw [List.length_drop]; omega
  cases hd : l.drop k with
  | nil => rfl
  | cons c r =>
    cases r with
    | nil => rfl
    | cons d r => rw [hd] at hl; simp at hl

theorem extract_rest (s : ByteArray) (k : Nat) : s.extract k s.size = ⟨(s.data.toList.drop k).toArray⟩ := by
  apply ba_ext
  have hlen : s.data.toList.length = s.size := Array.length_toList
  rw [ByteArray.data_extract, Array.toList_extract, List.extract_eq_take_drop]
  rw [List.take_of_length_le (by rw [List.length_drop]; omega)]

set_option maxHeartbeats 1000000 in
set_option maxRecDepth 100000 in
theorem laybare_any (t : Tk) (w : World) (hs : t.text.size ≤ 1500) : Calls Tryd.prog 16 #[.agg #[.int .i64 (t.kind : Int), .int .i64 (t.pos : Int), .string t.text]] w fun e w' => e = .returned (.string ⟨(bareL t).toArray⟩) ∧ Below w.heap.size w w' := by
  by_cases hk : t.kind = 3
  · have q1 : ((t.kind : Int) != 3) = false := by rw [hk]; rfl
    have HB : Hid (bareL t = trimL t.text.data.toList) := hide (by unfold bareL; rw [if_pos hk]; rfl)
    clear hk
    go_enter Tryd.func16, Tryd.ntmps16
    go_wp2
    go_loop [3] (fun i => ∃ k : Nat, k ≤ t.text.size ∧ i = .int .i64 k ∧ trimL (t.text.data.toList.drop k) = trimL t.text.data.toList) (fun i => t.text.size - (intOf i).toNat)
    case atStart => exact ⟨0, Nat.zero_le _, rfl, rfl⟩
    case round =>
      obtain ⟨k, hk, rfl, hrec⟩ := hrel
      have hlen : t.text.data.toList.length = t.text.size := Array.length_toList
      by_cases hlt : k + 1 < t.text.size
      · have hlt2 : k < t.text.size := by omega
        have eb := byt_eq t.text k hlt2
        have hst := trim_step t.text.data.toList k (by omega)
        have hbb : (t.text.data.toList[k]'(by omega) = 48) ↔ byt t.text k = 48 := by
          unfold byt
          rw [List.getD_eq_getElem?_getD, List.getElem?_eq_getElem (by omega)]
          show _ ↔ (t.text.data.toList[k]'(by omega)).toNat = 48
          rw [show (48 : Nat) = (48 : UInt8).toNat from rfl, UInt8.toNat_inj]
        have j1 : (k : Int) < (t.text.size : Int) - 1 := by omega
        by_cases hb : byt t.text k = 48
        · have q2 : ((byt t.text k : Int) == 48) = true := by rw [hb]; rfl
          have HR : Hid (trimL (t.text.data.toList.drop (k + 1)) = trimL t.text.data.toList) := hide (by rw [← hrec, hst, if_pos (hbb.2 hb)])
          clear hb hrec hst hbb hlen
          go_wp2
          go_round
          case rel => exact ⟨k + 1, by omega, by go_num, HR.out⟩
          case measure => simp [intOf]; omega
        · have q2 : ((byt t.text k : Int) == 48) = false := by rw [beq_eq_false_iff_ne]; omega
          have HR : Hid (t.text.data.toList.drop k = trimL t.text.data.toList) := hide (by rw [← hrec, hst, if_neg (fun x => hb (hbb.1 x))])
          have i1 : (0 : Int) ≤ (k : Int) := by omega
          have i2 : (k : Int) ≤ (t.text.size : Int) := by omega
          clear hb hrec hst hbb hlen
          go_wp2
          go_ret
          refine ⟨?_, (Below.refl _ _).alloc (Nat.le_refl _) _⟩
          rw [HB.out, ← HR.out, ← extract_rest]
          rfl
      · have j1 : ¬ (k : Int) < (t.text.size : Int) - 1 := by omega
        have HR : Hid (t.text.data.toList.drop k = trimL t.text.data.toList) := hide (by rw [← hrec, trim_end _ _ (by omega)])
        have i1 : (0 : Int) ≤ (k : Int) := by omega
        have i2 : (k : Int) ≤ (t.text.size : Int) := by omega
        clear hrec hlen
        go_wp2
        go_ret
        refine ⟨?_, (Below.refl _ _).alloc (Nat.le_refl _) _⟩
        rw [HB.out, ← HR.out, ← extract_rest]
        rfl
  · have q1 : ((t.kind : Int) != 3) = true := by rw [bne_iff_ne]; omega
    have HB : Hid (bareL t = t.text.data.toList) := hide (by unfold bareL; rw [if_neg hk]; rfl)
    clear hk
    go_enter Tryd.func16, Tryd.ntmps16
    go_wp2
    go_ret
    refine ⟨?_, (Below.refl _ _).alloc (Nat.le_refl _) _⟩
    rw [HB.out]
    rfl

end Go.Proofs.YtmndgoapkmhglaaDoor
