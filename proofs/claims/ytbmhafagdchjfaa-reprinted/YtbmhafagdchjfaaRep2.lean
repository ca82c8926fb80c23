import Derived.Test.YtbmhafagdchjfaaRep
namespace Go.Proofs.Ytbmhafagdchjfaa
open Go.RowKit
attribute [local go_sem ↓] Go.wp_at_zero Go.wp_at_succ

theorem outF_size (s : ByteArray) (hs : s.size ≤ 1500) : (outF s).size ≤ 3000000 := by
  have h1 := out_len s hs (toks s).length
  have h2 := (toks_ok s hs).1
  have h3 : (outF s).size = (outN (toks s) (toks s).length).length := size_mk _
  rw [h3]
  have h4 : (toks s).length * 1501 ≤ 1501 * 1501 := Nat.mul_le_mul_right _ h2
  omega

set_option maxHeartbeats 4000000 in
set_option maxRecDepth 100000 in
theorem reprinted_any (s : ByteArray) (w : World) (hs : s.size ≤ maxLen) :
    Calls Try.prog 4 #[.string s] w fun e w' => e = .returned (.bool true) ∧ Below w.heap.size w w' := by
  have c1 := fun w => check_all s w hs
  have pr1 := fun w => print_any s w hs
  by_cases he : (textF s).1 = 0
  · have hsz := text_short he
    have hos := outF_size s hsz
    have b1 := fun w => bare_any s w (by omega)
    have b2 := fun w => bare_any (outF s) w hos
    rw [out_bare s hsz he] at b2
    have hpf : printF s = outF s := by unfold printF; rw [if_pos he]
    rw [hpf, he] at pr1
    rw [he] at c1
    have c2 := fun w => check_all (outF s) w (by unfold maxLen; omega)
    have pr2 := fun w => print_any (outF s) w (by unfold maxLen; omega)
    have ho : (outF s).size ≤ 1500 → (textF (outF s)).1 = 0 ∧ printF (outF s) = outF s := fun h => by
      have h0 : (textF (outF s)).1 = 0 := (out_text s hsz h).trans he
      exact ⟨h0, by unfold printF; rw [if_pos h0, out_out]⟩
    obtain ⟨O, hO⟩ : ∃ O, O = outF s := ⟨_, rfl⟩
    rw [← hO] at b2 pr1 c2 pr2 ho hos
    obtain ⟨x1, hx1⟩ : ∃ x, x = (textF s).2 := ⟨_, rfl⟩
    rw [← hx1] at c1
    clear hO hpf he hx1
    by_cases hl : O.size ≤ 1500
    · obtain ⟨h0, hp⟩ := ho hl
      rw [h0] at c2
      rw [hp, h0] at pr2
      have q1 : ¬ (1500 : Int) < (O.size : Int) := by omega
      obtain ⟨y1, hy1⟩ : ∃ x, x = (textF O).2 := ⟨_, rfl⟩
      rw [← hy1] at c2
      clear ho hp h0 hl hy1
      go_enter Try.func4, Try.ntmps4
      go_wp2_with fail
      refine (answers_any _).mono ?_
      rintro e w1 ⟨rfl, hb1⟩
      go_wp2_with fail
      refine (c1 _).mono ?_
      rintro e w2 ⟨rfl, hb2⟩
      have hB2 : Below w.heap.size w w2 := hb1.trans (hb2.mono hb1.size)
      clear hb1 hb2 c1
      go_wp2_with fail
      refine (pr1 _).mono ?_
      rintro e w3 ⟨rfl, hb3⟩
      have hB3 : Below w.heap.size w w3 := hB2.trans (hb3.mono hB2.size)
      clear hB2 hb3 pr1
      go_wp2_with fail
      refine (b1 _).mono ?_
      rintro e w4 ⟨rfl, hb4⟩
      have hB4 : Below w.heap.size w w4 := hB3.trans (hb4.mono hB3.size)
      clear hB3 hb4 b1
      go_wp2_with fail
      refine (b2 _).mono ?_
      rintro e w5 ⟨rfl, hb5⟩
      have hB5 : Below w.heap.size w w5 := hB4.trans (hb5.mono hB4.size)
      clear hB4 hb5 b2
      go_wp2_with fail
      refine (c2 _).mono ?_
      rintro e w6 ⟨rfl, hb6⟩
      have hB6 : Below w.heap.size w w6 := hB5.trans (hb6.mono hB5.size)
      clear hB5 hb6 c2
      go_wp2_with fail
      refine (pr2 _).mono ?_
      rintro e w7 ⟨rfl, hb7⟩
      have hB7 : Below w.heap.size w w7 := hB6.trans (hb7.mono hB6.size)
      clear hB6 hb7 pr2
      go_wp2_with fail
      go_ret
      exact ⟨rfl, hB7⟩
    · have q1 : (1500 : Int) < (O.size : Int) := by omega
      clear ho hl c2 pr2
      go_enter Try.func4, Try.ntmps4
      go_wp2_with fail
      refine (answers_any _).mono ?_
      rintro e w1 ⟨rfl, hb1⟩
      go_wp2_with fail
      refine (c1 _).mono ?_
      rintro e w2 ⟨rfl, hb2⟩
      have hB2 : Below w.heap.size w w2 := hb1.trans (hb2.mono hb1.size)
      clear hb1 hb2 c1
      go_wp2_with fail
      refine (pr1 _).mono ?_
      rintro e w3 ⟨rfl, hb3⟩
      have hB3 : Below w.heap.size w w3 := hB2.trans (hb3.mono hB2.size)
      clear hB2 hb3 pr1
      go_wp2_with fail
      refine (b1 _).mono ?_
      rintro e w4 ⟨rfl, hb4⟩
      have hB4 : Below w.heap.size w w4 := hB3.trans (hb4.mono hB3.size)
      clear hB3 hb4 b1
      go_wp2_with fail
      refine (b2 _).mono ?_
      rintro e w5 ⟨rfl, hb5⟩
      have hB5 : Below w.heap.size w w5 := hB4.trans (hb5.mono hB4.size)
      clear hB4 hb5 b2
      go_wp2_with fail
      go_ret
      exact ⟨rfl, hB5⟩
  · have hpf : printF s = ⟨#[]⟩ := by unfold printF; rw [if_neg he]
    rw [hpf] at pr1
    have q1 : (((textF s).1 : Int) != 0) = true := by rw [bne_iff_ne]; omega
    obtain ⟨x0, hx0⟩ : ∃ x, x = (textF s).1 := ⟨_, rfl⟩
    rw [← hx0] at c1 pr1 q1
    clear hpf he hx0
    go_enter Try.func4, Try.ntmps4
    go_wp2_with fail
    refine (answers_any _).mono ?_
    rintro e w1 ⟨rfl, hb1⟩
    go_wp2_with fail
    refine (c1 _).mono ?_
    rintro e w2 ⟨rfl, hb2⟩
    have hB2 : Below w.heap.size w w2 := hb1.trans (hb2.mono hb1.size)
    clear hb1 hb2 c1
    go_wp2_with fail
    refine (pr1 _).mono ?_
    rintro e w3 ⟨rfl, hb3⟩
    have hB3 : Below w.heap.size w w3 := hB2.trans (hb3.mono hB2.size)
    clear hB2 hb3 pr1
    go_wp2_with fail
    go_ret
    exact ⟨rfl, hB3⟩

end Go.Proofs.Ytbmhafagdchjfaa
