import Derived.Test.YtbmhafagdchjfaaSpaced
namespace Go.Proofs.Ytbmhafagdchjfaa
open Go.RowKit
attribute [local go_sem ↓] Go.wp_at_zero Go.wp_at_succ

def hashB : ByteArray := { data := #[35] }
theorem hash_list (s : ByteArray) : (s ++ hashB).data.toList = s.data.toList ++ [35] := by
  simp [ByteArray.data_append, hashB]
theorem hash_size (s : ByteArray) : (s ++ hashB).size = s.size + 1 := by
  rw [size_list, hash_list, List.length_append, ← size_list]; rfl

set_option maxHeartbeats 4000000 in
set_option maxRecDepth 100000 in
theorem spaced_any (s : ByteArray) (w : World) (hs : s.size ≤ maxLen) :
    Calls Try.prog 5 #[.string s] w fun e w' => e = .returned (.bool true) ∧ Below w.heap.size w w' := by
  by_cases hlong : 1500 < s.size
  · have c1 := fun w => check_all s w hs
    rw [text_long hlong] at c1
    have q1 : (1500 : Int) < (s.size : Int) := by omega
    go_enter Try.func5, Try.ntmps5
    go_wp2_with fail
    refine (answers_any _).mono ?_
    rintro e w1 ⟨rfl, hb1⟩
    go_wp2_with fail
    refine (c1 _).mono ?_
    rintro e w2 ⟨rfl, hb2⟩
    clear c1
    go_wp2_with fail
    go_ret
    exact ⟨rfl, hb1.trans (hb2.mono hb1.size)⟩
  have hsz : s.size ≤ 1500 := by omega
  have q1 : ¬ (1500 : Int) < (s.size : Int) := by omega
  have hpos := text_pos s hsz
  have hn1 := text_not1 hsz
  have c1 := fun w => check_all s w hs
  have pr1 := fun w => print_any s w hs
  have hsz1 : (wideS s).size ≤ 3000 := by
    rw [size_list]
    show (wideL 0 s.data.toList).length ≤ 3000
    rw [wide_len]
    have := List.length_filter_le sgn (s.data.toList.take s.data.toList.length)
    unfold mv
    rw [List.length_take, Nat.min_self, ← size_list] at this
    rw [← size_list]
    omega
  have wd := fun w => wide_any s (textF s).2 w hsz (by omega)
  have c2 := fun w => check_all (wideS s) w (by unfold maxLen; omega)
  have pr2 := fun w => print_any (wideS s) w (by unfold maxLen; omega)
  have hw2 : (wideS s).size ≤ 1500 → textF (wideS s) = ((textF s).1, mv s.data.toList (textF s).2) := wide_text s hsz
  have hpf : (wideS s).size ≤ 1500 → printF (wideS s) = printF s := by
    intro h
    unfold printF
    rw [hw2 h, wide_out]
  have c3 := fun w => check_all (s ++ hashB) w (by rw [hash_size]; unfold maxLen; omega)
  have hh3 : (textF s).1 = 0 → s.size < 1500 → textF (s ++ hashB) = (2, s.size) := fun h h2 => hash_text s _ h2 h (hash_list s)
  have hla := lastN_split s s.size (Nat.le_refl _)
  have hcut : (textF s).1 = 0 → ∀ n : Nat, n < s.size → byt s n = 59 → (∀ j, n < j → j < s.size → byt s j ≠ 59) → textF (s.extract 0 n) = (2, n) := fun h n h1 h2 h3 => cut_at s n hsz h h1 h2 h3
  have c4 := fun n w => check_all (s.extract 0 n) w (by rw [ByteArray.size_extract]; unfold maxLen; omega)
  have la := fun w => last_any s w hs
  obtain ⟨N, hN⟩ : ∃ N, N = lastN s s.size := ⟨_, rfl⟩
  rw [← hN] at hla la
  clear hN
  obtain ⟨X, hX⟩ : ∃ X, X = textF s := ⟨_, rfl⟩
  rw [← hX] at c1 pr1 wd hpos hn1 hw2 hh3 hcut
  obtain ⟨WS, hWS⟩ : ∃ WS, WS = wideS s := ⟨_, rfl⟩
  rw [← hWS] at wd c2 pr2 hw2 hpf hsz1
  obtain ⟨x0, x1⟩ := X
  simp only at c1 pr1 wd hpos hn1 hw2 hh3 hcut
  clear hX hWS
  have q2 : ((x0 : Int) == 1) = false := by rw [beq_eq_false_iff_ne]; omega
  clear hn1 hpos hlong
  by_cases hA : WS.size ≤ 1500
  · have qA : (WS.size : Int) ≤ 1500 := by omega
    rw [hw2 hA] at c2
    rw [hpf hA] at pr2
    simp only [hw2 hA] at pr2
    clear hA hw2 hpf hsz1
    by_cases hE : x0 ≠ 0
    · have qE : ((x0 : Int) != 0) = true := by rw [bne_iff_ne]; omega
      clear hE hh3 hcut hla c3 c4 la
      go_enter Try.func5, Try.ntmps5
      go_wp2_with fail
      refine (answers_any _).mono ?_
      rintro e w1 ⟨rfl, hb1⟩
      go_wp2_with fail
      refine (c1 _).mono ?_
      rintro e w2 ⟨rfl, hb2⟩
      have hB2 : Below w.heap.size w w2 := hb1.trans (hb2.mono hb1.size)
      clear hb1 hb2 c1
      go_wp2_with fail
      refine (wd _).mono ?_
      rintro e w3 ⟨rfl, hb3⟩
      have hB3 : Below w.heap.size w w3 := hB2.trans (hb3.mono hB2.size)
      clear hB2 hb3 wd
      go_wp2_with fail
      refine (c2 _).mono ?_
      rintro e w4 ⟨rfl, hb4⟩
      have hB4 : Below w.heap.size w w4 := hB3.trans (hb4.mono hB3.size)
      clear hB3 hb4 c2
      go_wp2_with fail
      refine (pr1 _).mono ?_
      rintro e w5 ⟨rfl, hb5⟩
      have hB5 : Below w.heap.size w w5 := hB4.trans (hb5.mono hB4.size)
      clear hB4 hb5 pr1
      go_wp2_with fail
      refine (pr2 _).mono ?_
      rintro e w6 ⟨rfl, hb6⟩
      have hB6 : Below w.heap.size w w6 := hB5.trans (hb6.mono hB5.size)
      clear hB5 hb6 pr2
      go_wp2_with fail
      go_ret
      exact ⟨rfl, hB6⟩
    · obtain rfl : x0 = 0 := by omega
      replace hh3 := hh3 rfl
      replace hcut := hcut rfl
      by_cases hL : s.size < 1500
      · have qL : (s.size : Int) < 1500 := by omega
        rw [hh3 hL] at c3
        unfold hashB at c3
        clear hL hh3
        rcases hla with hN | ⟨n, h1, hN, h2, h3⟩
        · have qN : ¬ (0 : Int) ≤ N := by omega
          clear hN hcut c4
          go_enter Try.func5, Try.ntmps5
          go_wp2_with fail
          refine (answers_any _).mono ?_
          rintro e w1 ⟨rfl, hb1⟩
          go_wp2_with fail
          refine (c1 _).mono ?_
          rintro e w2 ⟨rfl, hb2⟩
          have hB2 : Below w.heap.size w w2 := hb1.trans (hb2.mono hb1.size)
          clear hb1 hb2 c1
          go_wp2_with fail
          refine (wd _).mono ?_
          rintro e w3 ⟨rfl, hb3⟩
          have hB3 : Below w.heap.size w w3 := hB2.trans (hb3.mono hB2.size)
          clear hB2 hb3 wd
          go_wp2_with fail
          refine (c2 _).mono ?_
          rintro e w4 ⟨rfl, hb4⟩
          have hB4 : Below w.heap.size w w4 := hB3.trans (hb4.mono hB3.size)
          clear hB3 hb4 c2
          go_wp2_with fail
          refine (pr1 _).mono ?_
          rintro e w5 ⟨rfl, hb5⟩
          have hB5 : Below w.heap.size w w5 := hB4.trans (hb5.mono hB4.size)
          clear hB4 hb5 pr1
          go_wp2_with fail
          refine (pr2 _).mono ?_
          rintro e w6 ⟨rfl, hb6⟩
          have hB6 : Below w.heap.size w w6 := hB5.trans (hb6.mono hB5.size)
          clear hB5 hb6 pr2
          go_wp2_with fail
          refine (c3 _).mono ?_
          rintro e w7 ⟨rfl, hb7⟩
          have hB7 : Below w.heap.size w w7 := hB6.trans (hb7.mono hB6.size)
          clear hB6 hb7 c3
          go_wp2_with fail
          refine (la _).mono ?_
          rintro e w8 ⟨rfl, hw8⟩
          subst hw8
          clear la
          go_wp2_with fail
          go_ret
          exact ⟨rfl, hB7⟩
        · have hc := hcut n h1 h2 h3
          have c4' := fun w => c4 n w
          rw [hc] at c4'
          subst hN
          have qN : (0 : Int) ≤ (n : Int) := by omega
          have qN2 : (n : Int) ≤ (s.size : Int) := by omega
          clear hc h2 h3 hcut c4
          go_enter Try.func5, Try.ntmps5
          go_wp2_with fail
          refine (answers_any _).mono ?_
          rintro e w1 ⟨rfl, hb1⟩
          go_wp2_with fail
          refine (c1 _).mono ?_
          rintro e w2 ⟨rfl, hb2⟩
          have hB2 : Below w.heap.size w w2 := hb1.trans (hb2.mono hb1.size)
          clear hb1 hb2 c1
          go_wp2_with fail
          refine (wd _).mono ?_
          rintro e w3 ⟨rfl, hb3⟩
          have hB3 : Below w.heap.size w w3 := hB2.trans (hb3.mono hB2.size)
          clear hB2 hb3 wd
          go_wp2_with fail
          refine (c2 _).mono ?_
          rintro e w4 ⟨rfl, hb4⟩
          have hB4 : Below w.heap.size w w4 := hB3.trans (hb4.mono hB3.size)
          clear hB3 hb4 c2
          go_wp2_with fail
          refine (pr1 _).mono ?_
          rintro e w5 ⟨rfl, hb5⟩
          have hB5 : Below w.heap.size w w5 := hB4.trans (hb5.mono hB4.size)
          clear hB4 hb5 pr1
          go_wp2_with fail
          refine (pr2 _).mono ?_
          rintro e w6 ⟨rfl, hb6⟩
          have hB6 : Below w.heap.size w w6 := hB5.trans (hb6.mono hB5.size)
          clear hB5 hb6 pr2
          go_wp2_with fail
          refine (c3 _).mono ?_
          rintro e w7 ⟨rfl, hb7⟩
          have hB7 : Below w.heap.size w w7 := hB6.trans (hb7.mono hB6.size)
          clear hB6 hb7 c3
          go_wp2_with fail
          refine (la _).mono ?_
          rintro e w8 ⟨rfl, hw8⟩
          subst hw8
          clear la
          go_wp2_with fail
          refine (c4' _).mono ?_
          rintro e w9 ⟨rfl, hb9⟩
          have hB9 : Below w.heap.size w w9 := hB7.trans (hb9.mono hB7.size)
          clear hB7 hb9 c4'
          go_wp2_with fail
          go_ret
          exact ⟨rfl, hB9⟩
      · have qL : ¬ (s.size : Int) < 1500 := by omega
        clear hL hh3 c3
        rcases hla with hN | ⟨n, h1, hN, h2, h3⟩
        · have qN : ¬ (0 : Int) ≤ N := by omega
          clear hN hcut c4
          go_enter Try.func5, Try.ntmps5
          go_wp2_with fail
          refine (answers_any _).mono ?_
          rintro e w1 ⟨rfl, hb1⟩
          go_wp2_with fail
          refine (c1 _).mono ?_
          rintro e w2 ⟨rfl, hb2⟩
          have hB2 : Below w.heap.size w w2 := hb1.trans (hb2.mono hb1.size)
          clear hb1 hb2 c1
          go_wp2_with fail
          refine (wd _).mono ?_
          rintro e w3 ⟨rfl, hb3⟩
          have hB3 : Below w.heap.size w w3 := hB2.trans (hb3.mono hB2.size)
          clear hB2 hb3 wd
          go_wp2_with fail
          refine (c2 _).mono ?_
          rintro e w4 ⟨rfl, hb4⟩
          have hB4 : Below w.heap.size w w4 := hB3.trans (hb4.mono hB3.size)
          clear hB3 hb4 c2
          go_wp2_with fail
          refine (pr1 _).mono ?_
          rintro e w5 ⟨rfl, hb5⟩
          have hB5 : Below w.heap.size w w5 := hB4.trans (hb5.mono hB4.size)
          clear hB4 hb5 pr1
          go_wp2_with fail
          refine (pr2 _).mono ?_
          rintro e w6 ⟨rfl, hb6⟩
          have hB6 : Below w.heap.size w w6 := hB5.trans (hb6.mono hB5.size)
          clear hB5 hb6 pr2
          go_wp2_with fail
          refine (la _).mono ?_
          rintro e w8 ⟨rfl, hw8⟩
          subst hw8
          clear la
          go_wp2_with fail
          go_ret
          exact ⟨rfl, hB6⟩
        · have hc := hcut n h1 h2 h3
          have c4' := fun w => c4 n w
          rw [hc] at c4'
          subst hN
          have qN : (0 : Int) ≤ (n : Int) := by omega
          have qN2 : (n : Int) ≤ (s.size : Int) := by omega
          clear hc h2 h3 hcut c4
          go_enter Try.func5, Try.ntmps5
          go_wp2_with fail
          refine (answers_any _).mono ?_
          rintro e w1 ⟨rfl, hb1⟩
          go_wp2_with fail
          refine (c1 _).mono ?_
          rintro e w2 ⟨rfl, hb2⟩
          have hB2 : Below w.heap.size w w2 := hb1.trans (hb2.mono hb1.size)
          clear hb1 hb2 c1
          go_wp2_with fail
          refine (wd _).mono ?_
          rintro e w3 ⟨rfl, hb3⟩
          have hB3 : Below w.heap.size w w3 := hB2.trans (hb3.mono hB2.size)
          clear hB2 hb3 wd
          go_wp2_with fail
          refine (c2 _).mono ?_
          rintro e w4 ⟨rfl, hb4⟩
          have hB4 : Below w.heap.size w w4 := hB3.trans (hb4.mono hB3.size)
          clear hB3 hb4 c2
          go_wp2_with fail
          refine (pr1 _).mono ?_
          rintro e w5 ⟨rfl, hb5⟩
          have hB5 : Below w.heap.size w w5 := hB4.trans (hb5.mono hB4.size)
          clear hB4 hb5 pr1
          go_wp2_with fail
          refine (pr2 _).mono ?_
          rintro e w6 ⟨rfl, hb6⟩
          have hB6 : Below w.heap.size w w6 := hB5.trans (hb6.mono hB5.size)
          clear hB5 hb6 pr2
          go_wp2_with fail
          refine (la _).mono ?_
          rintro e w8 ⟨rfl, hw8⟩
          subst hw8
          clear la
          go_wp2_with fail
          refine (c4' _).mono ?_
          rintro e w9 ⟨rfl, hb9⟩
          have hB9 : Below w.heap.size w w9 := hB6.trans (hb9.mono hB6.size)
          clear hB6 hb9 c4'
          go_wp2_with fail
          go_ret
          exact ⟨rfl, hB9⟩
  · have qA : ¬ (WS.size : Int) ≤ 1500 := by omega
    clear hA hw2 hpf hsz1 c2 pr1 pr2
    by_cases hE : x0 ≠ 0
    · have qE : ((x0 : Int) != 0) = true := by rw [bne_iff_ne]; omega
      clear hE hh3 hcut hla c3 c4 la
      go_enter Try.func5, Try.ntmps5
      go_wp2_with fail
      refine (answers_any _).mono ?_
      rintro e w1 ⟨rfl, hb1⟩
      go_wp2_with fail
      refine (c1 _).mono ?_
      rintro e w2 ⟨rfl, hb2⟩
      have hB2 : Below w.heap.size w w2 := hb1.trans (hb2.mono hb1.size)
      clear hb1 hb2 c1
      go_wp2_with fail
      refine (wd _).mono ?_
      rintro e w3 ⟨rfl, hb3⟩
      have hB3 : Below w.heap.size w w3 := hB2.trans (hb3.mono hB2.size)
      clear hB2 hb3 wd
      go_wp2_with fail
      go_ret
      exact ⟨rfl, hB3⟩
    · obtain rfl : x0 = 0 := by omega
      replace hh3 := hh3 rfl
      replace hcut := hcut rfl
      by_cases hL : s.size < 1500
      · have qL : (s.size : Int) < 1500 := by omega
        rw [hh3 hL] at c3
        unfold hashB at c3
        clear hL hh3
        rcases hla with hN | ⟨n, h1, hN, h2, h3⟩
        · have qN : ¬ (0 : Int) ≤ N := by omega
          clear hN hcut c4
          go_enter Try.func5, Try.ntmps5
          go_wp2_with fail
          refine (answers_any _).mono ?_
          rintro e w1 ⟨rfl, hb1⟩
          go_wp2_with fail
          refine (c1 _).mono ?_
          rintro e w2 ⟨rfl, hb2⟩
          have hB2 : Below w.heap.size w w2 := hb1.trans (hb2.mono hb1.size)
          clear hb1 hb2 c1
          go_wp2_with fail
          refine (wd _).mono ?_
          rintro e w3 ⟨rfl, hb3⟩
          have hB3 : Below w.heap.size w w3 := hB2.trans (hb3.mono hB2.size)
          clear hB2 hb3 wd
          go_wp2_with fail
          refine (c3 _).mono ?_
          rintro e w7 ⟨rfl, hb7⟩
          have hB7 : Below w.heap.size w w7 := hB3.trans (hb7.mono hB3.size)
          clear hB3 hb7 c3
          go_wp2_with fail
          refine (la _).mono ?_
          rintro e w8 ⟨rfl, hw8⟩
          subst hw8
          clear la
          go_wp2_with fail
          go_ret
          exact ⟨rfl, hB7⟩
        · have hc := hcut n h1 h2 h3
          have c4' := fun w => c4 n w
          rw [hc] at c4'
          subst hN
          have qN : (0 : Int) ≤ (n : Int) := by omega
          have qN2 : (n : Int) ≤ (s.size : Int) := by omega
          clear hc h2 h3 hcut c4
          go_enter Try.func5, Try.ntmps5
          go_wp2_with fail
          refine (answers_any _).mono ?_
          rintro e w1 ⟨rfl, hb1⟩
          go_wp2_with fail
          refine (c1 _).mono ?_
          rintro e w2 ⟨rfl, hb2⟩
          have hB2 : Below w.heap.size w w2 := hb1.trans (hb2.mono hb1.size)
          clear hb1 hb2 c1
          go_wp2_with fail
          refine (wd _).mono ?_
          rintro e w3 ⟨rfl, hb3⟩
          have hB3 : Below w.heap.size w w3 := hB2.trans (hb3.mono hB2.size)
          clear hB2 hb3 wd
          go_wp2_with fail
          refine (c3 _).mono ?_
          rintro e w7 ⟨rfl, hb7⟩
          have hB7 : Below w.heap.size w w7 := hB3.trans (hb7.mono hB3.size)
          clear hB3 hb7 c3
          go_wp2_with fail
          refine (la _).mono ?_
          rintro e w8 ⟨rfl, hw8⟩
          subst hw8
          clear la
          go_wp2_with fail
          refine (c4' _).mono ?_
          rintro e w9 ⟨rfl, hb9⟩
          have hB9 : Below w.heap.size w w9 := hB7.trans (hb9.mono hB7.size)
          clear hB7 hb9 c4'
          go_wp2_with fail
          go_ret
          exact ⟨rfl, hB9⟩
      · have qL : ¬ (s.size : Int) < 1500 := by omega
        clear hL hh3 c3
        rcases hla with hN | ⟨n, h1, hN, h2, h3⟩
        · have qN : ¬ (0 : Int) ≤ N := by omega
          clear hN hcut c4
          go_enter Try.func5, Try.ntmps5
          go_wp2_with fail
          refine (answers_any _).mono ?_
          rintro e w1 ⟨rfl, hb1⟩
          go_wp2_with fail
          refine (c1 _).mono ?_
          rintro e w2 ⟨rfl, hb2⟩
          have hB2 : Below w.heap.size w w2 := hb1.trans (hb2.mono hb1.size)
          clear hb1 hb2 c1
          go_wp2_with fail
          refine (wd _).mono ?_
          rintro e w3 ⟨rfl, hb3⟩
          have hB3 : Below w.heap.size w w3 := hB2.trans (hb3.mono hB2.size)
          clear hB2 hb3 wd
          go_wp2_with fail
          refine (la _).mono ?_
          rintro e w8 ⟨rfl, hw8⟩
          subst hw8
          clear la
          go_wp2_with fail
          go_ret
          exact ⟨rfl, hB3⟩
        · have hc := hcut n h1 h2 h3
          have c4' := fun w => c4 n w
          rw [hc] at c4'
          subst hN
          have qN : (0 : Int) ≤ (n : Int) := by omega
          have qN2 : (n : Int) ≤ (s.size : Int) := by omega
          clear hc h2 h3 hcut c4
          go_enter Try.func5, Try.ntmps5
          go_wp2_with fail
          refine (answers_any _).mono ?_
          rintro e w1 ⟨rfl, hb1⟩
          go_wp2_with fail
          refine (c1 _).mono ?_
          rintro e w2 ⟨rfl, hb2⟩
          have hB2 : Below w.heap.size w w2 := hb1.trans (hb2.mono hb1.size)
          clear hb1 hb2 c1
          go_wp2_with fail
          refine (wd _).mono ?_
          rintro e w3 ⟨rfl, hb3⟩
          have hB3 : Below w.heap.size w w3 := hB2.trans (hb3.mono hB2.size)
          clear hB2 hb3 wd
          go_wp2_with fail
          refine (la _).mono ?_
          rintro e w8 ⟨rfl, hw8⟩
          subst hw8
          clear la
          go_wp2_with fail
          refine (c4' _).mono ?_
          rintro e w9 ⟨rfl, hb9⟩
          have hB9 : Below w.heap.size w w9 := hB3.trans (hb9.mono hB3.size)
          clear hB3 hb9 c4'
          go_wp2_with fail
          go_ret
          exact ⟨rfl, hB9⟩

end Go.Proofs.Ytbmhafagdchjfaa
