import Derived.Test.YtmndgoapkmhglaaM40LayE
namespace Go.Proofs.Ytmndgoapkmhglaa
open Go.RowKit
attribute [local go_sem ↓] Go.wp_at_zero Go.wp_at_succ

/-- a place that is told lies in the text. -/
theorem tok_pos (s : ByteArray) (i : Nat) : (tkAt (toks s) i).pos ≤ s.size := by
  have key : ∀ f k, ∀ t ∈ toksFrom s f k, t.pos ≤ s.size := by
    intro f
    induction f with
    | zero => intro k t ht; simp [toksFrom] at ht
    | succ f ih =>
      intro k t ht
      simp only [toksFrom] at ht
      split at ht
      · rename_i hk
        split at ht
        · exact ih _ t ht
        · rcases List.mem_cons.1 ht with rfl | ht
          · exact Nat.le_of_lt hk
          · exact ih _ t ht
      · simp at ht
  by_cases hi : i < (toks s).length
  · have hm := tkAt_mem hi
    generalize tkAt (toks s) i = t at hm ⊢
    unfold toks at hm
    rcases List.mem_append.1 hm with h | h
    · exact key _ _ _ h
    · simp at h; rw [h]; exact Nat.le_refl _
  · have : tkAt (toks s) i = tkEnd := by unfold tkAt; rw [List.getD_eq_getElem?_getD, List.getElem?_eq_none (by omega)]; rfl
    rw [this]; exact Nat.zero_le _

theorem text_pos (s : ByteArray) (hs : s.size ≤ 1500) : (textF s).2 ≤ s.size := by
  have ht : TsR (fun a _ => a ≤ s.size) (toks s) (toks s) :=
    ⟨rfl, fun i => ⟨rfl, tok_pos s i, fun _ => rfl, fun hk => ⟨((toks_dig s).all i hk).2, ((toks_dig s).all i hk).2⟩, fun _ => rfl⟩⟩
  exact (textR (P := fun a _ => a ≤ s.size) (Nat.zero_le _) s s hs hs ht).2

theorem text_long {s : ByteArray} (h : 1500 < s.size) : textF s = (1, 0) := by unfold textF; rw [if_pos h]
theorem text_not1 {s : ByteArray} (h : s.size ≤ 1500) : (textF s).1 ≠ 1 := by
  unfold textF
  rw [if_neg (by omega)]
  split
  · simp
  · unfold meaningF
    repeat' split
    all_goals simp

/-- what `last` tells, by lists. -/
theorem lastN_split (s : ByteArray) : ∀ k, k ≤ s.size → (lastN s k = -1) ∨ ∃ n : Nat, n < k ∧ lastN s k = (n : Int) ∧ byt s n = 59 ∧ ∀ j, n < j → j < k → byt s j ≠ 59 := by
  intro k
  induction k with
  | zero => intro _; exact .inl rfl
  | succ k ih =>
    intro hk
    unfold lastN
    by_cases hb : byt s k = 59
    · rw [if_pos hb]
      exact .inr ⟨k, Nat.lt_succ_self _, rfl, hb, fun j h1 h2 => by omega⟩
    · rw [if_neg hb]
      rcases ih (by omega) with h | ⟨n, h1, h2, h3, h4⟩
      · exact .inl h
      · refine .inr ⟨n, by omega, h2, h3, fun j h5 h6 => ?_⟩
        by_cases e : j = k
        · rw [e]; exact hb
        · exact h4 j h5 (by omega)

theorem cut_at (s : ByteArray) (n : Nat) (hs : s.size ≤ 1500) (h : (textF s).1 = 0) (hn : n < s.size) (hb : byt s n = 59) (hl : ∀ j, n < j → j < s.size → byt s j ≠ 59) : textF (s.extract 0 n) = (2, n) := by
  have hlen : s.data.toList.length = s.size := Array.length_toList
  have hx : (s.extract 0 n).data.toList = s.data.toList.take n := by
    rw [ByteArray.data_extract, Array.toList_extract, List.extract_eq_take_drop]; simp
  have h59 : s.data.toList[n]'(by omega) = 59 := by
    have := byt_list s n (by omega)
    rw [hb] at this
    exact UInt8.toNat_inj.1 this.symm
  have hsplit : s.data.toList = s.data.toList.take n ++ 59 :: s.data.toList.drop (n + 1) := by
    rw [← h59, ← List.drop_eq_getElem_cons (by omega), List.take_append_drop]
  have hno : (59 : UInt8) ∉ s.data.toList.drop (n + 1) := by
    intro hm
    obtain ⟨j, hj, e⟩ := List.getElem_of_mem hm
    rw [List.length_drop] at hj
    rw [List.getElem_drop] at e
    have := byt_list s (n + 1 + j) (by omega)
    rw [e] at this
    exact hl (n + 1 + j) (by omega) (by omega) this
  have := cut_text s (s.extract 0 n) _ _ hs h hsplit hno hx
  rw [this, List.length_take]
  congr 1
  omega

end Go.Proofs.Ytmndgoapkmhglaa

namespace Go.Proofs.Ytmndgoapkmhglaa
open Go.RowKit
attribute [local go_sem ↓] Go.wp_at_zero Go.wp_at_succ

def hashB : ByteArray := { data := #[35] }
theorem hash_list (s : ByteArray) : (s ++ hashB).data.toList = s.data.toList ++ [35] := by
  simp [ByteArray.data_append, hashB]
theorem hash_size (s : ByteArray) : (s ++ hashB).size = s.size + 1 := by
  rw [size_list, hash_list, List.length_append, ← size_list]; rfl

set_option maxHeartbeats 4000000 in
set_option maxRecDepth 100000 in
theorem spaced_any (s : ByteArray) (w : World) (hs : s.size ≤ maxLen) :
    Calls Try.prog 5 #[.string s] w fun e w' => e = .returned (.bool true) ∧ Below w.heap.size w w' := by
  by_cases hlong : 1500 < s.size
  · have c1 := fun w => check_all s w hs
    rw [text_long hlong] at c1
    have q1 : (1500 : Int) < (s.size : Int) := by omega
    go_enter Try.func5, Try.ntmps5
    go_wp2_with fail
    refine (answers_any _).mono ?_
    rintro e w1 ⟨rfl, hb1⟩
    go_wp2_with fail
    refine (c1 _).mono ?_
    rintro e w2 ⟨rfl, hb2⟩
    clear c1
    go_wp2_with fail
    go_ret
    exact ⟨rfl, hb1.trans (hb2.mono hb1.size)⟩
  have hsz : s.size ≤ 1500 := by omega
  have q1 : ¬ (1500 : Int) < (s.size : Int) := by omega
  have hpos := text_pos s hsz
  have hn1 := text_not1 hsz
  have c1 := fun w => check_all s w hs
  have pr1 := fun w => print_any s w hs
  have hsz1 : (wideS s).size ≤ 3000 := by
    rw [size_list]
    show (wideL 0 s.data.toList).length ≤ 3000
    rw [wide_len]
    have := List.length_filter_le sgn (s.data.toList.take s.data.toList.length)
    unfold mv
    rw [List.length_take, Nat.min_self, ← size_list] at this
    rw [← size_list]
    omega
  have wd := fun w => wide_any s (textF s).2 w hsz (by omega)
  have c2 := fun w => check_all (wideS s) w (by unfold maxLen; omega)
  have pr2 := fun w => print_any (wideS s) w (by unfold maxLen; omega)
  have hw2 : (wideS s).size ≤ 1500 → textF (wideS s) = ((textF s).1, mv s.data.toList (textF s).2) := wide_text s hsz
  have hpf : (wideS s).size ≤ 1500 → printF (wideS s) = printF s := by
    intro h
    unfold printF
    rw [hw2 h, wide_out]
  have c3 := fun w => check_all (s ++ hashB) w (by rw [hash_size]; unfold maxLen; omega)
  have hh3 : (textF s).1 = 0 → s.size < 1500 → textF (s ++ hashB) = (2, s.size) := fun h h2 => hash_text s _ h2 h (hash_list s)
  have hla := lastN_split s s.size (Nat.le_refl _)
  have hcut : (textF s).1 = 0 → ∀ n : Nat, n < s.size → byt s n = 59 → (∀ j, n < j → j < s.size → byt s j ≠ 59) → textF (s.extract 0 n) = (2, n) := fun h n h1 h2 h3 => cut_at s n hsz h h1 h2 h3
  have c4 := fun n w => check_all (s.extract 0 n) w (by rw [ByteArray.size_extract]; unfold maxLen; omega)
  have la := fun w => last_any s w hs
  obtain ⟨N, hN⟩ : ∃ N, N = lastN s s.size := ⟨_, rfl⟩
  rw [← hN] at hla la
  clear hN
  obtain ⟨X, hX⟩ : ∃ X, X = textF s := ⟨_, rfl⟩
  rw [← hX] at c1 pr1 wd hpos hn1 hw2 hh3 hcut
  obtain ⟨WS, hWS⟩ : ∃ WS, WS = wideS s := ⟨_, rfl⟩
  rw [← hWS] at wd c2 pr2 hw2 hpf hsz1
  obtain ⟨x0, x1⟩ := X
  simp only at c1 pr1 wd hpos hn1 hw2 hh3 hcut
  clear hX hWS
  have q2 : ((x0 : Int) == 1) = false := by rw [beq_eq_false_iff_ne]; omega
  clear hn1 hpos hlong
  by_cases hA : WS.size ≤ 1500
  · have qA : (WS.size : Int) ≤ 1500 := by omega
    rw [hw2 hA] at c2
    rw [hpf hA] at pr2
    simp only [hw2 hA] at pr2
    clear hA hw2 hpf hsz1
    by_cases hE : x0 ≠ 0
    · have qE : ((x0 : Int) != 0) = true := by rw [bne_iff_ne]; omega
      clear hE hh3 hcut hla c3 c4 la
      go_enter Try.func5, Try.ntmps5
      go_wp2_with fail
      refine (answers_any _).mono ?_
      rintro e w1 ⟨rfl, hb1⟩
      go_wp2_with fail
      refine (c1 _).mono ?_
      rintro e w2 ⟨rfl, hb2⟩
      have hB2 : Below w.heap.size w w2 := hb1.trans (hb2.mono hb1.size)
      clear hb1 hb2 c1
      go_wp2_with fail
      refine (wd _).mono ?_
      rintro e w3 ⟨rfl, hb3⟩
      have hB3 : Below w.heap.size w w3 := hB2.trans (hb3.mono hB2.size)
      clear hB2 hb3 wd
      go_wp2_with fail
      refine (c2 _).mono ?_
      rintro e w4 ⟨rfl, hb4⟩
      have hB4 : Below w.heap.size w w4 := hB3.trans (hb4.mono hB3.size)
      clear hB3 hb4 c2
      go_wp2_with fail
      refine (pr1 _).mono ?_
      rintro e w5 ⟨rfl, hb5⟩
      have hB5 : Below w.heap.size w w5 := hB4.trans (hb5.mono hB4.size)
      clear hB4 hb5 pr1
      go_wp2_with fail
      refine (pr2 _).mono ?_
      rintro e w6 ⟨rfl, hb6⟩
      have hB6 : Below w.heap.size w w6 := hB5.trans (hb6.mono hB5.size)
      clear hB5 hb6 pr2
      go_wp2_with fail
      go_ret
      exact ⟨rfl, hB6⟩
    · obtain rfl : x0 = 0 := by omega
      replace hh3 := hh3 rfl
      replace hcut := hcut rfl
      by_cases hL : s.size < 1500
      · have qL : (s.size : Int) < 1500 := by omega
        rw [hh3 hL] at c3
        unfold hashB at c3
        clear hL hh3
        rcases hla with hN | ⟨n, h1, hN, h2, h3⟩
        · have qN : ¬ (0 : Int) ≤ N := by omega
          clear hN hcut c4
          go_enter Try.func5, Try.ntmps5
          go_wp2_with fail
          refine (answers_any _).mono ?_
          rintro e w1 ⟨rfl, hb1⟩
          go_wp2_with fail
          refine (c1 _).mono ?_
          rintro e w2 ⟨rfl, hb2⟩
          have hB2 : Below w.heap.size w w2 := hb1.trans (hb2.mono hb1.size)
          clear hb1 hb2 c1
          go_wp2_with fail
          refine (wd _).mono ?_
          rintro e w3 ⟨rfl, hb3⟩
          have hB3 : Below w.heap.size w w3 := hB2.trans (hb3.mono hB2.size)
          clear hB2 hb3 wd
          go_wp2_with fail
          refine (c2 _).mono ?_
          rintro e w4 ⟨rfl, hb4⟩
          have hB4 : Below w.heap.size w w4 := hB3.trans (hb4.mono hB3.size)
          clear hB3 hb4 c2
          go_wp2_with fail
          refine (pr1 _).mono ?_
          rintro e w5 ⟨rfl, hb5⟩
          have hB5 : Below w.heap.size w w5 := hB4.trans (hb5.mono hB4.size)
          clear hB4 hb5 pr1
          go_wp2_with fail
          refine (pr2 _).mono ?_
          rintro e w6 ⟨rfl, hb6⟩
          have hB6 : Below w.heap.size w w6 := hB5.trans (hb6.mono hB5.size)
          clear hB5 hb6 pr2
          go_wp2_with fail
          refine (c3 _).mono ?_
          rintro e w7 ⟨rfl, hb7⟩
          have hB7 : Below w.heap.size w w7 := hB6.trans (hb7.mono hB6.size)
          clear hB6 hb7 c3
          go_wp2_with fail
          refine (la _).mono ?_
          rintro e w8 ⟨rfl, hw8⟩
          subst hw8
          clear la
          go_wp2_with fail
          go_ret
          exact ⟨rfl, hB7⟩
        · have hc := hcut n h1 h2 h3
          have c4' := fun w => c4 n w
          rw [hc] at c4'
          subst hN
          have qN : (0 : Int) ≤ (n : Int) := by omega
          have qN2 : (n : Int) ≤ (s.size : Int) := by omega
          clear hc h2 h3 hcut c4
          go_enter Try.func5, Try.ntmps5
          go_wp2_with fail
          refine (answers_any _).mono ?_
          rintro e w1 ⟨rfl, hb1⟩
          go_wp2_with fail
          refine (c1 _).mono ?_
          rintro e w2 ⟨rfl, hb2⟩
          have hB2 : Below w.heap.size w w2 := hb1.trans (hb2.mono hb1.size)
          clear hb1 hb2 c1
          go_wp2_with fail
          refine (wd _).mono ?_
          rintro e w3 ⟨rfl, hb3⟩
          have hB3 : Below w.heap.size w w3 := hB2.trans (hb3.mono hB2.size)
          clear hB2 hb3 wd
          go_wp2_with fail
          refine (c2 _).mono ?_
          rintro e w4 ⟨rfl, hb4⟩
          have hB4 : Below w.heap.size w w4 := hB3.trans (hb4.mono hB3.size)
          clear hB3 hb4 c2
          go_wp2_with fail
          refine (pr1 _).mono ?_
          rintro e w5 ⟨rfl, hb5⟩
          have hB5 : Below w.heap.size w w5 := hB4.trans (hb5.mono hB4.size)
          clear hB4 hb5 pr1
          go_wp2_with fail
          refine (pr2 _).mono ?_
          rintro e w6 ⟨rfl, hb6⟩
          have hB6 : Below w.heap.size w w6 := hB5.trans (hb6.mono hB5.size)
          clear hB5 hb6 pr2
          go_wp2_with fail
          refine (c3 _).mono ?_
          rintro e w7 ⟨rfl, hb7⟩
          have hB7 : Below w.heap.size w w7 := hB6.trans (hb7.mono hB6.size)
          clear hB6 hb7 c3
          go_wp2_with fail
          refine (la _).mono ?_
          rintro e w8 ⟨rfl, hw8⟩
          subst hw8
          clear la
          go_wp2_with fail
          refine (c4' _).mono ?_
          rintro e w9 ⟨rfl, hb9⟩
          have hB9 : Below w.heap.size w w9 := hB7.trans (hb9.mono hB7.size)
          clear hB7 hb9 c4'
          go_wp2_with fail
          go_ret
          exact ⟨rfl, hB9⟩
      · have qL : ¬ (s.size : Int) < 1500 := by omega
        clear hL hh3 c3
        rcases hla with hN | ⟨n, h1, hN, h2, h3⟩
        · have qN : ¬ (0 : Int) ≤ N := by omega
          clear hN hcut c4
          go_enter Try.func5, Try.ntmps5
          go_wp2_with fail
          refine (answers_any _).mono ?_
          rintro e w1 ⟨rfl, hb1⟩
          go_wp2_with fail
          refine (c1 _).mono ?_
          rintro e w2 ⟨rfl, hb2⟩
          have hB2 : Below w.heap.size w w2 := hb1.trans (hb2.mono hb1.size)
          clear hb1 hb2 c1
          go_wp2_with fail
          refine (wd _).mono ?_
          rintro e w3 ⟨rfl, hb3⟩
          have hB3 : Below w.heap.size w w3 := hB2.trans (hb3.mono hB2.size)
          clear hB2 hb3 wd
          go_wp2_with fail
          refine (c2 _).mono ?_
          rintro e w4 ⟨rfl, hb4⟩
          have hB4 : Below w.heap.size w w4 := hB3.trans (hb4.mono hB3.size)
          clear hB3 hb4 c2
          go_wp2_with fail
          refine (pr1 _).mono ?_
          rintro e w5 ⟨rfl, hb5⟩
          have hB5 : Below w.heap.size w w5 := hB4.trans (hb5.mono hB4.size)
          clear hB4 hb5 pr1
          go_wp2_with fail
          refine (pr2 _).mono ?_
          rintro e w6 ⟨rfl, hb6⟩
          have hB6 : Below w.heap.size w w6 := hB5.trans (hb6.mono hB5.size)
          clear hB5 hb6 pr2
          go_wp2_with fail
          refine (la _).mono ?_
          rintro e w8 ⟨rfl, hw8⟩
          subst hw8
          clear la
          go_wp2_with fail
          go_ret
          exact ⟨rfl, hB6⟩
        · have hc := hcut n h1 h2 h3
          have c4' := fun w => c4 n w
          rw [hc] at c4'
          subst hN
          have qN : (0 : Int) ≤ (n : Int) := by omega
          have qN2 : (n : Int) ≤ (s.size : Int) := by omega
          clear hc h2 h3 hcut c4
          go_enter Try.func5, Try.ntmps5
          go_wp2_with fail
          refine (answers_any _).mono ?_
          rintro e w1 ⟨rfl, hb1⟩
          go_wp2_with fail
          refine (c1 _).mono ?_
          rintro e w2 ⟨rfl, hb2⟩
          have hB2 : Below w.heap.size w w2 := hb1.trans (hb2.mono hb1.size)
          clear hb1 hb2 c1
          go_wp2_with fail
          refine (wd _).mono ?_
          rintro e w3 ⟨rfl, hb3⟩
          have hB3 : Below w.heap.size w w3 := hB2.trans (hb3.mono hB2.size)
          clear hB2 hb3 wd
          go_wp2_with fail
          refine (c2 _).mono ?_
          rintro e w4 ⟨rfl, hb4⟩
          have hB4 : Below w.heap.size w w4 := hB3.trans (hb4.mono hB3.size)
          clear hB3 hb4 c2
          go_wp2_with fail
          refine (pr1 _).mono ?_
          rintro e w5 ⟨rfl, hb5⟩
          have hB5 : Below w.heap.size w w5 := hB4.trans (hb5.mono hB4.size)
          clear hB4 hb5 pr1
          go_wp2_with fail
          refine (pr2 _).mono ?_
          rintro e w6 ⟨rfl, hb6⟩
          have hB6 : Below w.heap.size w w6 := hB5.trans (hb6.mono hB5.size)
          clear hB5 hb6 pr2
          go_wp2_with fail
          refine (la _).mono ?_
          rintro e w8 ⟨rfl, hw8⟩
          subst hw8
          clear la
          go_wp2_with fail
          refine (c4' _).mono ?_
          rintro e w9 ⟨rfl, hb9⟩
          have hB9 : Below w.heap.size w w9 := hB6.trans (hb9.mono hB6.size)
          clear hB6 hb9 c4'
          go_wp2_with fail
          go_ret
          exact ⟨rfl, hB9⟩
  · have qA : ¬ (WS.size : Int) ≤ 1500 := by omega
    clear hA hw2 hpf hsz1 c2 pr1 pr2
    by_cases hE : x0 ≠ 0
    · have qE : ((x0 : Int) != 0) = true := by rw [bne_iff_ne]; omega
      clear hE hh3 hcut hla c3 c4 la
      go_enter Try.func5, Try.ntmps5
      go_wp2_with fail
      refine (answers_any _).mono ?_
      rintro e w1 ⟨rfl, hb1⟩
      go_wp2_with fail
      refine (c1 _).mono ?_
      rintro e w2 ⟨rfl, hb2⟩
      have hB2 : Below w.heap.size w w2 := hb1.trans (hb2.mono hb1.size)
      clear hb1 hb2 c1
      go_wp2_with fail
      refine (wd _).mono ?_
      rintro e w3 ⟨rfl, hb3⟩
      have hB3 : Below w.heap.size w w3 := hB2.trans (hb3.mono hB2.size)
      clear hB2 hb3 wd
      go_wp2_with fail
      go_ret
      exact ⟨rfl, hB3⟩
    · obtain rfl : x0 = 0 := by omega
      replace hh3 := hh3 rfl
      replace hcut := hcut rfl
      by_cases hL : s.size < 1500
      · have qL : (s.size : Int) < 1500 := by omega
        rw [hh3 hL] at c3
        unfold hashB at c3
        clear hL hh3
        rcases hla with hN | ⟨n, h1, hN, h2, h3⟩
        · have qN : ¬ (0 : Int) ≤ N := by omega
          clear hN hcut c4
          go_enter Try.func5, Try.ntmps5
          go_wp2_with fail
          refine (answers_any _).mono ?_
          rintro e w1 ⟨rfl, hb1⟩
          go_wp2_with fail
          refine (c1 _).mono ?_
          rintro e w2 ⟨rfl, hb2⟩
          have hB2 : Below w.heap.size w w2 := hb1.trans (hb2.mono hb1.size)
          clear hb1 hb2 c1
          go_wp2_with fail
          refine (wd _).mono ?_
          rintro e w3 ⟨rfl, hb3⟩
          have hB3 : Below w.heap.size w w3 := hB2.trans (hb3.mono hB2.size)
          clear hB2 hb3 wd
          go_wp2_with fail
          refine (c3 _).mono ?_
          rintro e w7 ⟨rfl, hb7⟩
          have hB7 : Below w.heap.size w w7 := hB3.trans (hb7.mono hB3.size)
          clear hB3 hb7 c3
          go_wp2_with fail
          refine (la _).mono ?_
          rintro e w8 ⟨rfl, hw8⟩
          subst hw8
          clear la
          go_wp2_with fail
          go_ret
          exact ⟨rfl, hB7⟩
        · have hc := hcut n h1 h2 h3
          have c4' := fun w => c4 n w
          rw [hc] at c4'
          subst hN
          have qN : (0 : Int) ≤ (n : Int) := by omega
          have qN2 : (n : Int) ≤ (s.size : Int) := by omega
          clear hc h2 h3 hcut c4
          go_enter Try.func5, Try.ntmps5
          go_wp2_with fail
          refine (answers_any _).mono ?_
          rintro e w1 ⟨rfl, hb1⟩
          go_wp2_with fail
          refine (c1 _).mono ?_
          rintro e w2 ⟨rfl, hb2⟩
          have hB2 : Below w.heap.size w w2 := hb1.trans (hb2.mono hb1.size)
          clear hb1 hb2 c1
          go_wp2_with fail
          refine (wd _).mono ?_
          rintro e w3 ⟨rfl, hb3⟩
          have hB3 : Below w.heap.size w w3 := hB2.trans (hb3.mono hB2.size)
          clear hB2 hb3 wd
          go_wp2_with fail
          refine (c3 _).mono ?_
          rintro e w7 ⟨rfl, hb7⟩
          have hB7 : Below w.heap.size w w7 := hB3.trans (hb7.mono hB3.size)
          clear hB3 hb7 c3
          go_wp2_with fail
          refine (la _).mono ?_
          rintro e w8 ⟨rfl, hw8⟩
          subst hw8
          clear la
          go_wp2_with fail
          refine (c4' _).mono ?_
          rintro e w9 ⟨rfl, hb9⟩
          have hB9 : Below w.heap.size w w9 := hB7.trans (hb9.mono hB7.size)
          clear hB7 hb9 c4'
          go_wp2_with fail
          go_ret
          exact ⟨rfl, hB9⟩
      · have qL : ¬ (s.size : Int) < 1500 := by omega
        clear hL hh3 c3
        rcases hla with hN | ⟨n, h1, hN, h2, h3⟩
        · have qN : ¬ (0 : Int) ≤ N := by omega
          clear hN hcut c4
          go_enter Try.func5, Try.ntmps5
          go_wp2_with fail
          refine (answers_any _).mono ?_
          rintro e w1 ⟨rfl, hb1⟩
          go_wp2_with fail
          refine (c1 _).mono ?_
          rintro e w2 ⟨rfl, hb2⟩
          have hB2 : Below w.heap.size w w2 := hb1.trans (hb2.mono hb1.size)
          clear hb1 hb2 c1
          go_wp2_with fail
          refine (wd _).mono ?_
          rintro e w3 ⟨rfl, hb3⟩
          have hB3 : Below w.heap.size w w3 := hB2.trans (hb3.mono hB2.size)
          clear hB2 hb3 wd
          go_wp2_with fail
          refine (la _).mono ?_
          rintro e w8 ⟨rfl, hw8⟩
          subst hw8
          clear la
          go_wp2_with fail
          go_ret
          exact ⟨rfl, hB3⟩
        · have hc := hcut n h1 h2 h3
          have c4' := fun w => c4 n w
          rw [hc] at c4'
          subst hN
          have qN : (0 : Int) ≤ (n : Int) := by omega
          have qN2 : (n : Int) ≤ (s.size : Int) := by omega
          clear hc h2 h3 hcut c4
          go_enter Try.func5, Try.ntmps5
          go_wp2_with fail
          refine (answers_any _).mono ?_
          rintro e w1 ⟨rfl, hb1⟩
          go_wp2_with fail
          refine (c1 _).mono ?_
          rintro e w2 ⟨rfl, hb2⟩
          have hB2 : Below w.heap.size w w2 := hb1.trans (hb2.mono hb1.size)
          clear hb1 hb2 c1
          go_wp2_with fail
          refine (wd _).mono ?_
          rintro e w3 ⟨rfl, hb3⟩
          have hB3 : Below w.heap.size w w3 := hB2.trans (hb3.mono hB2.size)
          clear hB2 hb3 wd
          go_wp2_with fail
          refine (la _).mono ?_
          rintro e w8 ⟨rfl, hw8⟩
          subst hw8
          clear la
          go_wp2_with fail
          refine (c4' _).mono ?_
          rintro e w9 ⟨rfl, hb9⟩
          have hB9 : Below w.heap.size w w9 := hB3.trans (hb9.mono hB3.size)
          clear hB3 hb9 c4'
          go_wp2_with fail
          go_ret
          exact ⟨rfl, hB9⟩

end Go.Proofs.Ytmndgoapkmhglaa
