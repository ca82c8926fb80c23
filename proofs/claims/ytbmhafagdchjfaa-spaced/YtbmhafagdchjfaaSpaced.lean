import Derived.Test.YtbmhafagdchjfaaLayE
namespace Go.Proofs.Ytbmhafagdchjfaa
open Go.RowKit
attribute [local go_sem ↓] Go.wp_at_zero Go.wp_at_succ

/-- a place that is told lies in the text. -/
theorem tok_pos (s : ByteArray) (i : Nat) : (tkAt (toks s) i).pos ≤ s.size := by
  have key : ∀ f k, ∀ t ∈ toksFrom s f k, t.pos ≤ s.size := by
    intro f
    induction f with
    | zero => intro k t ht; simp [toksFrom] at ht
    | succ f ih =>
      intro k t ht
      simp only [toksFrom] at ht
      split at ht
      · rename_i hk
        split at ht
        · exact ih _ t ht
        · rcases List.mem_cons.1 ht with rfl | ht
          · exact Nat.le_of_lt hk
          · exact ih _ t ht
      · simp at ht
  by_cases hi : i < (toks s).length
  · have hm := tkAt_mem hi
    generalize tkAt (toks s) i = t at hm ⊢
    unfold toks at hm
    rcases List.mem_append.1 hm with h | h
    · exact key _ _ _ h
    · simp at h; rw [h]; exact Nat.le_refl _
  · have : tkAt (toks s) i = tkEnd := by unfold tkAt; rw [List.getD_eq_getElem?_getD, List.getElem?_eq_none (by omega)]; rfl
    rw [this]; exact Nat.zero_le _

theorem text_pos (s : ByteArray) (hs : s.size ≤ 1500) : (textF s).2 ≤ s.size := by
  have ht : TsR (fun a _ => a ≤ s.size) (toks s) (toks s) :=
    ⟨rfl, fun i => ⟨rfl, tok_pos s i, fun _ => rfl, fun hk => ⟨((toks_dig s).all i hk).2, ((toks_dig s).all i hk).2⟩, fun _ => rfl⟩⟩
  exact (textR (P := fun a _ => a ≤ s.size) (Nat.zero_le _) s s hs hs ht).2

theorem text_long {s : ByteArray} (h : 1500 < s.size) : textF s = (1, 0) := by unfold textF; rw [if_pos h]
theorem text_not1 {s : ByteArray} (h : s.size ≤ 1500) : (textF s).1 ≠ 1 := by
  unfold textF
  rw [if_neg (by omega)]
  split
  · simp
  · unfold meaningF
    repeat' split
    all_goals simp

/-- what `last` tells, by lists. -/
theorem lastN_split (s : ByteArray) : ∀ k, k ≤ s.size → (lastN s k = -1) ∨ ∃ n : Nat, n < k ∧ lastN s k = (n : Int) ∧ byt s n = 59 ∧ ∀ j, n < j → j < k → byt s j ≠ 59 := by
  intro k
  induction k with
  | zero => intro _; exact .inl rfl
  | succ k ih =>
    intro hk
    unfold lastN
    by_cases hb : byt s k = 59
    · rw [if_pos hb]
      exact .inr ⟨k, Nat.lt_succ_self _, rfl, hb, fun j h1 h2 => by omega⟩
    · rw [if_neg hb]
      rcases ih (by omega) with h | ⟨n, h1, h2, h3, h4⟩
      · exact .inl h
      · refine .inr ⟨n, by omega, h2, h3, fun j h5 h6 => ?_⟩
        by_cases e : j = k
        · rw [e]; exact hb
        · exact h4 j h5 (by omega)

theorem cut_at (s : ByteArray) (n : Nat) (hs : s.size ≤ 1500) (h : (textF s).1 = 0) (hn : n < s.size) (hb : byt s n = 59) (hl : ∀ j, n < j → j < s.size → byt s j ≠ 59) : textF (s.extract 0 n) = (2, n) := by
  have hlen : s.data.toList.length = s.size := Array.length_toList
  have hx : (s.extract 0 n).data.toList = s.data.toList.take n := by
    rw [ByteArray.data_extract, Array.toList_extract, List.extract_eq_take_drop]; simp
  have h59 : s.data.toList[n]'(by omega) = 59 := by
    have := byt_list s n (by omega)
    rw [hb] at this
    exact UInt8.toNat_inj.1 this.symm
  have hsplit : s.data.toList = s.data.toList.take n ++ 59 :: s.data.toList.drop (n + 1) := by
    rw [← h59, ← List.drop_eq_getElem_cons (by omega), List.take_append_drop]
  have hno : (59 : UInt8) ∉ s.data.toList.drop (n + 1) := by
    intro hm
    obtain ⟨j, hj, e⟩ := List.getElem_of_mem hm
    rw [List.length_drop] at hj
    rw [List.getElem_drop] at e
    have := byt_list s (n + 1 + j) (by omega)
    rw [e] at this
    exact hl (n + 1 + j) (by omega) (by omega) this
  have := cut_text s (s.extract 0 n) _ _ hs h hsplit hno hx
  rw [this, List.length_take]
  congr 1
  omega

end Go.Proofs.Ytbmhafagdchjfaa
