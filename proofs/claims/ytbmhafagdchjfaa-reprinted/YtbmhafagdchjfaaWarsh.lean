/- Plain mathematics: what leads where, in however many steps. -/
namespace Go.Proofs.Ytbmhafagdchjfaa

abbrev Mx := Nat → Nat → Bool
def phase (M : Mx) (k : Nat) : Mx := fun i j => M i j || (M i k && M k j)
def warsh (M : Mx) : Nat → Mx
  | 0 => M
  | k + 1 => phase (warsh M k) k

/-- in the midst of a phase: the rows ahead of f are done, and of row f what stands ahead of m. -/
def midM (M : Mx) (k f m : Nat) : Mx := fun i j => if i < f ∨ (i = f ∧ j < m) then phase M k i j else M i j

theorem phase_row (M : Mx) (k j : Nat) : phase M k k j = M k j := by
  unfold phase; cases h : M k j <;> simp

theorem midM_zero (M : Mx) (k : Nat) : midM M k 0 0 = M := by
  funext i j; unfold midM; rw [if_neg (by omega)]
theorem midM_between (M : Mx) (k f m j : Nat) (h : ¬ (k = f ∧ j < m)) : midM M k f m k j = M k j := by
  unfold midM
  by_cases h1 : k < f
  · rw [if_pos (.inl h1)]; exact phase_row M k j
  · rw [if_neg (by omega)]
theorem midM_here (M : Mx) (k f m j : Nat) (h : m ≤ j) : midM M k f m f j = M f j := by
  unfold midM; rw [if_neg (by omega)]

def upd (M : Mx) (a b : Nat) (v : Bool) : Mx := fun i j => if i = a ∧ j = b then v else M i j

theorem midM_set (M : Mx) (k f m : Nat) (h1 : M f k = true) (h2 : M k m = true) : upd (midM M k f m) f m true = midM M k f (m + 1) := by
  funext i j
  unfold upd midM
  by_cases e : i = f ∧ j = m
  · obtain ⟨rfl, rfl⟩ := e
    rw [if_pos ⟨rfl, rfl⟩, if_pos (.inr ⟨rfl, by omega⟩)]
    unfold phase; rw [h1, h2]; simp
  · rw [if_neg e]
    by_cases h : i < f ∨ (i = f ∧ j < m)
    · rw [if_pos h, if_pos (by omega)]
    · rw [if_neg h, if_neg (by omega)]
theorem midM_skip (M : Mx) (k f m : Nat) (h2 : M k m = false) : midM M k f m = midM M k f (m + 1) := by
  funext i j
  unfold midM
  by_cases h : i < f ∨ (i = f ∧ j < m)
  · rw [if_pos h, if_pos (by omega)]
  · rw [if_neg h]
    by_cases e : i = f ∧ j = m
    · obtain ⟨rfl, rfl⟩ := e
      rw [if_pos (.inr ⟨rfl, by omega⟩)]
      unfold phase; rw [h2]; simp
    · rw [if_neg (by omega)]
/-- agreement below n. -/
def agree (n : Nat) (A B : Mx) : Prop := ∀ i j, i < n → j < n → A i j = B i j
theorem midM_done (M : Mx) (n k f m : Nat) (hm : n ≤ m) : agree n (midM M k f m) (midM M k (f + 1) 0) := by
  intro i j _ hj
  unfold midM
  by_cases h : i < f ∨ (i = f ∧ j < m)
  · rw [if_pos h, if_pos (by omega)]
  · rw [if_neg h, if_neg (by omega)]
theorem midM_pass (M : Mx) (n k f : Nat) (h : M f k = false) : agree n (midM M k f 0) (midM M k (f + 1) 0) := by
  intro i j _ _
  unfold midM
  by_cases h1 : i < f
  · rw [if_pos (.inl h1), if_pos (by omega)]
  · rw [if_neg (by omega)]
    by_cases e : i = f
    · subst e
      rw [if_pos (by omega)]
      unfold phase; rw [h]; simp
    · rw [if_neg (by omega)]
theorem midM_all (M : Mx) (n k f : Nat) (h : n ≤ f) : agree n (midM M k f 0) (phase M k) := by
  intro i j hi _
  unfold midM
  rw [if_pos (by omega)]

/-- i leads to j in one step or more, by the ones below n. -/
def Leads (n : Nat) (M : Mx) : Nat → Nat → Nat → Prop
  | 0, _, _ => False
  | f + 1, i, j => M i j = true ∨ ∃ k, k < n ∧ M i k = true ∧ Leads n M f k j

end Go.Proofs.Ytbmhafagdchjfaa
