import Derived.Test.YtmndgoapkmhglabM42KpP
/- Plain mathematics: playable, and kept to bounds, as the program tells it: by the act of the place ahead. -/
namespace Go.Proofs.Ytmndgoapkmhglab
open Go.RowKit

/-- the last of the first k acts that is of the place of act i. -/
def aheadG (sc : List OpF) (i : Nat) : Nat → Option Nat
  | 0 => none
  | k + 1 => if (actF sc k).k = (actF sc i).k then some k else aheadG sc i k
def aheadP (sc : List OpF) (i : Nat) : Option Nat := aheadG sc i i
theorem aheadG_some {sc : List OpF} {i : Nat} : ∀ {k m : Nat}, aheadG sc i k = some m → m < k ∧ (actF sc m).k = (actF sc i).k ∧ ∀ t, m < t → t < k → (actF sc t).k ≠ (actF sc i).k := by
  intro k
  induction k with
  | zero => intro m h; cases h
  | succ k ih =>
    intro m h
    unfold aheadG at h
    split at h
    · rename_i hk
      cases h
      exact ⟨Nat.lt_succ_self _, hk, fun t h1 h2 => by omega⟩
    · rename_i hk
      obtain ⟨h1, h2, h3⟩ := ih h
      refine ⟨by omega, h2, fun t g1 g2 => ?_⟩
      rcases Nat.lt_succ_iff_lt_or_eq.1 g2 with h' | rfl
      · exact h3 t g1 h'
      · exact hk
theorem aheadG_none {sc : List OpF} {i : Nat} : ∀ {k : Nat}, aheadG sc i k = none → ∀ t, t < k → (actF sc t).k ≠ (actF sc i).k := by
  intro k
  induction k with
  | zero => intro _ t ht; omega
  | succ k ih =>
    intro h t ht
    unfold aheadG at h
    split at h
    · cases h
    · rename_i hk
      rcases Nat.lt_succ_iff_lt_or_eq.1 ht with h' | rfl
      · exact ih h t h'
      · exact hk

theorem laterG_is (sc : List OpF) (i : Nat) : ∀ (f k m : Nat), laterG sc i f k = (m : Int) → k ≤ m ∧ m < k + f ∧ (actF sc m).k = (actF sc i).k ∧ ∀ t, k ≤ t → t < m → (actF sc t).k ≠ (actF sc i).k := by
  intro f
  induction f with
  | zero => intro k m h; unfold laterG at h; omega
  | succ f ih =>
    intro k m h
    unfold laterG at h
    split at h
    · rename_i hk
      have : k = m := by omega
      subst this
      exact ⟨Nat.le_refl _, by omega, hk, fun t h1 h2 => by omega⟩
    · rename_i hk
      obtain ⟨h1, h2, h3, h4⟩ := ih (k + 1) m h
      refine ⟨by omega, by omega, h3, fun t g1 g2 => ?_⟩
      rcases Nat.eq_or_lt_of_le g1 with rfl | h'
      · exact hk
      · exact h4 t h' g2
theorem later_is {sc : List OpF} {i m : Nat} (hi : i < sc.length) (h : laterF sc i = (m : Int)) : i < m ∧ m < sc.length ∧ (actF sc m).k = (actF sc i).k ∧ ∀ t, i < t → t < m → (actF sc t).k ≠ (actF sc i).k := by
  obtain ⟨h1, h2, h3, h4⟩ := laterG_is sc i _ _ m h
  exact ⟨by omega, by omega, h3, fun t g1 g2 => h4 t (by omega) g2⟩

/-- the act ahead and the act behind. -/
theorem ahead_later {sc : List OpF} {i j : Nat} (hj : j < sc.length) : (aheadP sc j = some i) ↔ i < j ∧ laterF sc i = (j : Int) := by
  constructor
  · intro h
    obtain ⟨h1, h2, h3⟩ := aheadG_some h
    refine ⟨h1, ?_⟩
    obtain ⟨m, e, g1, g2, g3⟩ := later_hit sc i (sc.length - (i + 1)) (i + 1) j (by omega) (by omega) h2.symm
    have hm : m = j := by
      rcases Nat.eq_or_lt_of_le g2 with h' | h'
      · exact h'
      · exact absurd (g3.trans h2) (h3 m (by omega) h')
    subst hm
    exact e
  · rintro ⟨hij, h⟩
    obtain ⟨_, _, h3, h4⟩ := later_is (by omega) h
    cases hc : aheadP sc j with
    | none => exact absurd h3.symm (aheadG_none hc i hij)
    | some k =>
      obtain ⟨g1, g2, g3⟩ := aheadG_some hc
      rcases Nat.lt_trichotomy k i with h' | h' | h'
      · exact absurd h3.symm (g3 i h' hij)
      · rw [h']
      · exact absurd (g2.trans h3) (h4 k h' g1)
theorem ahead_first {sc : List OpF} {j : Nat} : aheadP sc j = none ↔ firstF sc j = true := by
  unfold firstF firstG
  rw [List.all_eq_true]
  constructor
  · intro h i hi
    rw [List.mem_range] at hi
    rw [bne_iff_ne]
    exact aheadG_none h i hi
  · intro h
    cases hc : aheadP sc j with
    | none => rfl
    | some k =>
      obtain ⟨g1, g2, _⟩ := aheadG_some hc
      have := h k (List.mem_range.2 g1)
      rw [bne_iff_ne] at this
      exact absurd g2 this

/-- the time of the act before. -/
def lastP (sc : List OpF) : Nat → Int
  | 0 => 0
  | i + 1 => (actF sc i).a
def inB (x l m : Int) : Bool := decide (l ≤ x) && decide (x ≤ m)
def bothB (o : OpF) (l m : Int) : Bool := inB o.b l m && inB o.c l m
theorem inB_iff (x l m : Int) : inB x l m = true ↔ l ≤ x ∧ x ≤ m := by simp [inB]
theorem bothB_iff (o : OpF) (l m : Int) : bothB o l m = true ↔ (l ≤ o.b ∧ o.b ≤ m) ∧ (l ≤ o.c ∧ o.c ≤ m) := by simp [bothB, inB]
def okA (ws : List Nat) (sc : List OpF) (i : Nat) : Bool := hereK ws (actF sc i).k && inB (actF sc i).a (lastP sc i) 1099511627776 && bothB (actF sc i) 0 1099511627776
def apartA (sc : List OpF) (i : Nat) : Bool := match aheadP sc i with
  | none => true
  | some k => bothB (actF sc k) 0 ((actF sc i).a - (actF sc k).a - 1)
def playP (ws : List Nat) (sc : List OpF) : Bool := decide (sc.length ≤ 400) && (List.range sc.length).all (okA ws sc) && (List.range sc.length).all (apartA sc)
def keepA (b : BdF) (sc : List OpF) (i : Nat) : Bool := bothB (actF sc i) b.dmin b.dmax && match aheadP sc i with
  | none => decide ((actF sc i).a ≤ b.tmax)
  | some k => inB ((actF sc i).a - (actF sc k).a) b.tmin b.tmax
def keepP (b : BdF) (sc : List OpF) : Bool := (List.range sc.length).all (keepA b sc)

theorem all_iff {n : Nat} {p : Nat → Bool} : (List.range n).all p = true ↔ ∀ i, i < n → p i = true := by
  rw [List.all_eq_true]
  exact ⟨fun h i hi => h i (List.mem_range.2 hi), fun h i hi => h i (List.mem_range.1 hi)⟩
theorem ok_time {ws : List Nat} {sc : List OpF} {n : Nat} (h : ∀ i, i < n → okA ws sc i = true) : ∀ i, i < n → 0 ≤ (actF sc i).a ∧ (actF sc i).a ≤ 1099511627776 := by
  intro i
  induction i with
  | zero =>
    intro hi
    have := h 0 hi
    unfold okA at this
    rw [Bool.and_eq_true, Bool.and_eq_true, inB_iff] at this
    exact this.1.2
  | succ i ih =>
    intro hi
    have := h (i + 1) hi
    unfold okA at this
    rw [Bool.and_eq_true, Bool.and_eq_true, inB_iff] at this
    have h1 : (actF sc i).a ≤ (actF sc (i + 1)).a := this.1.2.1
    have h2 := ih (by omega)
    exact ⟨by omega, this.1.2.2⟩

theorem playP_eq (ws : List Nat) (sc : List OpF) : playP ws sc = playK ws sc := by
  rw [Bool.eq_iff_iff]
  unfold playP playK
  rw [Bool.and_eq_true, Bool.and_eq_true, Bool.and_eq_true, decide_eq_true_iff, and_assoc]
  refine and_congr Iff.rfl ?_
  rw [all_iff, all_iff, all_iff]
  constructor
  · rintro ⟨h1, h2⟩ i hi
    have ht := ok_time h1
    rw [Bool.not_eq_true', badK_iff]
    have h3 := h1 i hi
    unfold okA at h3
    rw [Bool.and_eq_true, Bool.and_eq_true, inB_iff, bothB_iff] at h3
    refine ⟨h3.1.1, ht i hi, h3.2.1, h3.2.2, (back_iff sc i).2 fun j e => ?_, fun h => ?_⟩
    · subst e; exact h3.1.2.1
    · unfold nextF at h ⊢
      split at h
      · omega
      · rename_i hn
        obtain ⟨m, e, g1, g2⟩ := later_nat sc hi (by omega)
        rw [if_neg hn, e, Int.toNat_natCast]
        have h4 := h2 m g2
        unfold apartA at h4
        rw [(ahead_later g2).2 ⟨g1, e⟩] at h4
        simp only [bothB_iff] at h4
        have t1 := ht i hi
        have t2 := ht m g2
        rw [show IntKind.i64.wrap ((actF sc m).a - (actF sc i).a) = (actF sc m).a - (actF sc i).a by rw [IntKind.wrap_i64]; omega]
        omega
  · intro h
    have hk : ∀ i, i < sc.length → _ := fun i hi => (badK_iff ws sc i).1 (by have := h i hi; rwa [Bool.not_eq_true'] at this)
    refine ⟨fun i hi => ?_, fun i hi => ?_⟩
    · obtain ⟨g1, g2, g3, g4, g5, g6⟩ := hk i hi
      unfold okA
      rw [Bool.and_eq_true, Bool.and_eq_true, inB_iff, bothB_iff]
      refine ⟨⟨g1, ?_, g2.2⟩, g3, g4⟩
      cases i with
      | zero => exact g2.1
      | succ i => exact (back_iff sc (i + 1)).1 g5 i rfl
    · unfold apartA
      cases hc : aheadP sc i with
      | none => rfl
      | some k =>
        obtain ⟨g1, e⟩ := (ahead_later hi).1 hc
        obtain ⟨_, a1, b1, c1, _, h6⟩ := hk k (by omega)
        have a2 := (hk i hi).2.1
        have hm : (actF sc k).a ≤ (actF sc i).a := by
          have : ∀ d, k + d < sc.length → (actF sc k).a ≤ (actF sc (k + d)).a := by
            intro d
            induction d with
            | zero => intro _; exact Int.le_refl _
            | succ d ih =>
              intro hd
              have h7 := ih (by omega)
              have h8 := (back_iff sc (k + d + 1)).1 (hk (k + d + 1) hd).2.2.2.2.1 (k + d) rfl
              exact Int.le_trans h7 h8
          have h9 := this (i - k) (by omega)
          rwa [show k + (i - k) = i by omega] at h9
        have hw : IntKind.i64.wrap ((actF sc i).a - (actF sc k).a) = (actF sc i).a - (actF sc k).a := by rw [IntKind.wrap_i64]; omega
        have hx : nextF sc k = (actF sc i).a - (actF sc k).a := by
          unfold nextF
          rw [e, if_neg (by omega), Int.toNat_natCast, hw]
        rw [hx] at h6
        have h7 := h6 (by omega)
        simp only [bothB_iff]
        omega

theorem keepP_eq {ts : List Tk} {L : List Dl} {b : BdF} {sc : List OpF} (hP : ∀ i, i < sc.length → ActOk ts L sc i) : keepP b sc = true ↔ ∀ i, i < sc.length → badV b sc i = false := by
  have hw : ∀ i j, i < sc.length → j < sc.length → IntKind.i64.wrap ((actF sc j).a - (actF sc i).a) = (actF sc j).a - (actF sc i).a := fun i j hi hj => by
    have h1 := (hP i hi).a0
    have h2 := (hP j hj).a0
    rw [IntKind.wrap_i64]; omega
  unfold keepP
  rw [all_iff]
  constructor
  · intro h i hi
    rw [badV_iff b sc hi]
    have h1 := h i hi
    unfold keepA at h1
    rw [Bool.and_eq_true, bothB_iff] at h1
    refine ⟨fun hf => ?_, h1.1.1, h1.1.2, fun m e => ?_⟩
    · have h2 := h1.2
      rw [ahead_first.2 hf] at h2
      simpa using h2
    · obtain ⟨g1, g2, _⟩ := later_is hi e
      have h2 := h m g2
      unfold keepA at h2
      rw [Bool.and_eq_true, (ahead_later g2).2 ⟨g1, e⟩] at h2
      rw [hw i m hi g2]
      simpa only [inB_iff] using h2.2
  · intro h i hi
    have hv := fun j (hj : j < sc.length) => (badV_iff b sc hj).1 (h j hj)
    unfold keepA
    rw [Bool.and_eq_true, bothB_iff]
    refine ⟨⟨(hv i hi).ack, (hv i hi).data⟩, ?_⟩
    cases hc : aheadP sc i with
    | none => simpa using (hv i hi).first (ahead_first.1 hc)
    | some k =>
      obtain ⟨g1, e⟩ := (ahead_later hi).1 hc
      have := (hv k (by omega)).gap i e
      rw [hw k i (by omega) hi] at this
      simpa only [inB_iff] using this

end Go.Proofs.Ytmndgoapkmhglab
