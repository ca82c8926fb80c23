import Derived.Test.YtmndgoapkmhglaaA32HeldT
import Derived.Test.YtmndgoapkmhglaaA38RefK
/- Plain mathematics: a script that keeps to its bounds: up to its horizon each place wakes in time. -/
namespace Go.Proofs.Ytmndgoapkmhglaa
open Go.RowKit

/-- does an act break the bounds? -/
def badV (b : BdF) (sc : List OpF) (i : Nat) : Bool :=
  (firstF sc i && decide (b.tmax < (actF sc i).a)) || decide ((actF sc i).b < b.dmin) || decide (b.dmax < (actF sc i).b) || decide ((actF sc i).c < b.dmin) || decide (b.dmax < (actF sc i).c) ||
  (decide (0 ≤ laterF sc i) && (decide (IntKind.i64.wrap ((actF sc (laterF sc i).toNat).a - (actF sc i).a) < b.tmin) || decide (b.tmax < IntKind.i64.wrap ((actF sc (laterF sc i).toNat).a - (actF sc i).a))))
/-- the answer of Valid to a right text. -/
def validF (ts : List Tk) (L : List Dl) (b : BdF) (sc : List OpF) : Nat :=
  if fitF b = false then 10 else if playF ts L sc = true ∧ ∀ i, i < sc.length → badV b sc i = false then 0 else 11

structure VldOk (b : BdF) (sc : List OpF) (i : Nat) : Prop where
  first : firstF sc i = true → (actF sc i).a ≤ b.tmax
  ack : b.dmin ≤ (actF sc i).b ∧ (actF sc i).b ≤ b.dmax
  data : b.dmin ≤ (actF sc i).c ∧ (actF sc i).c ≤ b.dmax
  gap : ∀ m : Nat, laterF sc i = (m : Int) → b.tmin ≤ IntKind.i64.wrap ((actF sc m).a - (actF sc i).a) ∧ IntKind.i64.wrap ((actF sc m).a - (actF sc i).a) ≤ b.tmax
theorem later_nat (sc : List OpF) {i : Nat} (hi : i < sc.length) (h : 0 ≤ laterF sc i) : ∃ m : Nat, laterF sc i = (m : Int) ∧ i < m ∧ m < sc.length := by
  rcases later_range sc i (sc.length - (i + 1)) (i + 1) (by omega) (by omega) with e | ⟨j, e, h1, h2⟩
  · have e' : laterF sc i = -1 := e
    omega
  · exact ⟨j, e, h1, h2⟩
theorem badV_iff (b : BdF) (sc : List OpF) {i : Nat} (hi : i < sc.length) : badV b sc i = false ↔ VldOk b sc i := by
  unfold badV
  simp only [Bool.or_eq_false_iff, Bool.and_eq_false_iff, decide_eq_false_iff_not]
  constructor
  · rintro ⟨⟨⟨⟨⟨h1, h2⟩, h3⟩, h4⟩, h5⟩, h6⟩
    refine ⟨fun hf => ?_, ⟨by omega, by omega⟩, ⟨by omega, by omega⟩, fun m e => ?_⟩
    · rcases h1 with h1 | h1
      · rw [hf] at h1; cases h1
      · omega
    · rw [e] at h6
      rcases h6 with h6 | ⟨h6, h7⟩
      · omega
      · rw [Int.toNat_natCast] at h6 h7; omega
  · rintro ⟨h1, h2, h3, h4⟩
    refine ⟨⟨⟨⟨⟨?_, by omega⟩, by omega⟩, by omega⟩, by omega⟩, ?_⟩
    · cases hf : firstF sc i with
      | false => exact .inl rfl
      | true => have := h1 hf; exact .inr (by omega)
    · by_cases h : 0 ≤ laterF sc i
      · obtain ⟨m, e, _, _⟩ := later_nat sc hi h
        have := h4 m e
        rw [e, Int.toNat_natCast]
        exact .inr ⟨by omega, by omega⟩
      · exact .inl h

theorem greatest {p : Nat → Prop} [DecidablePred p] : ∀ j, (∃ i, i < j ∧ p i) → ∃ i, i < j ∧ p i ∧ ∀ m, i < m → m < j → ¬ p m := by
  intro j
  induction j with
  | zero => rintro ⟨i, hi, _⟩; omega
  | succ j ih =>
    rintro ⟨i, hi, hp⟩
    by_cases hj : p j
    · exact ⟨j, Nat.lt_succ_self _, hj, fun m h1 h2 => by omega⟩
    · obtain ⟨i', h1, h2, h3⟩ := ih ⟨i, by rcases Nat.lt_succ_iff_lt_or_eq.1 hi with h | rfl; exact h; exact absurd hp hj, hp⟩
      refine ⟨i', by omega, h2, fun m g1 g2 => ?_⟩
      rcases Nat.lt_succ_iff_lt_or_eq.1 g2 with h | rfl
      · exact h3 m g1 h
      · exact hj
theorem least {p : Nat → Prop} [DecidablePred p] : ∀ j, p j → ∃ i, i ≤ j ∧ p i ∧ ∀ m, m < i → ¬ p m := by
  intro j
  induction j using Nat.strongRecOn with
  | _ j ih =>
    intro hp
    by_cases h : ∃ m, m < j ∧ p m
    · obtain ⟨m, h1, h2⟩ := h
      obtain ⟨i, g1, g2, g3⟩ := ih m h1 h2
      exact ⟨i, by omega, g2, g3⟩
    · exact ⟨j, Nat.le_refl _, hp, fun m hm hpm => h ⟨m, hm, hpm⟩⟩

/-- an act is its place's first, or the next of one ahead of it. -/
theorem prev_act (sc : List OpF) {j : Nat} (hj : j < sc.length) : firstF sc j = true ∨ ∃ i, i < j ∧ (actF sc i).k = (actF sc j).k ∧ laterF sc i = (j : Int) := by
  by_cases h : ∃ i, i < j ∧ (actF sc i).k = (actF sc j).k
  · obtain ⟨i, h1, h2, h3⟩ := greatest j h
    refine .inr ⟨i, h1, h2, ?_⟩
    obtain ⟨m, e, g1, g2, g3⟩ := later_hit sc i (sc.length - (i + 1)) (i + 1) j (by omega) (by omega) h2.symm
    have hm : m = j := by
      rcases Nat.eq_or_lt_of_le g2 with h' | h'
      · exact h'
      · exact absurd (g3.trans h2) (h3 m (by omega) h')
    subst hm
    exact e
  · refine .inl ?_
    unfold firstF firstG
    rw [List.all_eq_true]
    intro i hi
    rw [List.mem_range] at hi
    rw [bne_iff_ne]
    exact fun e => h ⟨i, hi, e⟩

/-- a script within bounds wakes each place in time, up to its last act. -/
theorem valid_act {ts : List Tk} {L : List Dl} {b : BdF} {sc : List OpF} (hP : ∀ i, i < sc.length → ActOk ts L sc i) (hV : ∀ i, i < sc.length → VldOk b sc i) {q x : Int} (hx : 0 ≤ x) {j : Nat} (hj : j < sc.length) (hk : (actF sc j).k = q) (hl : x < (actF sc j).a) : ∃ a ∈ sc, a.k = q ∧ x < a.a ∧ a.a ≤ x + b.tmax := by
  obtain ⟨i, h1, ⟨h2, h3, h4⟩, h5⟩ := least (p := fun i => i < sc.length ∧ (actF sc i).k = q ∧ x < (actF sc i).a) j ⟨hj, hk, hl⟩
  refine ⟨actF sc i, by rw [← actF_get h2]; exact List.getElem_mem h2, h3, h4, ?_⟩
  rcases prev_act sc h2 with hf | ⟨m, g1, g2, g3⟩
  · have := (hV i h2).first hf; omega
  · have hm : ¬ x < (actF sc m).a := fun e => h5 m g1 ⟨by omega, by rw [g2]; exact h3, e⟩
    have h6 := (hV m (by omega)).gap i g3
    have a1 := (hP m (by omega)).a0
    have a2 := (hP i h2).a0
    have hw : IntKind.i64.wrap ((actF sc i).a - (actF sc m).a) = (actF sc i).a - (actF sc m).a := by rw [IntKind.wrap_i64]; omega
    rw [hw] at h6
    omega

/-- when a place wakes last; -1 if never. -/
def lastA (q : Int) : List OpF → Int → Int
  | [], z => z
  | a :: r, z => lastA q r (if a.k = q then a.a else z)
/-- the time up to which all places wake. -/
def horA (sc : List OpF) : List Int → Int → Int
  | [], h => h
  | q :: r, h => horA sc r (if lastA q sc (-1) < h then lastA q sc (-1) else h)
def horF (sc : List OpF) : List Int → Int
  | [] => -1
  | q :: r => horA sc r (lastA q sc (-1))
theorem lastA_is (q : Int) : ∀ (sc : List OpF) (z : Int), lastA q sc z = z ∨ ∃ a ∈ sc, a.k = q ∧ a.a = lastA q sc z := by
  intro sc
  induction sc with
  | nil => intro z; exact .inl rfl
  | cons a r ih =>
    intro z
    simp only [lastA]
    rcases ih (if a.k = q then a.a else z) with e | ⟨c, h1, h2, h3⟩
    · by_cases h : a.k = q
      · rw [if_pos h] at e ⊢
        exact .inr ⟨a, by simp, h, by rw [e]⟩
      · rw [if_neg h] at e ⊢
        exact .inl e
    · exact .inr ⟨c, List.mem_cons_of_mem _ h1, h2, h3⟩
theorem horA_le (sc : List OpF) : ∀ (l : List Int) (h : Int), horA sc l h ≤ h ∧ ∀ q ∈ l, horA sc l h ≤ lastA q sc (-1) := by
  intro l
  induction l with
  | nil => intro h; exact ⟨Int.le_refl _, fun q hq => by simp at hq⟩
  | cons q r ih =>
    intro h
    simp only [horA]
    obtain ⟨h1, h2⟩ := ih (if lastA q sc (-1) < h then lastA q sc (-1) else h)
    have : (if lastA q sc (-1) < h then lastA q sc (-1) else h) ≤ h ∧ (if lastA q sc (-1) < h then lastA q sc (-1) else h) ≤ lastA q sc (-1) := by split <;> omega
    refine ⟨by omega, fun p hp => ?_⟩
    rcases List.mem_cons.1 hp with rfl | hp
    · omega
    · exact h2 p hp
theorem horF_le (sc : List OpF) (l : List Int) : ∀ q ∈ l, horF sc l ≤ lastA q sc (-1) := by
  intro q hq
  cases l with
  | nil => simp at hq
  | cons p r =>
    obtain ⟨h1, h2⟩ := horA_le sc r (lastA p sc (-1))
    rcases List.mem_cons.1 hq with rfl | hq
    · exact h1
    · exact h2 q hq

theorem valid_bound {ts : List Tk} {L : List Dl} {b : BdF} {sc : List OpF} (hlp : lpR ts L = none) (hpl : ∀ x ∈ eqL L, placeD ts x < 4) (hf : 1 ≤ b.tmin ∧ b.tmin ≤ b.tmax ∧ 0 ≤ b.dmin ∧ b.dmin ≤ b.dmax) (hP : ∀ i, i < sc.length → ActOk ts L sc i) (hV : ∀ i, i < sc.length → VldOk b sc i) {ps : List Int} (hps : ∀ q, QR ts L q → q ∈ ps) :
    Bound (netR ts L) sc (QR ts L) (fun q => depN (waitM ts L) q.toNat 3) b.tmax b.dmax (horF sc ps) := by
  have hlast : ∀ q, QR ts L q → ∀ x, -1 ≤ x → x < horF sc ps → ∃ j, j < sc.length ∧ (actF sc j).k = q ∧ x < (actF sc j).a := fun q hq x hx hh => by
    have h1 := horF_le sc ps q (hps q hq)
    rcases lastA_is q sc (-1) with e | ⟨a, ha, hk, he⟩
    · omega
    · obtain ⟨j, hj, rfl⟩ := List.getElem_of_mem ha
      rw [actF_get hj] at hk he
      exact ⟨j, hj, hk, by omega⟩
  refine ⟨play_acts hP, fun a ha => ?_, by omega, by omega, net_ends ts L, fun q hq hh => ?_, fun q hq x hx hh => ?_, net_dep hlp hpl⟩
  · obtain ⟨j, hj, rfl⟩ := List.getElem_of_mem ha
    rw [actF_get hj]
    exact ⟨(hV j hj).ack.2, (hV j hj).data.2⟩
  · obtain ⟨j, hj, hk, hl⟩ := hlast q hq (-1) (Int.le_refl _) (by omega)
    obtain ⟨i, h1, ⟨h2, h3⟩, h5⟩ := least (p := fun i => i < sc.length ∧ (actF sc i).k = q) j ⟨hj, hk⟩
    refine ⟨actF sc i, by rw [← actF_get h2]; exact List.getElem_mem h2, h3, ?_⟩
    rcases prev_act sc h2 with hf' | ⟨m, g1, g2, _⟩
    · exact (hV i h2).first hf'
    · exact absurd ⟨by omega, by rw [g2]; exact h3⟩ (h5 m g1)
  · obtain ⟨j, hj, hk, hl⟩ := hlast q hq x (by omega) (by omega)
    exact valid_act hP hV hx hj hk hl

end Go.Proofs.Ytmndgoapkmhglaa

/- Plain mathematics: a script made to keep to bounds keeps to them. -/
namespace Go.Proofs.Ytmndgoapkmhglaa
open Go.RowKit

/-- made by next times of the places: the act whose time is the least comes next. -/
def RegA (b : BdF) (ps : List Int) : (Int → Int) → List OpF → Prop
  | _, [] => True
  | w, a :: r => a.k ∈ ps ∧ a.a = w a.k ∧ (∀ q ∈ ps, a.a ≤ w q) ∧ (b.dmin ≤ a.b ∧ a.b ≤ b.dmax) ∧ (b.dmin ≤ a.c ∧ a.c ≤ b.dmax) ∧ ∃ d, b.tmin ≤ d ∧ d ≤ b.tmax ∧ RegA b ps (fun q => if q = a.k then a.a + d else w q) r

theorem actF_zero (a : OpF) (r : List OpF) : actF (a :: r) 0 = a := rfl
theorem actF_succ (a : OpF) (r : List OpF) (j : Nat) : actF (a :: r) (j + 1) = actF r j := by simp [actF]
theorem first_succ {a : OpF} {r : List OpF} {j : Nat} (h : firstF (a :: r) (j + 1) = true) : (actF r j).k ≠ a.k ∧ firstF r j = true := by
  unfold firstF firstG at *
  rw [List.all_eq_true] at *
  refine ⟨fun e => ?_, fun t ht => ?_⟩
  · have := h 0 (List.mem_range.2 (by omega))
    rw [actF_zero, actF_succ, bne_iff_ne] at this
    exact this e.symm
  · have := h (t + 1) (List.mem_range.2 (by have := List.mem_range.1 ht; omega))
    rw [actF_succ, actF_succ] at this
    exact this
theorem laterG_succ (a : OpF) (r : List OpF) (i : Nat) : ∀ f k, laterG (a :: r) (i + 1) f (k + 1) = if laterG r i f k = -1 then -1 else laterG r i f k + 1 := by
  intro f
  induction f with
  | zero => intro k; rfl
  | succ f ih =>
    intro k
    unfold laterG
    rw [actF_succ, actF_succ]
    by_cases h : (actF r k).k = (actF r i).k
    · rw [if_pos h, if_pos h, if_neg (by omega)]; omega
    · rw [if_neg h, if_neg h, ih]
theorem later_succ {a : OpF} {r : List OpF} {i m : Nat} (hi : i < r.length) (h : laterF (a :: r) (i + 1) = (m : Int)) : ∃ m', m = m' + 1 ∧ laterF r i = (m' : Int) := by
  unfold laterF at *
  rw [show (a :: r).length - (i + 1 + 1) = r.length - (i + 1) by simp, laterG_succ] at h
  rcases later_range r i (r.length - (i + 1)) (i + 1) (by omega) (by omega) with e | ⟨j, e, _⟩
  · rw [e, if_pos rfl] at h; omega
  · rw [e, if_neg (by omega)] at h
    exact ⟨j, by omega, e⟩
theorem laterG_zero (a : OpF) (r : List OpF) : ∀ f k m, k + f = r.length → (∀ t, t < k → (actF r t).k ≠ a.k) → laterG (a :: r) 0 f (k + 1) = ((m : Nat) : Int) → ∃ m', m = m' + 1 ∧ m' < r.length ∧ (actF r m').k = a.k ∧ firstF r m' = true := by
  intro f
  induction f with
  | zero => intro k m _ _ h; unfold laterG at h; omega
  | succ f ih =>
    intro k m hk hn h
    unfold laterG at h
    rw [actF_succ, actF_zero] at h
    by_cases hc : (actF r k).k = a.k
    · rw [if_pos hc] at h
      refine ⟨k, by omega, by omega, hc, ?_⟩
      unfold firstF firstG
      rw [List.all_eq_true]
      intro t ht
      rw [bne_iff_ne, hc]
      exact hn t (List.mem_range.1 ht)
    · rw [if_neg hc] at h
      refine ih (k + 1) m (by omega) (fun t ht => ?_) h
      rcases Nat.lt_succ_iff_lt_or_eq.1 ht with h' | rfl
      · exact hn t h'
      · exact hc
theorem later_zero {a : OpF} {r : List OpF} {m : Nat} (h : laterF (a :: r) 0 = (m : Int)) : ∃ m', m = m' + 1 ∧ m' < r.length ∧ (actF r m').k = a.k ∧ firstF r m' = true := by
  unfold laterF at h
  rw [show (a :: r).length - (0 + 1) = r.length by simp] at h
  exact laterG_zero a r r.length 0 m (by omega) (fun t ht => by omega) h

/-- times: none ahead of its place's next time. -/
theorem reg_ge {b : BdF} (ht : 1 ≤ b.tmin) {ps : List Int} : ∀ (sc : List OpF) (w : Int → Int), RegA b ps w sc → ∀ x ∈ sc, x.k ∈ ps ∧ w x.k ≤ x.a := by
  intro sc
  induction sc with
  | nil => intro w _ x hx; simp at hx
  | cons a r ih =>
    rintro w ⟨h1, h2, h3, _, _, d, h6, _, h8⟩ x hx
    rcases List.mem_cons.1 hx with rfl | hx
    · exact ⟨h1, by omega⟩
    · obtain ⟨g1, g2⟩ := ih _ h8 x hx
      refine ⟨g1, ?_⟩
      by_cases e : x.k = a.k
      · rw [if_pos e] at g2; rw [e]; omega
      · rw [if_neg e] at g2; exact g2
theorem reg_gap {b : BdF} (ht : 1 ≤ b.tmin) {ps : List Int} : ∀ (sc : List OpF) (w : Int → Int), RegA b ps w sc → sc.Pairwise (fun x y => x.a ≤ y.a ∧ (x.k = y.k → x.a + b.tmin ≤ y.a)) := by
  intro sc
  induction sc with
  | nil => intro w _; exact List.Pairwise.nil
  | cons a r ih =>
    rintro w ⟨h1, h2, h3, _, _, d, h6, _, h8⟩
    refine List.pairwise_cons.2 ⟨fun x hx => ?_, ih _ h8⟩
    obtain ⟨g1, g2⟩ := reg_ge ht r _ h8 x hx
    by_cases e : x.k = a.k
    · rw [if_pos e] at g2; exact ⟨by omega, fun _ => by omega⟩
    · rw [if_neg e] at g2
      have := h3 _ g1
      exact ⟨by omega, fun e' => absurd e'.symm e⟩
theorem reg_first {b : BdF} {ps : List Int} : ∀ (sc : List OpF) (w : Int → Int), RegA b ps w sc → ∀ j, j < sc.length → firstF sc j = true → (actF sc j).a = w (actF sc j).k := by
  intro sc
  induction sc with
  | nil => intro w _ j hj; simp at hj
  | cons a r ih =>
    rintro w ⟨h1, h2, h3, _, _, d, h6, _, h8⟩ j hj hf
    cases j with
    | zero => exact h2
    | succ j =>
      obtain ⟨g1, g2⟩ := first_succ hf
      rw [actF_succ]
      have := ih _ h8 j (by simpa using hj) g2
      rw [if_neg g1] at this
      exact this
theorem reg_later {b : BdF} {ps : List Int} : ∀ (sc : List OpF) (w : Int → Int), RegA b ps w sc → ∀ i m, i < sc.length → laterF sc i = ((m : Nat) : Int) → b.tmin ≤ (actF sc m).a - (actF sc i).a ∧ (actF sc m).a - (actF sc i).a ≤ b.tmax := by
  intro sc
  induction sc with
  | nil => intro w _ i m hi; simp at hi
  | cons a r ih =>
    rintro w ⟨h1, h2, h3, _, _, d, h6, h7, h8⟩ i m hi h
    cases i with
    | zero =>
      obtain ⟨m', rfl, g1, g2, g3⟩ := later_zero h
      rw [actF_succ, actF_zero]
      have := reg_first r _ h8 m' g1 g3
      rw [if_pos g2] at this
      omega
    | succ i =>
      obtain ⟨m', rfl, g⟩ := later_succ (by simpa using hi) h
      rw [actF_succ, actF_succ]
      exact ih _ h8 i m' (by simpa using hi) g
theorem reg_dly {b : BdF} {ps : List Int} : ∀ (sc : List OpF) (w : Int → Int), RegA b ps w sc → ∀ x ∈ sc, (b.dmin ≤ x.b ∧ x.b ≤ b.dmax) ∧ (b.dmin ≤ x.c ∧ x.c ≤ b.dmax) := by
  intro sc
  induction sc with
  | nil => intro w _ x hx; simp at hx
  | cons a r ih =>
    rintro w ⟨h1, h2, h3, h4, h5, d, h6, _, h8⟩ x hx
    rcases List.mem_cons.1 hx with rfl | hx
    · exact ⟨h4, h5⟩
    · exact ih _ h8 x hx
theorem reg_le {b : BdF} (ht : 1 ≤ b.tmin ∧ b.tmin ≤ b.tmax) {ps : List Int} : ∀ (sc : List OpF) (w : Int → Int) (W : Int), (∀ q ∈ ps, w q ≤ W) → RegA b ps w sc → ∀ x ∈ sc, x.a ≤ W + (sc.length : Int) * b.tmax := by
  intro sc
  induction sc with
  | nil => intro w W _ _ x hx; simp at hx
  | cons a r ih =>
    rintro w W hW ⟨h1, h2, h3, h4, h5, d, h6, h7, h8⟩ x hx
    have e : (((a :: r).length : Nat) : Int) * b.tmax = (r.length : Int) * b.tmax + b.tmax := by
      rw [List.length_cons, Int.natCast_add, Int.add_mul]; simp
    have hp : 0 ≤ (r.length : Int) * b.tmax := Int.mul_nonneg (by omega) (by omega)
    have ha := hW _ h1
    rcases List.mem_cons.1 hx with rfl | hx
    · rw [e]; omega
    · have := ih _ (W + b.tmax) (fun q hq => by
        show (if q = a.k then a.a + d else w q) ≤ W + b.tmax
        by_cases hqa : q = a.k
        · rw [if_pos hqa]; omega
        · rw [if_neg hqa]; have := hW q hq; omega) h8 x hx
      rw [e]; omega

/-- what was made keeps to the bounds, and is played. -/
theorem reg_ok {ts : List Tk} {L : List Dl} {b : BdF} {ps : List Int} {sc : List OpF} {w : Int → Int} (hf : 1 ≤ b.tmin ∧ b.tmin ≤ b.tmax ∧ b.tmax ≤ 1000000 ∧ 0 ≤ b.dmin ∧ b.dmin ≤ b.dmax ∧ b.dmax < b.tmin) (hw : ∀ q ∈ ps, 0 ≤ w q ∧ w q ≤ b.tmax) (hps : ∀ q ∈ ps, (atR ts L q) ≠ []) (hn : sc.length ≤ 400) (h : RegA b ps w sc) :
    (∀ i, i < sc.length → ActOk ts L sc i) ∧ ∀ i, i < sc.length → VldOk b sc i := by
  have hge := reg_ge hf.1 sc w h
  have hle := reg_le ⟨hf.1, hf.2.1⟩ sc w b.tmax (fun q hq => (hw q hq).2) h
  have hd := reg_dly sc w h
  have hg := reg_gap hf.1 sc w h
  rw [List.pairwise_iff_getElem] at hg
  have hmem : ∀ i, i < sc.length → actF sc i ∈ sc := fun i hi => by rw [← actF_get hi]; exact List.getElem_mem hi
  have hbig : (sc.length : Int) * b.tmax ≤ 400 * 1000000 := by
    have h1 : (sc.length : Int) * b.tmax ≤ 400 * b.tmax := Int.mul_le_mul_of_nonneg_right (by omega) (by omega)
    omega
  have hrange : ∀ i, i < sc.length → 0 ≤ (actF sc i).a ∧ (actF sc i).a ≤ 401000000 := fun i hi => by
    obtain ⟨g1, g2⟩ := hge _ (hmem i hi)
    have := hle _ (hmem i hi)
    have := hw _ g1
    omega
  have hlat : ∀ i m, i < sc.length → laterF sc i = ((m : Nat) : Int) → IntKind.i64.wrap ((actF sc m).a - (actF sc i).a) = (actF sc m).a - (actF sc i).a := fun i m hi e => by
    obtain ⟨m', e', g1, g2⟩ := later_nat sc hi (by omega)
    have : m' = m := by omega
    subst this
    have h1 := hrange i hi
    have h2 := hrange m' g2
    rw [IntKind.wrap_i64]; omega
  refine ⟨fun i hi => ?_, fun i hi => ?_⟩
  · obtain ⟨g1, g2⟩ := hge _ (hmem i hi)
    have h1 := hrange i hi
    have h2 := hd _ (hmem i hi)
    refine ⟨hps _ g1, ⟨by omega, by omega⟩, ⟨by omega, by omega⟩, ⟨by omega, by omega⟩, fun j e => ?_, ?_⟩
    · subst e
      have := (hg j (j + 1) (by omega) hi (by omega)).1
      rw [actF_get, actF_get] at this
      exact this
    · unfold overA
      by_cases hl : 0 ≤ laterF sc i
      · obtain ⟨m, e, g1, g2⟩ := later_nat sc hi hl
        rw [e, Int.toNat_natCast, hlat i m hi e]
        have := reg_later sc w h i m hi e
        simp only [Bool.and_eq_false_iff, Bool.or_eq_false_iff, decide_eq_false_iff_not]
        exact .inr ⟨by omega, by omega⟩
      · rw [decide_eq_false hl, Bool.false_and]
  · have h2 := hd _ (hmem i hi)
    refine ⟨fun hfi => ?_, h2.1, h2.2, fun m e => ?_⟩
    · rw [reg_first sc w h i hi hfi]
      exact (hw _ (hge _ (hmem i hi)).1).2
    · rw [hlat i m hi e]
      exact reg_later sc w h i m hi e

end Go.Proofs.Ytmndgoapkmhglaa

namespace Go.Proofs.Ytmndgoapkmhglaa
open Go.RowKit
attribute [local go_sem ↓] Go.wp_at_zero Go.wp_at_succ

set_option maxHeartbeats 2000000 in
set_option maxRecDepth 100000 in
theorem rtypes_any (w : World) (q g cap : Nat) (ts : List Tk) (L : List Dl) (vE vA vI vQ : Value) (h : RProg w q g cap ts L vE vA vI vQ) (ho : ROk ts L) (hp : ∀ i, (tkAt ts i).pos ≤ 1500) :
    Calls Try.prog 75 #[.pointer (some ⟨q, 0, none⟩)] w fun e w' => e = .returned (optI (typesR ts L)) ∧ Below w.heap.size w w' := by
  obtain ⟨hm1, hm2, hm3⟩ := ho.many
  obtain ⟨av, cv, rfl, hsh⟩ := own_shape h.eqs
  have hlen := ho.len
  have HR := hide h
  have HO := hide ho
  have HSH := hide hsh
  have HWR := hide (fun n t i wt W => rwrong_any q g cap ts L vE vA vI (.slice av (eqL L).length cv) ho hp n t i wt W)
  clear h ho hsh hp
  go_enter Try.func75, Try.ntmps75
  go_wp2
  go_loopw [3] (fun vi wr => ∃ m : Nat, m ≤ (eqL L).length ∧ vi = .int .i64 m ∧ Below w.heap.size w wr ∧ ((eqL L).drop m).findSome? (fun x => wrongR ts L x.t (x.i + 5) (wB (x.kind == 2))) = typesR ts L) (fun vi _ => (eqL L).length - (intOf vi).toNat)
  case atStart => exact ⟨0, Nat.zero_le _, rfl, Below.refl _ _, rfl⟩
  case round =>
    obtain ⟨m, hm, rfl, hbel, hrec⟩ := hrel
    have HRP := hide (HR.out.below hbel)
    have c4 := HRP.out.c4
    by_cases hml : m < (eqL L).length
    · obtain ⟨gq, rfl, _, hgq2⟩ := HSH.out (by omega)
      obtain ⟨x, hx⟩ : ∃ x, x = (eqL L)[m]'hml := ⟨_, rfl⟩
      obtain ⟨hxm, hxk, hxs, hxl, _⟩ := HO.out.eq (x := x) (by rw [hx]; exact List.getElem_mem hml)
      obtain ⟨e1, e2, _⟩ := rdc_truth ts hxk
      obtain ⟨_, _, _, y3, _, y5⟩ := rd_later HR.out.eqs hbel hgq2 hml (rdc ts x) (by rw [hx])
      rw [e1] at y3
      rw [e2] at y5
      rw [List.drop_eq_getElem_cons hml, ← hx, List.findSome?_cons] at hrec
      have HCALL := hide (fun W hW => HWR.out x.t.size x.t (x.i + 5) (wB (x.kind == 2)) W (Nat.le_refl _) hW hxs hxl)
      have HV : Hid (∀ v, wrongR ts L x.t (x.i + 5) (wB (x.kind == 2)) = some v → typesR ts L = some v) := hide (fun v hv => by
        have h := hrec
        rw [hv] at h
        exact h.symm)
      have HN : Hid (wrongR ts L x.t (x.i + 5) (wB (x.kind == 2)) = none → ((eqL L).drop (m + 1)).findSome? (fun x => wrongR ts L x.t (x.i + 5) (wB (x.kind == 2))) = typesR ts L) := hide (fun hv => by
        have h := hrec
        rw [hv] at h
        exact h)
      generalize wrongR ts L x.t (x.i + 5) (wB (x.kind == 2)) = o at HCALL HV HN
      have j3 : (0 : Int) ≤ (m : Int) := by omega
      have j4 : (m : Int) < ((eqL L).length : Int) := by omega
      obtain ⟨bd, hbd⟩ : ∃ bd, bd = x.i + 5 := ⟨_, rfl⟩
      rw [← hbd] at y5 HCALL
      generalize (x.kind == 2) = tr at y3 HCALL
      clear hrec hx hxm hxk hxs hxl e1 e2 hbd
      cases tr
      all_goals
        simp only [wB] at HCALL
        go_wp2_with fail
        refine (HCALL.out _ HRP.out).mono ?_
        rintro e w3 ⟨rfl, hb3⟩
        have HB4 : Hid (Below w.heap.size w w3) := hide (hbel.trans (hb3.mono hbel.size))
        clear hb3
        cases o with
        | none =>
          have HN2 := hide (HN.out rfl)
          simp only [optI]
          clear HV HN HCALL
          go_wp2
          go_roundw
          case rel => exact ⟨m + 1, by omega, by go_num, HB4.out, HN2.out⟩
          case measure => simp [intOf]; omega
        | some v =>
          have HV2 := hide (HV.out v rfl)
          simp only [optI]
          have z1 : (0 : Int) ≤ (v : Int) := by omega
          clear HV HN HCALL
          go_wp2
          go_ret
          exact ⟨by rw [HV2.out]; rfl, HB4.out⟩
    · have em : m = (eqL L).length := by omega
      subst em
      rw [List.drop_length] at hrec
      have HRC : Hid (typesR ts L = none) := hide hrec.symm
      have z1 : ¬ ((eqL L).length : Int) < ((eqL L).length : Int) := by omega
      clear hrec
      go_wp2
      go_ret
      exact ⟨by rw [HRC.out]; rfl, hbel⟩

end Go.Proofs.Ytmndgoapkmhglaa
