import Derived.Test.Ytmndgoapkmhglabo06Dec
namespace Go.Proofs.Ytmndgoapkmhglab
open Go.RowKit
def actF (sc : List OpF) (i : Nat) : OpF := (sc[i]?).getD ⟨0, 0, 0, 0⟩
theorem actF_get {sc : List OpF} {i : Nat} (h : i < sc.length) : sc[i] = actF sc i := by simp [actF, h]
def laterG (sc : List OpF) (i : Nat) : Nat → Nat → Int
  | 0, _ => -1
  | f + 1, k => if (actF sc k).k = (actF sc i).k then (k : Int) else laterG sc i f (k + 1)
def laterF (sc : List OpF) (i : Nat) : Int := laterG sc i (sc.length - (i + 1)) (i + 1)
theorem later_step {sc : List OpF} {i k : Nat} (h : k < sc.length) : laterG sc i (sc.length - k) k = if (actF sc k).k = (actF sc i).k then (k : Int) else laterG sc i (sc.length - (k + 1)) (k + 1) := by
  rw [show sc.length - k = (sc.length - (k + 1)) + 1 by omega]
  rfl
theorem all_step {m : Nat} {p : Nat → Bool} (h : (List.range m).all p = true) (hp : p m = true) : (List.range (m + 1)).all p = true := by
  rw [List.range_succ, List.all_append, h, List.all_cons, hp]; rfl
theorem all_fail {m n : Nat} {p : Nat → Bool} (hm : m < n) (hp : p m = false) : (List.range n).all p = false := by
  rw [List.all_eq_false]
  exact ⟨m, List.mem_range.2 hm, by rw [hp]; simp⟩
theorem later_range (sc : List OpF) (i : Nat) : ∀ (f k : Nat), i < k → k + f = sc.length → laterG sc i f k = -1 ∨ ∃ j : Nat, laterG sc i f k = (j : Int) ∧ i < j ∧ j < sc.length := by
  intro f
  induction f with
  | zero => intro k _ _; exact .inl rfl
  | succ f ih =>
    intro k hk hl
    unfold laterG
    split
    · exact .inr ⟨k, rfl, hk, by omega⟩
    · exact ih (k + 1) (by omega) (by omega)
def atG (ts : List Tk) (L : List Dl) (pl : Int) (m : Nat) : List Nat := (List.range m).filter fun i => (((eqL L)[i]?).map fun x => ((placeD ts x : Nat) : Int) == pl) == some true
def atR (ts : List Tk) (L : List Dl) (pl : Int) : List Nat := atG ts L pl (eqL L).length
def backA (sc : List OpF) : Nat → Bool
  | 0 => false
  | i + 1 => decide ((actF sc (i + 1)).a < (actF sc i).a)
def overA (sc : List OpF) (i : Nat) : Bool :=
  decide (0 ≤ laterF sc i) && (decide (IntKind.i64.wrap ((actF sc (laterF sc i).toNat).a - (actF sc i).a) ≤ (actF sc i).b) || decide (IntKind.i64.wrap ((actF sc (laterF sc i).toNat).a - (actF sc i).a) ≤ (actF sc i).c))
def badA (ts : List Tk) (L : List Dl) (sc : List OpF) (i : Nat) : Bool :=
  (atR ts L (actF sc i).k).isEmpty || decide ((actF sc i).a < 0) || decide (1099511627776 < (actF sc i).a) || backA sc i || decide ((actF sc i).b < 0) || decide (1099511627776 < (actF sc i).b) || decide ((actF sc i).c < 0) || decide (1099511627776 < (actF sc i).c) || overA sc i
def playF (ts : List Tk) (L : List Dl) (sc : List OpF) : Bool := decide (sc.length ≤ 400) && (List.range sc.length).all fun i => !badA ts L sc i
theorem later_hit (sc : List OpF) (i : Nat) : ∀ (f k j : Nat), k ≤ j → j < k + f → (actF sc j).k = (actF sc i).k → ∃ m : Nat, laterG sc i f k = (m : Int) ∧ k ≤ m ∧ m ≤ j ∧ (actF sc m).k = (actF sc i).k := by
  intro f
  induction f with
  | zero => intro k j h1 h2; omega
  | succ f ih =>
    intro k j h1 h2 hj
    unfold laterG
    by_cases hk : (actF sc k).k = (actF sc i).k
    · rw [if_pos hk]; exact ⟨k, rfl, Nat.le_refl _, h1, hk⟩
    · rw [if_neg hk]
      rcases Nat.eq_or_lt_of_le h1 with rfl | h'
      · exact absurd hj hk
      · obtain ⟨m, e, g1, g2, g3⟩ := ih (k + 1) j h' (by omega) hj
        exact ⟨m, e, by omega, g2, g3⟩
structure ActOk (ts : List Tk) (L : List Dl) (sc : List OpF) (i : Nat) : Prop where
  here : (atR ts L (actF sc i).k) ≠ []
  a0 : 0 ≤ (actF sc i).a ∧ (actF sc i).a ≤ 1099511627776
  b0 : 0 ≤ (actF sc i).b ∧ (actF sc i).b ≤ 1099511627776
  c0 : 0 ≤ (actF sc i).c ∧ (actF sc i).c ≤ 1099511627776
  back : ∀ j, i = j + 1 → (actF sc j).a ≤ (actF sc i).a
  over : overA sc i = false
theorem badA_iff (ts : List Tk) (L : List Dl) (sc : List OpF) (i : Nat) : badA ts L sc i = false ↔ ActOk ts L sc i := by
  unfold badA
  simp only [Bool.or_eq_false_iff, decide_eq_false_iff_not, List.isEmpty_eq_false_iff]
  constructor
  · rintro ⟨⟨⟨⟨⟨⟨⟨⟨h1, h2⟩, h3⟩, h4⟩, h5⟩, h6⟩, h7⟩, h8⟩, h9⟩
    refine ⟨h1, ⟨by omega, by omega⟩, ⟨by omega, by omega⟩, ⟨by omega, by omega⟩, fun j e => ?_, h9⟩
    subst e
    unfold backA at h4
    rw [decide_eq_false_iff_not] at h4
    omega
  · rintro ⟨h1, ⟨h2, h3⟩, ⟨h4, h5⟩, ⟨h6, h7⟩, h8, h9⟩
    refine ⟨⟨⟨⟨⟨⟨⟨⟨h1, by omega⟩, by omega⟩, ?_⟩, by omega⟩, by omega⟩, by omega⟩, by omega⟩, h9⟩
    cases i with
    | zero => rfl
    | succ i => unfold backA; rw [decide_eq_false_iff_not]; have := h8 i rfl; omega
theorem play_iff (ts : List Tk) (L : List Dl) (sc : List OpF) : playF ts L sc = true ↔ sc.length ≤ 400 ∧ ∀ i, i < sc.length → ActOk ts L sc i := by
  unfold playF
  rw [Bool.and_eq_true, decide_eq_true_iff, List.all_eq_true]
  refine and_congr Iff.rfl ⟨fun h i hi => ?_, fun h i hi => ?_⟩
  · have := h i (List.mem_range.2 hi)
    rw [Bool.not_eq_true', badA_iff] at this
    exact this
  · rw [Bool.not_eq_true', badA_iff]
    exact h i (List.mem_range.1 hi)
section
variable {ts : List Tk} {L : List Dl} {sc : List OpF} (h : ∀ i, i < sc.length → ActOk ts L sc i)
include h
theorem play_mono : ∀ (i j : Nat), i ≤ j → j < sc.length → (actF sc i).a ≤ (actF sc j).a := by
  intro i j hij
  induction j with
  | zero => intro _; rw [show i = 0 by omega]; exact Int.le_refl _
  | succ j ih =>
    intro hj
    rcases Nat.eq_or_lt_of_le hij with rfl | h'
    · exact Int.le_refl _
    · have h1 := ih (by omega) (by omega)
      have h2 := (h (j + 1) hj).back j rfl
      omega
theorem play_gap (i j : Nat) (hij : i < j) (hj : j < sc.length) (hk : (actF sc j).k = (actF sc i).k) : (actF sc i).a + (actF sc i).b < (actF sc j).a ∧ (actF sc i).a + (actF sc i).c < (actF sc j).a := by
  obtain ⟨m, e, g1, g2, g3⟩ := later_hit sc i (sc.length - (i + 1)) (i + 1) j (by omega) (by omega) hk
  have e' : laterF sc i = (m : Int) := e
  have ho := (h i (by omega)).over
  have hm := (h m (by omega)).a0
  have hi := (h i (by omega)).a0
  have hmj := play_mono h m j g2 hj
  unfold overA at ho
  rw [e'] at ho
  have hw : IntKind.i64.wrap ((actF sc m).a - (actF sc i).a) = (actF sc m).a - (actF sc i).a := by rw [IntKind.wrap_i64]; omega
  have hd : decide (0 ≤ (m : Int)) = true := by simp
  rw [hd, Bool.true_and, Int.toNat_natCast, hw, Bool.or_eq_false_iff, decide_eq_false_iff_not, decide_eq_false_iff_not] at ho
  omega
theorem play_acts : ActsOk sc := by
  refine ⟨fun x hx => ?_, ?_⟩
  · obtain ⟨i, hi, rfl⟩ := List.getElem_of_mem hx
    rw [actF_get hi]
    exact (h i hi).a0.1
  · rw [List.pairwise_iff_getElem]
    intro i j hi hj hij
    rw [actF_get hi, actF_get hj]
    exact ⟨play_mono h i j (by omega) hj, fun hk => play_gap h i j hij hj hk.symm⟩
end
end Go.Proofs.Ytmndgoapkmhglab
namespace Go.Proofs.Ytmndgoapkmhglab
def plR (ts : List Tk) (L : List Dl) : List Nat := (eqL L).map (placeD ts)
def netR (ts : List Tk) (L : List Dl) : List LnF := (routesR ts L).map fun r => ⟨((plR ts L).getD r.src 0 : Nat), (r.dst : Nat), r.late⟩
def valsR (ts : List Tk) (L : List Dl) (ins : List (List Int)) (pl : Int) (n : Nat) : List Int := (atR ts L pl).map fun j => sol ts L ins j n
theorem routes_mem (ts : List Tk) (L : List Dl) : ∀ r ∈ routesR ts L, r.dst < 4 ∧ ∃ x, (eqL L)[r.src]? = some x ∧ r.dst ≠ placeD ts x ∧ usesR ts L (nameD ts x).data.toList r.dst ≠ [] := by
  have hto : ∀ b x q, ∀ r ∈ routeTo ts L b x q, r.src = b ∧ r.dst < q ∧ r.dst ≠ placeD ts x ∧ usesR ts L (nameD ts x).data.toList r.dst ≠ [] := by
    intro b x q
    induction q with
    | zero => intro r hr; simp [routeTo] at hr
    | succ q ih =>
      intro r hr
      simp only [routeTo, List.mem_append] at hr
      rcases hr with hr | hr
      · obtain ⟨h1, h2, h3⟩ := ih r hr; exact ⟨h1, by omega, h3⟩
      · unfold routeAt at hr
        split at hr
        · rename_i hc
          simp at hr; subst hr; exact ⟨rfl, Nat.lt_succ_self _, hc.2, hc.1⟩
        · simp at hr
  have hfr : ∀ (l : List Dl) (b : Nat), ∀ r ∈ routesFrom ts L b l, r.dst < 4 ∧ ∃ x, l[r.src - b]? = some x ∧ b ≤ r.src ∧ r.dst ≠ placeD ts x ∧ usesR ts L (nameD ts x).data.toList r.dst ≠ [] := by
    intro l
    induction l with
    | nil => intro b r hr; simp [routesFrom] at hr
    | cons x l ih =>
      intro b r hr
      simp only [routesFrom, List.mem_append] at hr
      rcases hr with hr | hr
      · obtain ⟨h1, h2, h3, h4⟩ := hto b x 4 r hr
        exact ⟨h2, x, by rw [h1, Nat.sub_self]; rfl, by omega, h3, h4⟩
      · obtain ⟨h1, y, h2, h3, h4⟩ := ih (b + 1) r hr
        exact ⟨h1, y, by rw [show r.src - b = (r.src - (b + 1)) + 1 by omega, List.getElem?_cons_succ]; exact h2, by omega, h4⟩
  intro r hr
  obtain ⟨h1, x, h2, _, h3⟩ := hfr (eqL L) 0 r hr
  exact ⟨h1, x, by simpa using h2, h3⟩
theorem plR_get {ts : List Tk} {L : List Dl} {j : Nat} {x : Dl} (h : (eqL L)[j]? = some x) : (plR ts L).getD j 0 = placeD ts x := by
  unfold plR
  rw [List.getD_eq_getElem?_getD, List.getElem?_map, h]; rfl
theorem net_at {ts : List Tk} {L : List Dl} {l : Nat} (hl : l < (netR ts L).length) : ∃ r x, (routesR ts L)[l]? = some r ∧ r ∈ routesR ts L ∧ (eqL L)[r.src]? = some x ∧ lnAt (netR ts L) l = ⟨((placeD ts x : Nat) : Int), ((r.dst : Nat) : Int), r.late⟩ ∧ r.dst ≠ placeD ts x ∧ r.dst < 4 ∧ usesR ts L (nameD ts x).data.toList r.dst ≠ [] := by
  have hl' : l < (routesR ts L).length := by unfold netR at hl; rwa [List.length_map] at hl
  obtain ⟨h1, x, h2, h3, h4⟩ := routes_mem ts L _ (List.getElem_mem hl')
  refine ⟨(routesR ts L)[l], x, List.getElem?_eq_getElem hl', List.getElem_mem hl', h2, ?_, h3, h1, h4⟩
  unfold lnAt netR
  rw [List.getD_eq_getElem?_getD, List.getElem?_map, List.getElem?_eq_getElem hl', Option.map_some, Option.getD_some, plR_get h2]
theorem net_apart (ts : List Tk) (L : List Dl) : Apart (netR ts L) := by
  intro l hl
  obtain ⟨r, x, _, _, _, e, h, _⟩ := net_at hl
  rw [e]
  show ((placeD ts x : Nat) : Int) ≠ ((r.dst : Nat) : Int)
  omega
section
variable {ts : List Tk} {L : List Dl} (hlp : lpR ts L = none) (hpl : ∀ x ∈ eqL L, placeD ts x < 4)
include hlp hpl
end
end Go.Proofs.Ytmndgoapkmhglab
namespace Go.Proofs.Ytmndgoapkmhglab
open Go.RowKit
theorem later_nat (sc : List OpF) {i : Nat} (hi : i < sc.length) (h : 0 ≤ laterF sc i) : ∃ m : Nat, laterF sc i = (m : Int) ∧ i < m ∧ m < sc.length := by
  rcases later_range sc i (sc.length - (i + 1)) (i + 1) (by omega) (by omega) with e | ⟨j, e, h1, h2⟩
  · have e' : laterF sc i = -1 := e
    omega
  · exact ⟨j, e, h1, h2⟩

section
variable {ts : List Tk} {L : List Dl} (hlp : lpR ts L = none) (hpl : ∀ x ∈ eqL L, placeD ts x < 4)
include hlp hpl
end
def nextF (sc : List OpF) (i : Nat) : Int := if laterF sc i < 0 then -1 else IntKind.i64.wrap ((actF sc (laterF sc i).toNat).a - (actF sc i).a)
def hereK (ws : List Nat) (q : Int) : Bool := ws.any fun p => ((p : Nat) : Int) == q
def badK (ws : List Nat) (sc : List OpF) (i : Nat) : Bool :=
  !hereK ws (actF sc i).k || decide ((actF sc i).a < 0) || decide (1099511627776 < (actF sc i).a) || decide ((actF sc i).b < 0) || decide (1099511627776 < (actF sc i).b) || decide ((actF sc i).c < 0) || decide (1099511627776 < (actF sc i).c) || backA sc i ||
  (decide (0 ≤ nextF sc i) && (decide (nextF sc i ≤ (actF sc i).b) || decide (nextF sc i ≤ (actF sc i).c)))
def playK (ws : List Nat) (sc : List OpF) : Bool := decide (sc.length ≤ 400) && (List.range sc.length).all fun i => !badK ws sc i
theorem atR_here (ts : List Tk) (L : List Dl) (q : Int) : atR ts L q ≠ [] ↔ hereK (plR ts L) q = true := by
  unfold hereK plR
  rw [List.any_map, List.any_eq_true]
  constructor
  · intro h
    cases hc : atR ts L q with
    | nil => exact absurd hc h
    | cons i r =>
      have hi : i ∈ atR ts L q := by rw [hc]; simp
      unfold atR atG at hi
      rw [List.mem_filter] at hi
      cases hx : (eqL L)[i]? with
      | none => rw [hx] at hi; simp at hi
      | some x =>
        rw [hx] at hi
        exact ⟨x, List.mem_of_getElem? hx, by simpa using hi.2⟩
  · rintro ⟨x, hx, he⟩ hn
    obtain ⟨i, hi, rfl⟩ := List.getElem_of_mem hx
    have : i ∈ atR ts L q := by
      unfold atR atG
      rw [List.mem_filter, List.mem_range]
      refine ⟨hi, ?_⟩
      rw [List.getElem?_eq_getElem hi]
      simpa using he
    rw [hn] at this
    simp at this
theorem badK_iff (ws : List Nat) (sc : List OpF) (i : Nat) : badK ws sc i = false ↔ hereK ws (actF sc i).k = true ∧ (0 ≤ (actF sc i).a ∧ (actF sc i).a ≤ 1099511627776) ∧ (0 ≤ (actF sc i).b ∧ (actF sc i).b ≤ 1099511627776) ∧ (0 ≤ (actF sc i).c ∧ (actF sc i).c ≤ 1099511627776) ∧ backA sc i = false ∧ (0 ≤ nextF sc i → (actF sc i).b < nextF sc i ∧ (actF sc i).c < nextF sc i) := by
  unfold badK
  simp only [Bool.or_eq_false_iff, Bool.and_eq_false_iff, decide_eq_false_iff_not, Bool.not_eq_false']
  constructor
  · rintro ⟨⟨⟨⟨⟨⟨⟨⟨h1, h2⟩, h3⟩, h4⟩, h5⟩, h6⟩, h7⟩, h8⟩, h9⟩
    exact ⟨h1, ⟨by omega, by omega⟩, ⟨by omega, by omega⟩, ⟨by omega, by omega⟩, h8, fun h => by omega⟩
  · rintro ⟨h1, h2, h3, h4, h5, h6⟩
    refine ⟨⟨⟨⟨⟨⟨⟨⟨h1, by omega⟩, by omega⟩, by omega⟩, by omega⟩, by omega⟩, by omega⟩, h5⟩, ?_⟩
    by_cases h : 0 ≤ nextF sc i
    · have := h6 h; exact .inr ⟨by omega, by omega⟩
    · exact .inl h
theorem back_iff (sc : List OpF) (i : Nat) : backA sc i = false ↔ ∀ j, i = j + 1 → (actF sc j).a ≤ (actF sc i).a := by
  cases i with
  | zero => exact ⟨fun _ j e => by omega, fun _ => rfl⟩
  | succ i =>
    unfold backA
    rw [decide_eq_false_iff_not]
    exact ⟨fun h j e => (by rw [show j = i by omega]; omega), fun h => (by have := h i rfl; omega)⟩
theorem playK_eq (ts : List Tk) (L : List Dl) (sc : List OpF) : playK (plR ts L) sc = playF ts L sc := by
  rw [Bool.eq_iff_iff, play_iff]
  unfold playK
  rw [Bool.and_eq_true, decide_eq_true_iff, List.all_eq_true]
  refine and_congr Iff.rfl ⟨fun h => ?_, fun h i hi => ?_⟩
  · have hk : ∀ i, i < sc.length → badK (plR ts L) sc i = false := fun i hi => by
      have := h i (List.mem_range.2 hi); rwa [Bool.not_eq_true'] at this
    have hmono : ∀ (i j : Nat), i ≤ j → j < sc.length → (actF sc i).a ≤ (actF sc j).a := by
      intro i j hij
      induction j with
      | zero => intro _; rw [show i = 0 by omega]; exact Int.le_refl _
      | succ j ih =>
        intro hj
        rcases Nat.eq_or_lt_of_le hij with rfl | h'
        · exact Int.le_refl _
        · have h1 := ih (by omega) (by omega)
          have h2 := (back_iff sc (j + 1)).1 ((badK_iff _ _ _).1 (hk (j + 1) hj)).2.2.2.2.1 j rfl
          omega
    intro i hi
    obtain ⟨h1, h2, h3, h4, h5, h6⟩ := (badK_iff _ _ _).1 (hk i hi)
    refine ⟨(atR_here ts L _).2 h1, h2, h3, h4, (back_iff sc i).1 h5, ?_⟩
    unfold overA
    by_cases hl : 0 ≤ laterF sc i
    · obtain ⟨m, e, g1, g2⟩ := later_nat sc hi hl
      have hm := ((badK_iff _ _ _).1 (hk m g2)).2.1
      have hmo := hmono i m (by omega) g2
      have hw : IntKind.i64.wrap ((actF sc m).a - (actF sc i).a) = (actF sc m).a - (actF sc i).a := by rw [IntKind.wrap_i64]; omega
      have hn : nextF sc i = (actF sc m).a - (actF sc i).a := by unfold nextF; rw [if_neg (by omega), e, Int.toNat_natCast, hw]
      have := h6 (by omega)
      rw [e, Int.toNat_natCast, hw]
      simp only [Bool.and_eq_false_iff, Bool.or_eq_false_iff, decide_eq_false_iff_not]
      exact .inr ⟨by omega, by omega⟩
    · rw [decide_eq_false hl, Bool.false_and]
  · rw [Bool.not_eq_true', badK_iff]
    have hi' := List.mem_range.1 hi
    have ha := h i hi'
    refine ⟨(atR_here ts L _).1 ha.here, ha.a0, ha.b0, ha.c0, (back_iff sc i).2 ha.back, fun hn => ?_⟩
    by_cases hl : laterF sc i < 0
    · unfold nextF at hn; rw [if_pos hl] at hn; omega
    · obtain ⟨m, e, g1, g2⟩ := later_nat sc hi' (by omega)
      have hov := ha.over
      unfold overA at hov
      have hd : decide (0 ≤ laterF sc i) = true := by simp; omega
      rw [hd, Bool.true_and, Bool.or_eq_false_iff, decide_eq_false_iff_not, decide_eq_false_iff_not] at hov
      unfold nextF
      rw [if_neg hl]
      omega
def fullN (N : List LnF) (P : PastF) (l : Nat) : Bool := decide (cntF P (lnAt N l).dst 1 < tkF l P + lateN N l)
def untN (N : List LnF) (P : PastF) (l : Nat) : Bool := decide (tkF l P < cntF P (lnAt N l).src 2)
def comesN (N : List LnF) (P : PastF) (l : Nat) : Int := comesF (lnAt N l).src P 0
def knownN (P : PastF) (l : Nat) : Int := knownF l P 0
def holdsN (P : PastF) (pl : Int) : Bool := decide (cntF P pl 2 < cntF P pl 1)
def fullT (N : List LnF) (P : PastF) (a : OpF) (l : Nat) : Bool := fullN N P l || canF N P a l
def untT (N : List LnF) (P : PastF) (a : OpF) (l : Nat) : Bool := untN N P l && !canF N P a l
def knownT (N : List LnF) (P : PastF) (a : OpF) (l : Nat) : Int := if canF N P a l then a.a + a.b else knownN P l
section
variable {N : List LnF} {P : PastF} {a : OpF} (hO : PastOk N P a.a) (hI : RunInv N P)
include hO hI
theorem can_same {l : Nat} (hl : l < N.length) : canF N P a l = (decide ((lnAt N l).dst = a.k) && !fullN N P l && untN N P l && decide (comesN N P l ≤ a.a)) := by
  have hs := hI.slot l hl
  rw [Bool.eq_iff_iff, can_iff hO hI hl]
  unfold fullN untN comesN
  simp only [Bool.and_eq_true, decide_eq_true_eq, Bool.not_eq_true', decide_eq_false_iff_not]
  constructor
  · rintro ⟨h1, h2, h3, h4⟩
    rw [h1]
    exact ⟨⟨⟨rfl, by omega⟩, h2⟩, h3⟩
  · rintro ⟨⟨⟨h1, h2⟩, h3⟩, h4⟩
    rw [h1] at hs h2
    exact ⟨h1, h3, h4, by omega⟩
theorem ready_same : readyF N P a = (!holdsN P a.k && (List.range N.length).all fun l => !decide ((lnAt N l).dst = a.k) || fullT N P a l) := by
  have ht := hI.turn a.k
  rw [Bool.eq_iff_iff, ready_iff hO hI, Bool.and_eq_true, List.all_eq_true]
  unfold holdsN
  rw [Bool.not_eq_true', decide_eq_false_iff_not]
  refine and_congr (by omega) ⟨fun h l hl => ?_, fun h l hl hd => ?_⟩
  · rw [List.mem_range] at hl
    by_cases hd : (lnAt N l).dst = a.k
    · have h1 := h l hl hd
      have hs := hI.slot l hl
      unfold fullT fullN
      rw [hd] at hs ⊢
      simp only [decide_true, Bool.not_true, Bool.false_or]
      by_cases hc : canF N P a l = true
      · rw [hc, Bool.or_true]
      · rw [if_neg hc] at h1
        rw [Bool.or_eq_true, decide_eq_true_eq]
        exact .inl (by omega)
    · simp [hd]
  · have h1 := h l (List.mem_range.2 hl)
    have hs := hI.slot l hl
    unfold fullT fullN at h1
    rw [hd] at hs h1
    simp only [decide_true, Bool.not_true, Bool.false_or, Bool.or_eq_true, decide_eq_true_eq] at h1
    by_cases hc : canF N P a l = true
    · have := ((can_iff hO hI hl).1 hc).2.2.2
      rw [if_pos hc]; omega
    · rw [if_neg hc]
      rcases h1 with h1 | h1
      · omega
      · exact absurd h1 hc
theorem free_same (hA : Apart N) (h0 : 0 ≤ a.a) : freeF N P a = (holdsN P a.k && (List.range N.length).all fun l => !decide ((lnAt N l).src = a.k) || (!untT N P a l && decide (knownT N P a l ≤ a.a))) := by
  have ht := hI.turn a.k
  rw [Bool.eq_iff_iff, free_iff hO hI, Bool.and_eq_true, List.all_eq_true]
  unfold holdsN
  rw [decide_eq_true_iff]
  have hcn : ∀ l, l < N.length → (lnAt N l).src = a.k → canF N P a l = false := fun l hl hd => by
    rw [Bool.eq_false_iff]
    intro hc
    exact hA l hl (hd.trans ((can_iff hO hI hl).1 hc).1.symm)
  refine and_congr (by omega) ⟨fun h l hl => ?_, fun h l hl hd => ?_⟩
  · rw [List.mem_range] at hl
    by_cases hd : (lnAt N l).src = a.k
    · obtain ⟨h1, h2⟩ := h l hl hd
      unfold untT untN knownT knownN
      rw [hcn l hl hd, hd]
      simp only [decide_true, Bool.not_true, Bool.false_or, Bool.not_false, Bool.and_true, Bool.and_eq_true, Bool.not_eq_true', decide_eq_false_iff_not, decide_eq_true_eq, Bool.false_eq_true, if_false]
      refine ⟨by omega, ?_⟩
      rcases h2 with h2 | h2
      · exact h2
      · rw [known_zero l P (fun x hx => (hO.took x hx).1) h2]; exact h0
    · simp [hd]
  · have h1 := h l (List.mem_range.2 hl)
    have hs := hI.sent l hl
    unfold untT untN knownT knownN at h1
    rw [hcn l hl hd, hd] at h1
    simp only [decide_true, Bool.not_true, Bool.false_or, Bool.not_false, Bool.and_true, Bool.and_eq_true, Bool.not_eq_true', decide_eq_false_iff_not, decide_eq_true_eq, Bool.false_eq_true, if_false] at h1
    rw [hd] at hs
    exact ⟨by omega, .inl h1.2⟩
variable (V : Int → Nat → List Int)
theorem full_next {l : Nat} (hl : l < N.length) : fullN N (P ++ [(a, wakeF N V P a)]) l = if (wakeF N V P a).did = 1 ∧ (lnAt N l).dst = a.k then false else fullT N P a l := by
  have hs := hI.slot l hl
  unfold fullN
  rw [cnt_next, tk_next N V P a hl]
  by_cases h : a.k = (lnAt N l).dst ∧ (wakeF N V P a).did = 1
  · rw [if_pos h, show (if (wakeF N V P a).did = 1 ∧ (lnAt N l).dst = a.k then false else fullT N P a l) = false from if_pos ⟨h.2, h.1.symm⟩, decide_eq_false_iff_not]
    have hr : readyF N P a = true := by
      rcases did_cases N V P a with ⟨hr, _⟩ | ⟨_, _, hd⟩ | ⟨_, _, hd⟩
      · exact hr
      · rw [h.2] at hd; cases hd
      · rw [h.2] at hd; cases hd
    have := ((ready_iff hO hI).1 hr).2 l hl h.1.symm
    rw [← h.1]; omega
  · rw [if_neg h, show (if (wakeF N V P a).did = 1 ∧ (lnAt N l).dst = a.k then false else fullT N P a l) = fullT N P a l from if_neg (fun e => h ⟨e.2.symm, e.1⟩)]
    unfold fullT fullN
    by_cases hc : canF N P a l = true
    · obtain ⟨h1, _, _, h4⟩ := (can_iff hO hI hl).1 hc
      rw [if_pos hc, hc, Bool.or_true, decide_eq_true_iff, h1]; omega
    · rw [if_neg hc]
      rw [Bool.not_eq_true] at hc
      rw [hc, Bool.or_false, Nat.add_zero, Nat.add_zero]
omit hO hI in
theorem comes_next (l : Nat) : comesN N (P ++ [(a, wakeF N V P a)]) l = if (wakeF N V P a).did = 2 ∧ (lnAt N l).src = a.k then a.a + a.c else comesN N P l := by
  unfold comesN
  rw [comesF_app]
  simp only [comesF]
  have e : isD (lnAt N l).src 2 (a, wakeF N V P a) = decide ((wakeF N V P a).did = 2 ∧ (lnAt N l).src = a.k) := by
    unfold isD
    show (decide (a.k = (lnAt N l).src) && decide ((wakeF N V P a).did = 2)) = _
    rw [Bool.and_comm, ← Bool.decide_and]
    congr 1
    rw [eq_comm (a := a.k)]
  rw [e]
  simp only [decide_eq_true_eq]
  rfl
omit hO hI in
theorem known_next {l : Nat} (hl : l < N.length) : knownN (P ++ [(a, wakeF N V P a)]) l = knownT N P a l := by
  unfold knownN knownT
  rw [knownF_app]
  simp only [knownF]
  have e : (l ∈ (wakeF N V P a).took) ↔ canF N P a l = true := by
    show l ∈ tookF N P a ↔ _
    rw [took_mem]
    exact ⟨fun h => h.2, fun h => ⟨hl, h⟩⟩
  by_cases hc : canF N P a l = true
  · rw [if_pos (e.2 hc), if_pos hc]; rfl
  · rw [if_neg (fun h => hc (e.1 h)), if_neg hc]; rfl
theorem unt_next (hA : Apart N) {l : Nat} (hl : l < N.length) : untN N (P ++ [(a, wakeF N V P a)]) l = if (wakeF N V P a).did = 2 ∧ (lnAt N l).src = a.k then true else untT N P a l := by
  have hs := hI.sent l hl
  unfold untN
  rw [cnt_next, tk_next N V P a hl]
  by_cases h : a.k = (lnAt N l).src ∧ (wakeF N V P a).did = 2
  · rw [if_pos h, show (if (wakeF N V P a).did = 2 ∧ (lnAt N l).src = a.k then true else untT N P a l) = true from if_pos ⟨h.2, h.1.symm⟩, decide_eq_true_iff]
    have hc : ¬ canF N P a l = true := fun hc => hA l hl (h.1.symm.trans ((can_iff hO hI hl).1 hc).1.symm)
    rw [if_neg hc]; omega
  · rw [if_neg h, show (if (wakeF N V P a).did = 2 ∧ (lnAt N l).src = a.k then true else untT N P a l) = untT N P a l from if_neg (fun e => h ⟨e.2.symm, e.1⟩)]
    unfold untT untN
    by_cases hc : canF N P a l = true
    · obtain ⟨_, h2, _, _⟩ := (can_iff hO hI hl).1 hc
      rw [if_pos hc, hc, Bool.not_true, Bool.and_false, decide_eq_false_iff_not]; omega
    · rw [if_neg hc]
      rw [Bool.not_eq_true] at hc
      rw [hc, Bool.not_false, Bool.and_true, Nat.add_zero, Nat.add_zero]
omit hO in
theorem holds_next (pl : Int) : holdsN (P ++ [(a, wakeF N V P a)]) pl = if pl = a.k ∧ (wakeF N V P a).did = 1 then true else if pl = a.k ∧ (wakeF N V P a).did = 2 then false else holdsN P pl := by
  have ht := hI.turn pl
  unfold holdsN
  rw [cnt_next, cnt_next]
  simp only [eq_comm (a := pl)]
  by_cases h1 : a.k = pl ∧ (wakeF N V P a).did = 1
  · have h2 : ¬ (a.k = pl ∧ (wakeF N V P a).did = 2) := fun e => by rw [h1.2] at e; exact absurd e.2 (by decide)
    simp only [if_pos h1, if_neg h2, decide_eq_true_eq]; omega
  · by_cases h2 : a.k = pl ∧ (wakeF N V P a).did = 2
    · simp only [if_neg h1, if_pos h2, decide_eq_false_iff_not]; omega
    · simp only [if_neg h1, if_neg h2, Nat.add_zero]
end
theorem full_start (N : List LnF) (l : Nat) : fullN N [] l = (lnAt N l).late := by
  unfold fullN lateN
  cases (lnAt N l).late <;> simp [cntF, tkF]
end Go.Proofs.Ytmndgoapkmhglab
namespace Go.Proofs.Ytmndgoapkmhglab
def Bit (x : Int) : Prop := x = 0 ∨ x = 1
theorem bit_b2i (b : Bool) : Bit (b2i b) := by cases b <;> simp [Bit, b2i]
theorem or_none {a b : Option Nat} (h : a.or b = none) : a = none ∧ b = none := by cases a <;> simp_all
theorem bad_if {c : Bool} {p : Nat} {x : Option Nat} (h : (if c = true then some p else x) = none) : c = false ∧ x = none := by
  cases c <;> simp_all
theorem w64_id (x : Int) (h1 : -9223372036854775808 ≤ x) (h2 : x < 9223372036854775808) : w64 x = x := by
  unfold w64 Go.RowKit.wrap64
  omega
section
variable {ts : List Tk} (hF : ∀ i, TkF (tkAt ts i)) {L : List Dl}
include hF
theorem lit_bit {i : Nat} (h2 : litT (tkAt ts i) = true) (hb : badR ts L i 116 = false) : Bit (litV (tkAt ts i)) := by
  have hlf : leafT (tkAt ts i) = true := by unfold leafT; rw [h2]; rfl
  have hk1 : (tkAt ts i).kind ≠ 1 := by have := lit_nm hF h2; unfold isNm at this; simpa using this
  by_cases h3 : (tkAt ts i).kind = 3
  · have hi : isR ts L i = 110 := by unfold isR; rw [if_neg hk1, if_pos h3]
    unfold badR at hb; rw [hi] at hb; cases hb
  · unfold litV; rw [if_neg h3]; exact bit_b2i _
omit hF in
theorem op_truth {o : List UInt8} (h : (opOf o).isSome = true) (h2 : opR o = 116) (a b : Int) : Bit (apF o a b) := by
  revert h h2
  unfold opOf
  split; · rename_i e; subst e; intro _ h; exact absurd h (by decide)
  split; · rename_i e; subst e; intro _ h; exact absurd h (by decide)
  split; · rename_i e; subst e; intro _ h; exact absurd h (by decide)
  split; · rename_i e; subst e; intro _ h; exact absurd h (by decide)
  split; · rename_i e; subst e; intro _ _; exact bit_b2i _
  split; · rename_i e; subst e; intro _ _; exact bit_b2i _
  split; · rename_i e; subst e; intro _ _; exact bit_b2i _
  split; · rename_i e; subst e; intro _ _; exact bit_b2i _
  · intro h; cases h
theorem ev_bit {V : List UInt8 → Nat → Int} (hV : ∀ k n, k < ts.length → nameT ts L k = true → Bit (V (lAt ts k) n)) : ∀ (t : Ast) (i n : Nat), Sp ts t i → i + t.len ≤ ts.length → wrongR ts L t i 116 = none → Bit (evT ts V t i n) := by
  intro t
  induction t with
  | leaf =>
    intro i n hs hl h
    simp only [Ast.len] at hl
    simp only [wrongR] at h
    obtain ⟨hb, _⟩ := bad_if h
    unfold evT
    by_cases h1 : (tkAt ts i).kind = 1
    · rw [if_pos h1]
      cases hn : nameT ts L i with
      | true => exact hV i n (by omega) hn
      | false =>
        have hi : isR ts L i = 110 := by unfold isR; rw [if_pos h1, hn]; rfl
        unfold badR at hb; rw [hi] at hb; cases hb
    · rw [if_neg h1]
      have h2 : litT (tkAt ts i) = true := by
        have := hs.1
        unfold leafT at this
        have hk : ((tkAt ts i).kind == 1) = false := by simpa using h1
        rwa [hk, Bool.or_false] at this
      exact lit_bit hF h2 hb
  | neg a iha =>
    intro i n hs hl h
    obtain ⟨h1, h2, h3, h4⟩ := hs
    simp only [Ast.len] at hl
    simp only [wrongR] at h
    have ha := iha (i + 2) n h3 (by omega) (bad_if h).2
    simp only [evT]
    rcases ha with ha | ha <;> rw [ha] <;> simp [Bit, w64, Go.RowKit.wrap64]
  | ite a b c iha ihb ihc =>
    intro i n hs hl h
    obtain ⟨h1, h2, h3, h4, h5, h6⟩ := hs
    simp only [Ast.len] at hl
    simp only [wrongR] at h
    obtain ⟨_, h⟩ := bad_if h
    obtain ⟨_, h⟩ := or_none h
    obtain ⟨hb, hc⟩ := or_none h
    simp only [evT]
    split
    · exact ihb _ n h4 (by omega) hb
    · exact ihc _ n h5 (by omega) hc
  | dly b ihb =>
    intro i n hs hl h
    obtain ⟨h1, h2, h3, h4, h5⟩ := hs
    simp only [Ast.len] at hl
    simp only [wrongR] at h
    obtain ⟨_, h⟩ := bad_if h
    obtain ⟨hb, hc⟩ := or_none h
    cases n with
    | zero => simp only [evT]; exact lit_bit hF h2 (bad_if hb).1
    | succ n => simp only [evT]; exact ihb _ n h4 (by omega) hc
  | bin a b iha ihb =>
    intro i n hs hl h
    obtain ⟨h1, h2, h3, h4, h5⟩ := hs
    obtain ⟨n1, n2⟩ := sp_first hF h2
    simp only [Ast.len] at hl
    simp only [wrongR] at h
    obtain ⟨hb, _⟩ := bad_if h
    have hbh : behindF ts (i + 1) = i + 1 + a.len := behind_sp hF a (i + 1) h2 (by omega)
    have hi : isR ts L i = opR (lAt ts (i + 1 + a.len)) := by rw [isR_open hF h1, if_neg n1, if_neg n2, hbh]
    simp only [evT]
    refine op_truth h3 ?_ _ _
    unfold badR at hb
    rw [hi] at hb
    have hne : lAt ts (i + 1 + a.len) ≠ kFby := fun e => by rw [e] at h3; revert h3; decide
    unfold opR at hb ⊢
    rw [if_neg hne] at hb ⊢
    split at hb
    · cases hb
    · rename_i hx; rw [if_neg hx]
end
theorem nameT_of {ts : List Tk} {L : List Dl} (H : Right ts L) {k : Nat} (h : nameT ts L k = true) : ∃ j x, inIx ts L (lAt ts k) = none ∧ eqIx ts L (lAt ts k) = some j ∧ (eqL L)[j]? = some x ∧ x.kind = 2 := by
  unfold nameT at h
  rw [List.any_eq_true] at h
  obtain ⟨x, hx, h2⟩ := h
  rw [Bool.and_eq_true, beq_iff_eq, beq_iff_eq] at h2
  obtain ⟨j, hj⟩ := ix_some (p := nmIs ts (lAt ts k)) hx (by unfold nmIs; rw [h2.1]; simp)
  obtain ⟨z, hz, hn⟩ := eqIx_some hj
  obtain ⟨m, hm, rfl⟩ := List.getElem_of_mem hx
  have hjm := H.same hz (List.getElem?_eq_getElem hm) (hn.trans h2.1.symm)
  subst hjm
  refine ⟨j, _, ?_, hj, List.getElem?_eq_getElem hm, h2.2⟩
  cases hi : inIx ts L (lAt ts k) with
  | none => rfl
  | some i =>
    exfalso
    obtain ⟨g1, g2, _⟩ := List.findIdx?_eq_some_iff_getElem.1 hi
    have g3 : (nameD ts (inL L)[i]).data.toList = lAt ts k := by simpa [nmIs] using g2
    have m1 := List.mem_filter.1 (List.getElem_mem g1)
    have m2 := List.mem_filter.1 hx
    have e := H.own _ m1.1 _ m2.1 (g3.trans h2.1.symm)
    have hp := H.pw
    have k1 : (inL L)[i].kind = 0 := by simpa using m1.2
    have k2 : (eqL L)[j].kind ≠ 0 := by simpa using m2.2
    obtain ⟨a, ha, ea⟩ := List.getElem_of_mem m1.1
    obtain ⟨b, hb, eb⟩ := List.getElem_of_mem m2.1
    rw [List.pairwise_iff_getElem] at hp
    rw [← ea] at k1 e
    rw [← eb] at k2 e
    rcases Nat.lt_trichotomy a b with h | h | h
    · have := hp a b ha hb h; have := L[a].len_pos; omega
    · subst h; exact k2 k1
    · have := hp b a hb ha h; have := L[b].len_pos; omega
theorem val_bit {ts : List Tk} {L : List Dl} (H : Right ts L) {ins : List (List Int)} {R : Nat → Nat → Int} (hR : ∀ j n x, (eqL L)[j]? = some x → x.kind = 2 → Bit (R j n)) : ∀ k n, k < ts.length → nameT ts L k = true → Bit (valV ts L ins R (lAt ts k) n) := by
  intro k n _ h
  obtain ⟨j, x, h1, h2, h3, h4⟩ := nameT_of H h
  unfold valV
  rw [h1, h2]
  exact hR j n x h3 h4
theorem solF_bit {ts : List Tk} {L : List Dl} (H : Right ts L) (hT : typesR ts L = none) {ins : List (List Int)} : ∀ f j n x, (eqL L)[j]? = some x → x.kind = 2 → Bit (solF ts L ins f j n) := by
  intro f
  induction f with
  | zero => intro j n x _ _; exact .inl rfl
  | succ f ih =>
    intro j n x hx hk
    simp only [solF, bodyV, hx]
    obtain ⟨hs, hl⟩ := H.sp x (List.mem_of_getElem? hx)
    unfold typesR at hT
    rw [List.findSome?_eq_none_iff] at hT
    have hw := hT x (List.mem_of_getElem? hx)
    rw [hk] at hw
    exact ev_bit H.F (val_bit H ih) x.t _ n hs hl hw
theorem sol_bit {ts : List Tk} {L : List Dl} (H : Right ts L) (hT : typesR ts L = none) {ins : List (List Int)} (j n : Nat) (x : Dl) (hx : (eqL L)[j]? = some x) (hk : x.kind = 2) : Bit (sol ts L ins j n) := solF_bit H hT _ j n x hx hk
def AllAt {α : Type} (P : Nat → α → Prop) : Nat → List α → Prop
  | _, [] => True
  | o, x :: l => P o x ∧ AllAt P (o + 1) l
theorem allAt_app {α : Type} {P : Nat → α → Prop} : ∀ (l m : List α) (o : Nat), AllAt P o (l ++ m) ↔ AllAt P o l ∧ AllAt P (o + l.length) m := by
  intro l
  induction l with
  | nil => intro m o; simp [AllAt]
  | cons x l ih =>
    intro m o
    simp only [List.cons_append, AllAt, ih, List.length_cons]
    rw [show o + 1 + l.length = o + (l.length + 1) by omega, and_assoc]
theorem allAt_get {α : Type} {P : Nat → α → Prop} : ∀ (l : List α) (o : Nat), AllAt P o l ↔ ∀ m x, l[m]? = some x → P (o + m) x := by
  intro l
  induction l with
  | nil => intro o; simp [AllAt]
  | cons x l ih =>
    intro o
    simp only [AllAt, ih]
    constructor
    · rintro ⟨h1, h2⟩ m y hm
      cases m with
      | zero => simp at hm; subst hm; exact h1
      | succ m => have := h2 m y (by simpa using hm); rwa [show o + 1 + m = o + (m + 1) by omega] at this
    · intro h
      refine ⟨h 0 x rfl, fun m y hm => ?_⟩
      have := h (m + 1) y (by simpa using hm)
      rwa [show o + (m + 1) = o + 1 + m by omega] at this
theorem AllAt.mono {α : Type} {P Q : Nat → α → Prop} (h : ∀ j x, P j x → Q j x) : ∀ (l : List α) (o : Nat), AllAt P o l → AllAt Q o l := by
  intro l
  induction l with
  | nil => intro o _; trivial
  | cons x l ih => intro o hp; exact ⟨h _ _ hp.1, ih _ hp.2⟩
def numAt (ds : List Dc) (i : Int) : Nat := (ds.getD i.toNat ⟨0, 0, ⟨#[]⟩, 0, 0, 0, 0⟩).number
def rootAt (ds : List Dc) (i : Int) : Nat := (ds.getD i.toNat ⟨0, 0, ⟨#[]⟩, 0, 0, 0, 0⟩).root
def pairF (op : Nat) (a b : Int) : Int :=
  if op = 5 then w64 (a + b) else if op = 6 then w64 (a - b) else if op = 7 then w64 (a * b)
  else if op = 8 then (if b = 0 then 0 else if b = -1 then w64 (0 - a) else w64 (a.tdiv b)) else if op = 9 then b2i (decide (a < b)) else if op = 10 then b2i (decide (a = b))
  else if op = 11 then b2i (decide (a ≠ 0) && decide (b ≠ 0)) else if op = 12 then b2i (decide (a ≠ 0) || decide (b ≠ 0)) else 0
def nameF (ds : List Dc) (ins : List (List Int)) (b : Int) (k : Nat) (X : Nat → Int) : Int := if kindAt ds b = 0 then elemF ins (numAt ds b) k else X (rootAt ds b)
def valF (ds : List Dc) (ins : List (List Int)) (n : Nd) (k : Nat) (X Y : Nat → Int) : Int :=
  if n.kind = 2 then nameF ds ins n.decl k X
  else if n.kind = 3 then b2i (decide (X n.a = 0))
  else if n.kind = 4 then (if X n.a ≠ 0 then X n.b else X n.c)
  else if n.kind = 5 then (if k = 0 then X n.a else Y n.b)
  else if n.kind = 6 then pairF n.op (X n.a) (X n.b)
  else (n.value : Int)
def needs (n : Nd) : List Nat :=
  if n.kind = 3 then [n.a] else if n.kind = 4 then [n.a, n.b, n.c] else if n.kind = 5 then [n.a] else if n.kind = 6 then [n.a, n.b] else []
def flatV (ts : List Tk) (V : List UInt8 → Nat → Int) (k : Nat) : Ast → Nat → List Int
  | .leaf, i => [evT ts V .leaf i k]
  | .neg a, i => evT ts V (.neg a) i k :: flatV ts V k a (i + 2)
  | .ite a b c, i => evT ts V (.ite a b c) i k :: (flatV ts V k a (i + 2) ++ (flatV ts V k b (i + 2 + a.len) ++ flatV ts V k c (i + 2 + a.len + b.len)))
  | .dly b, i => evT ts V (.dly b) i k :: litV (tkAt ts (i + 1)) :: flatV ts V k b (i + 3)
  | .bin a b, i => evT ts V (.bin a b) i k :: (flatV ts V k a (i + 1) ++ flatV ts V k b (i + 2 + a.len))
theorem flatV_len (ts : List Tk) (V : List UInt8 → Nat → Int) (k : Nat) : ∀ (t : Ast) (i : Nat), (flatV ts V k t i).length = t.size := by
  intro t
  induction t with
  | leaf => intro i; rfl
  | neg a iha => intro i; simp [flatV, Ast.size, iha]
  | ite a b c iha ihb ihc => intro i; simp [flatV, Ast.size, iha, ihb, ihc]; omega
  | dly b ihb => intro i; simp [flatV, Ast.size, ihb]
  | bin a b iha ihb => intro i; simp [flatV, Ast.size, iha, ihb]
theorem flatV_head {ts : List Tk} {V : List UInt8 → Nat → Int} {k : Nat} {X : Nat → Int} : ∀ {t : Ast} {i o : Nat}, AllAt (fun j v => X j = v) o (flatV ts V k t i) → X o = evT ts V t i k := by
  intro t i o h
  cases t <;> exact h.1
theorem op_some {o : List UInt8} (h : (opOf o).isSome = true) : o = [43] ∨ o = [45] ∨ o = [42] ∨ o = [47] ∨ o = [60] ∨ o = [61] ∨ o = [38] ∨ o = [124] := by
  revert h
  unfold opOf
  split; · rename_i e; intro _; exact .inl e
  split; · rename_i e; intro _; exact .inr (.inl e)
  split; · rename_i e; intro _; exact .inr (.inr (.inl e))
  split; · rename_i e; intro _; exact .inr (.inr (.inr (.inl e)))
  split; · rename_i e; intro _; exact .inr (.inr (.inr (.inr (.inl e))))
  split; · rename_i e; intro _; exact .inr (.inr (.inr (.inr (.inr (.inl e)))))
  split; · rename_i e; intro _; exact .inr (.inr (.inr (.inr (.inr (.inr (.inl e))))))
  split; · rename_i e; intro _; exact .inr (.inr (.inr (.inr (.inr (.inr (.inr e))))))
  · intro h; cases h
theorem pair_ap {o : List UInt8} (h : (opOf o).isSome = true) {a b : Int} (hb : o = [38] ∨ o = [124] → Bit a ∧ Bit b) : apF o a b = pairF ((opOf o).getD 0) a b := by
  rcases op_some h with rfl | rfl | rfl | rfl | rfl | rfl | rfl | rfl
  · rfl
  · rfl
  · rfl
  · show (if b = 0 then 0 else w64 (a.tdiv b)) = (if b = 0 then 0 else if b = -1 then w64 (0 - a) else w64 (a.tdiv b))
    by_cases h0 : b = 0
    · rw [if_pos h0, if_pos h0]
    · rw [if_neg h0, if_neg h0]
      by_cases h1 : b = -1
      · rw [if_pos h1, h1]
        congr 1
        rw [Int.tdiv_neg, Int.tdiv_one]; omega
      · rw [if_neg h1]
  · rfl
  · rfl
  · obtain ⟨h1, h2⟩ := hb (.inl rfl)
    rcases h1 with rfl | rfl <;> rcases h2 with rfl | rfl <;> decide
  · obtain ⟨h1, h2⟩ := hb (.inr rfl)
    rcases h1 with rfl | rfl <;> rcases h2 with rfl | rfl <;> decide
section
variable {ds : List Dc} {ins : List (List Int)} {n : Nd} {k : Nat} {X Y : Nat → Int}
theorem valF3 (h : n.kind = 3) : valF ds ins n k X Y = b2i (decide (X n.a = 0)) := by unfold valF; rw [if_neg (by omega), if_pos h]
theorem valF4 (h : n.kind = 4) : valF ds ins n k X Y = if X n.a ≠ 0 then X n.b else X n.c := by unfold valF; rw [if_neg (by omega), if_neg (by omega), if_pos h]
theorem valF5 (h : n.kind = 5) : valF ds ins n k X Y = if k = 0 then X n.a else Y n.b := by unfold valF; rw [if_neg (by omega), if_neg (by omega), if_neg (by omega), if_pos h]
theorem valF6 (h : n.kind = 6) : valF ds ins n k X Y = pairF n.op (X n.a) (X n.b) := by unfold valF; rw [if_neg (by omega), if_neg (by omega), if_neg (by omega), if_neg (by omega), if_pos h]
end
theorem bind_other {ds : List Dc} {n : Nd} (h : n.kind ≠ 2) : bindF ds n = n := by unfold bindF; rw [if_neg h]
section
variable {ts : List Tk} (hF : ∀ i, TkF (tkAt ts i)) {L : List Dl} {ds : List Dc} {ins : List (List Int)} {V : List UInt8 → Nat → Int} {k : Nat} {X Y : Nat → Int}
include hF
theorem lit_val {i dl : Nat} (h : litT (tkAt ts i) = true) : litV (tkAt ts i) = valF ds ins (bindF ds (mkN ts i dl (leafN0 (tkAt ts i)))) k X Y := by
  have hlf : leafT (tkAt ts i) = true := by unfold leafT; rw [h]; rfl
  have hk1 : (tkAt ts i).kind ≠ 1 := by have := lit_nm hF h; unfold isNm at this; simpa using this
  have hk := leafN0_no hlf hk1
  rw [bind_other (by rw [mkN_kind]; exact hk)]
  unfold litV
  by_cases h3 : (tkAt ts i).kind = 3
  · have hn : ∀ l, kwL.contains l = true → (tkAt ts i).l ≠ l := fun l hl e => by have := (hF i).k3 h3; rw [e, hl] at this; cases this
    have hl : leafN0 (tkAt ts i) = { ndZero with kind := 0, value := valOf (tkAt ts i).l } := by
      unfold leafN0; rw [if_neg (hn _ (by decide)), if_neg (hn _ (by decide)), if_pos h3]
    rw [if_pos h3, hl]; rfl
  · rw [if_neg h3]
    unfold litT at h
    have h30 : ((tkAt ts i).kind == 3) = false := by simpa using h3
    rw [h30, Bool.false_or, Bool.or_eq_true, beq_iff_eq, beq_iff_eq] at h
    by_cases e : (tkAt ts i).l = kTrue
    · have hl : leafN0 (tkAt ts i) = { ndZero with kind := 1, value := 1 } := by unfold leafN0; rw [if_pos e]
      rw [hl, e]; rfl
    · have e2 := h.resolve_left e
      have hl : leafN0 (tkAt ts i) = { ndZero with kind := 1 } := by unfold leafN0; rw [if_neg e, if_pos e2]
      rw [hl, e2]; rfl
theorem flat_val (hV : ∀ k n, k < ts.length → nameT ts L k = true → Bit (V (lAt ts k) n)) :
    ∀ (t : Ast) (i dl off w : Nat), Sp ts t i → i + t.len ≤ ts.length → wrongR ts L t i w = none →
      (∀ j ∈ nms ts t i, V (lAt ts j) k = nameF ds ins (findF ds (tkAt ts j).text) k X) →
      AllAt (fun j v => X j = v) off (flatV ts V k t i) → (k ≠ 0 → AllAt (fun j v => Y j = v) off (flatV ts V (k - 1) t i)) →
      AllAt (fun j n => X j = valF ds ins (bindF ds n) k X Y) off (flat ts t i dl off) := by
  intro t
  induction t with
  | leaf =>
    intro i dl off w hs hl hw hn hX hY
    refine ⟨?_, trivial⟩
    show X off = valF ds ins (bindF ds (mkN ts i dl (leafN0 (tkAt ts i)))) k X Y
    rw [hX.1]
    by_cases h1 : (tkAt ts i).kind = 1
    · have hb : bindF ds (mkN ts i dl (leafN0 (tkAt ts i))) = { mkN ts i dl (leafN0 (tkAt ts i)) with decl := findF ds (tkAt ts i).text } := by
        rw [leafN0_name (hF i) h1]; unfold bindF; rw [if_pos (by rfl)]; rfl
      rw [hb]
      have hk2 : (leafN0 (tkAt ts i)).kind = 2 := by rw [leafN0_name (hF i) h1]
      unfold evT valF
      rw [if_pos h1, if_pos (show ({ mkN ts i dl (leafN0 (tkAt ts i)) with decl := findF ds (tkAt ts i).text } : Nd).kind = 2 from hk2)]
      exact hn i (by unfold nms; rw [if_pos h1]; simp)
    · have h2 : litT (tkAt ts i) = true := by
        have := hs.1
        unfold leafT at this
        have hk : ((tkAt ts i).kind == 1) = false := by simpa using h1
        rwa [hk, Bool.or_false] at this
      unfold evT
      rw [if_neg h1]
      exact lit_val hF h2
  | neg a iha =>
    intro i dl off w hs hl hw hn hX hY
    obtain ⟨h1, h2, h3, h4⟩ := hs
    simp only [Ast.len] at hl
    simp only [wrongR] at hw
    have ha := ev_bit hF hV a (i + 2) k h3 (by omega) (bad_if hw).2
    refine ⟨?_, iha (i + 2) dl (off + 1) 116 h3 (by omega) (bad_if hw).2 hn hX.2 (fun h => (hY h).2)⟩
    show X off = valF ds ins (bindF ds (mkN ts i dl { ndZero with kind := 3, a := off + 1 })) k X Y
    rw [hX.1, bind_other (by simp [mkN]), valF3 rfl]
    have e1 := flatV_head hX.2
    show w64 (1 - evT ts V a (i + 2) k) = b2i (decide (X (off + 1) = 0))
    rw [e1]
    rcases ha with ha | ha <;> rw [ha] <;> rw [w64_id _ (by decide) (by decide)] <;> decide
  | ite a b c iha ihb ihc =>
    intro i dl off w hs hl hw hn hX hY
    obtain ⟨h1, h2, h3, h4, h5, h6⟩ := hs
    simp only [Ast.len] at hl
    simp only [wrongR] at hw
    obtain ⟨_, hw⟩ := bad_if hw
    obtain ⟨wa, hw⟩ := or_none hw
    obtain ⟨wb, wc⟩ := or_none hw
    have ha := ev_bit hF hV a (i + 2) k h3 (by omega) wa
    obtain ⟨x0, hX⟩ := hX
    rw [allAt_app, allAt_app, flatV_len, flatV_len] at hX
    obtain ⟨xa, xb, xc⟩ := hX
    have hY' : k ≠ 0 → AllAt (fun j v => Y j = v) (off + 1) (flatV ts V (k - 1) a (i + 2)) ∧ AllAt (fun j v => Y j = v) (off + 1 + a.size) (flatV ts V (k - 1) b (i + 2 + a.len)) ∧ AllAt (fun j v => Y j = v) (off + 1 + a.size + b.size) (flatV ts V (k - 1) c (i + 2 + a.len + b.len)) := fun h => by
      have := (hY h).2
      rwa [allAt_app, allAt_app, flatV_len, flatV_len] at this
    simp only [nms, List.mem_append] at hn
    simp only [flat, AllAt]
    rw [allAt_app, allAt_app, flat_len, flat_len]
    refine ⟨?_, iha _ dl _ 116 h3 (by omega) wa (fun j hj => hn j (.inl hj)) xa (fun h => (hY' h).1), ihb _ dl _ w h4 (by omega) wb (fun j hj => hn j (.inr (.inl hj))) xb (fun h => (hY' h).2.1), ihc _ dl _ w h5 (by omega) wc (fun j hj => hn j (.inr (.inr hj))) xc (fun h => (hY' h).2.2)⟩
    rw [x0, bind_other (by simp [mkN]), valF4 rfl]
    have e1 := flatV_head xa
    have e2 := flatV_head xb
    have e3 := flatV_head xc
    show (if evT ts V a (i + 2) k = 1 then evT ts V b (i + 2 + a.len) k else evT ts V c (i + 2 + a.len + b.len) k) = if X (off + 1) ≠ 0 then X (off + 1 + a.size) else X (off + 1 + a.size + b.size)
    rw [e1, e2, e3]
    rcases ha with ha | ha <;> rw [ha] <;> rfl
  | dly b ihb =>
    intro i dl off w hs hl hw hn hX hY
    obtain ⟨h1, h2, h3, h4, h5⟩ := hs
    simp only [Ast.len] at hl
    simp only [wrongR] at hw
    obtain ⟨_, hw⟩ := bad_if hw
    obtain ⟨hb, hc⟩ := or_none hw
    obtain ⟨x0, x1, x2⟩ := hX
    refine ⟨?_, ?_, ihb (i + 3) (dl + 1) (off + 2) w h4 (by omega) hc hn x2 (fun h => (hY h).2.2)⟩
    · show X off = valF ds ins (bindF ds (mkN ts i dl { ndZero with kind := 5, a := off + 1, b := off + 2 })) k X Y
      rw [x0, bind_other (by simp [mkN]), valF5 rfl]
      show _ = if k = 0 then X (off + 1) else Y (off + 2)
      cases k with
      | zero => rw [if_pos rfl, x1]; rfl
      | succ n =>
        rw [if_neg (by omega)]
        have := (hY (by omega)).2.2
        rw [flatV_head this]; rfl
    · show X (off + 1) = valF ds ins (bindF ds (mkN ts (i + 1) dl (leafN0 (tkAt ts (i + 1))))) k X Y
      rw [x1]; exact lit_val hF h2
  | bin a b iha ihb =>
    intro i dl off w hs hl hw hn hX hY
    obtain ⟨h1, h2, h3, h4, h5⟩ := hs
    simp only [Ast.len] at hl
    simp only [wrongR] at hw
    obtain ⟨_, hw⟩ := bad_if hw
    obtain ⟨wa, wb⟩ := or_none hw
    obtain ⟨x0, hX⟩ := hX
    rw [allAt_app, flatV_len] at hX
    obtain ⟨xa, xb⟩ := hX
    have hY' : k ≠ 0 → AllAt (fun j v => Y j = v) (off + 1) (flatV ts V (k - 1) a (i + 1)) ∧ AllAt (fun j v => Y j = v) (off + 1 + a.size) (flatV ts V (k - 1) b (i + 2 + a.len)) := fun h => by
      have := (hY h).2
      rwa [allAt_app, flatV_len] at this
    simp only [nms, List.mem_append] at hn
    simp only [flat, AllAt]
    rw [allAt_app, flat_len]
    refine ⟨?_, iha _ dl _ _ h2 (by omega) wa (fun j hj => hn j (.inl hj)) xa (fun h => (hY' h).1), ihb _ dl _ _ h4 (by omega) wb (fun j hj => hn j (.inr hj)) xb (fun h => (hY' h).2)⟩
    rw [x0, bind_other (by simp [mkN]), valF6 rfl]
    have e1 := flatV_head xa
    have e2 := flatV_head xb
    show apF (lAt ts (i + 1 + a.len)) (evT ts V a (i + 1) k) (evT ts V b (i + 2 + a.len) k) = pairF ((opOf (lAt ts (i + 1 + a.len))).getD 0) (X (off + 1)) (X (off + 1 + a.size))
    rw [e1, e2]
    refine pair_ap h3 fun ho => ?_
    have hbo : bothR (lAt ts (i + 1 + a.len)) = 116 := by unfold bothR; rw [if_pos ho]
    rw [hbo] at wa wb
    exact ⟨ev_bit hF hV a _ k h2 (by omega) wa, ev_bit hF hV b _ k h4 (by omega) wb⟩
end
theorem flat_head {ts : List Tk} : ∀ (t : Ast) (i dl off : Nat), ∃ n l, flat ts t i dl off = n :: l ∧ n.delayed = decide (0 < dl) := by
  intro t i dl off
  cases t <;> exact ⟨_, _, rfl, rfl⟩
theorem flat_first {ts : List Tk} {D : Nat → Bool} {t : Ast} {i dl off : Nat} (h : AllAt (fun j n => D j = n.delayed) off (flat ts t i dl off)) : D off = decide (0 < dl) := by
  obtain ⟨n, l, e, hn⟩ := flat_head t i dl off (ts := ts)
  rw [e] at h
  rw [h.1, hn]
theorem leafN0_needs {ts : List Tk} (i dl : Nat) (t : Tk) : needs (mkN ts i dl (leafN0 t)) = [] := by
  have : (mkN ts i dl (leafN0 t)).kind ≤ 2 := by
    rw [mkN_kind]
    unfold leafN0
    split; · simp
    split; · simp
    split; · simp
    · simp
  unfold needs
  rw [if_neg (by omega), if_neg (by omega), if_neg (by omega), if_neg (by omega)]
theorem flat_kids {ts : List Tk} {D : Nat → Bool} : ∀ (t : Ast) (i dl off fin : Nat), off + t.size ≤ fin → AllAt (fun j n => D j = n.delayed) off (flat ts t i dl off) →
    AllAt (fun j n => ∀ c ∈ needs n, j < c ∧ c < fin ∧ D c = n.delayed) off (flat ts t i dl off) := by
  intro t
  induction t with
  | leaf => intro i dl off fin hf h; exact ⟨fun c hc => by rw [leafN0_needs] at hc; simp at hc, trivial⟩
  | neg a iha =>
    intro i dl off fin hf h
    simp only [Ast.size] at hf
    have pa := a.size_pos
    refine ⟨fun c hc => ?_, iha _ dl _ fin (by omega) h.2⟩
    have hc' : c = off + 1 := by simpa [needs, mkN] using hc
    subst hc'
    exact ⟨by omega, by omega, flat_first h.2⟩
  | ite a b c iha ihb ihc =>
    intro i dl off fin hf h
    simp only [Ast.size] at hf
    have pa := a.size_pos
    have pb := b.size_pos
    have pc := c.size_pos
    obtain ⟨h0, h⟩ := h
    rw [allAt_app, allAt_app, flat_len, flat_len] at h
    obtain ⟨ha, hb, hc⟩ := h
    simp only [flat, AllAt]
    rw [allAt_app, allAt_app, flat_len, flat_len]
    refine ⟨fun d hd => ?_, iha _ dl _ fin (by omega) ha, ihb _ dl _ fin (by omega) hb, ihc _ dl _ fin (by omega) hc⟩
    have hd' : d = off + 1 ∨ d = off + 1 + a.size ∨ d = off + 1 + a.size + b.size := by simpa [needs, mkN] using hd
    rcases hd' with rfl | rfl | rfl
    · exact ⟨by omega, by omega, flat_first ha⟩
    · exact ⟨by omega, by omega, flat_first hb⟩
    · exact ⟨by omega, by omega, flat_first hc⟩
  | dly b ihb =>
    intro i dl off fin hf h
    simp only [Ast.size] at hf
    refine ⟨fun c hc => ?_, fun c hc => by rw [leafN0_needs] at hc; simp at hc, ihb _ (dl + 1) _ fin (by omega) h.2.2⟩
    have hc' : c = off + 1 := by simpa [needs, mkN] using hc
    subst hc'
    exact ⟨by omega, by omega, h.2.1⟩
  | bin a b iha ihb =>
    intro i dl off fin hf h
    simp only [Ast.size] at hf
    have pa := a.size_pos
    have pb := b.size_pos
    obtain ⟨h0, h⟩ := h
    rw [allAt_app, flat_len] at h
    obtain ⟨ha, hb⟩ := h
    simp only [flat, AllAt]
    rw [allAt_app, flat_len]
    refine ⟨fun d hd => ?_, iha _ dl _ fin (by omega) ha, ihb _ dl _ fin (by omega) hb⟩
    have hd' : d = off + 1 ∨ d = off + 1 + a.size := by simpa [needs, mkN] using hd
    rcases hd' with rfl | rfl
    · exact ⟨by omega, by omega, flat_first ha⟩
    · exact ⟨by omega, by omega, flat_first hb⟩
def dlAt (ns : List Nd) (j : Nat) : Bool := ((ns[j]?).map Nd.delayed).getD false
structure Meant (ds : List Dc) (ns : List Nd) (ins : List (List Int)) (NV : Nat → Nat → Int) : Prop where
  cover : ∀ i, i < ns.length → ∃ (a : Nat) (d : Dc), ds[a]? = some d ∧ d.kind ≠ 0 ∧ d.root ≤ i ∧ i < d.fin
  val : ∀ (i : Nat) (n : Nd), ns[i]? = some n → ∀ k, NV k i = valF ds ins n k (NV k) (NV (k - 1))
  kids : ∀ (a : Nat) (d : Dc), ds[a]? = some d → d.kind ≠ 0 → ∀ (i : Nat) (n : Nd), ns[i]? = some n → d.root ≤ i → i < d.fin → ∀ c ∈ needs n, i < c ∧ c < d.fin ∧ dlAt ns c = n.delayed
  root : ∀ (a : Nat) (d : Dc), ds[a]? = some d → d.kind ≠ 0 → d.root < ns.length ∧ dlAt ns d.root = false
  segs : ∀ (a : Nat) (d : Dc), ds[a]? = some d → d.kind ≠ 0 → d.root < d.fin ∧ d.fin ≤ ns.length
  decl : ∀ n ∈ ns, n.kind = 2 → 0 ≤ n.decl ∧ n.decl < (ds.length : Int)
  hang : ∀ (a : Nat) (d : Dc), ds[a]? = some d → d.kind ≠ 0 → ∀ (i : Nat) (n : Nd), ns[i]? = some n → d.root ≤ i → i < d.fin → n.kind = 2 → n.delayed = false → kindAt ds n.decl ≠ 0 → markAll ds ns 0 ds noM a n.decl.toNat = true
structure Ranked (ds : List Dc) (H : Mx) (rank : Nat → Nat) : Prop where
  less : ∀ a b, H a b = true → rank b < rank a ∧ ∃ d, ds[b]? = some d ∧ d.kind ≠ 0
  lt : ∀ (a : Nat) (d : Dc), ds[a]? = some d → d.kind ≠ 0 → rank a < ds.length
structure OrdOk (ds : List Dc) (H : Mx) (T : List Nat) : Prop where
  eqn : ∀ t ∈ T, ∃ d, ds[t]? = some d ∧ d.kind ≠ 0
  topo : ∀ (j t : Nat), T[j]? = some t → ∀ b, H t b = true → b ∈ T.take j
  all : ∀ (a : Nat) (d : Dc), ds[a]? = some d → d.kind ≠ 0 → a ∈ T
  len : T.length ≤ 300
def valsD (ts : List Tk) (V : List UInt8 → Nat → Int) (k : Nat) : List Dl → List Int
  | [] => []
  | x :: r => if x.kind = 0 then valsD ts V k r else flatV ts V k x.t (x.i + 5) ++ valsD ts V k r
structure DY (ts : List Tk) (f : Nd → Nd) (ns : List Nd) (V : List UInt8 → Nat → Int) (VL : Nat → List Int) (d : Dc) (x : Dl) : Prop where
  kind : d.kind = x.kind
  name : d.name = nameD ts x
  zero : x.kind = 0 → d.root = 0 ∧ d.fin = 0
  fin : x.kind ≠ 0 → d.fin = d.root + x.t.size
  nodes : x.kind ≠ 0 → AllAt (fun j n => ns[j]? = some (f n)) d.root (flat ts x.t (x.i + 5) 0 d.root)
  vals : x.kind ≠ 0 → ∀ k, AllAt (fun j v => (VL k).getD j 0 = v) d.root (flatV ts V k x.t (x.i + 5))
theorem allAt_mid {α : Type} (A l B : List α) : AllAt (fun j x => (A ++ (l ++ B))[j]? = some x) A.length l := by
  rw [allAt_get]
  intro m x hm
  have h := (List.getElem?_eq_some_iff.1 hm).1
  rw [List.getElem?_append_right (by omega), Nat.add_sub_cancel_left, List.getElem?_append_left h]
  exact hm
theorem allAt_map {α β : Type} {P : Nat → β → Prop} (f : α → β) : ∀ (l : List α) (o : Nat), AllAt P o (l.map f) → AllAt (fun j x => P j (f x)) o l := by
  intro l
  induction l with
  | nil => intro o _; trivial
  | cons x l ih => intro o h; exact ⟨h.1, ih _ h.2⟩
theorem dy_all (ts : List Tk) (f : Nd → Nd) (V : List UInt8 → Nat → Int) : ∀ (L : List Dl) (off a b : Nat) (N1 : List Nd) (W1 : Nat → List Int), N1.length = off → (∀ k, (W1 k).length = off) →
    All2 (DY ts f (N1 ++ (nodesD ts L off).map f) V (fun k => W1 k ++ valsD ts V k L)) (declsD ts L off a b) L := by
  intro L
  induction L with
  | nil => intro off a b N1 W1 _ _; trivial
  | cons x r ih =>
    intro off a b N1 W1 hN hW
    simp only [declsD, nodesD, valsD]
    by_cases hk : x.kind = 0
    · simp only [if_pos hk]
      exact ⟨⟨hk.symm, rfl, fun _ => ⟨rfl, rfl⟩, fun h => absurd hk h, fun h => absurd hk h, fun h => absurd hk h⟩, ih off (a + 1) b N1 W1 hN hW⟩
    · simp only [if_neg hk]
      refine ⟨⟨rfl, rfl, fun h => absurd h hk, fun _ => rfl, fun _ => ?_, fun _ k => ?_⟩, ?_⟩
      · rw [List.map_append]
        show AllAt _ off _
        rw [← hN]
        exact allAt_map f _ _ (allAt_mid N1 _ _)
      · show AllAt _ off _
        rw [← hW k]
        refine AllAt.mono (fun j v h => ?_) _ _ (allAt_mid (W1 k) (flatV ts V k x.t (x.i + 5)) (valsD ts V k r))
        rw [List.getD_eq_getElem?_getD, h]; rfl
      · have := ih (off + x.t.size) a (b + 1) (N1 ++ (flat ts x.t (x.i + 5) 0 off).map f) (fun k => W1 k ++ flatV ts V k x.t (x.i + 5)) (by simp [flat_len, hN]) (fun k => by simp [flatV_len, hW k])
        rw [List.append_assoc, ← List.map_append] at this
        simpa only [List.append_assoc] using this
theorem decls_num (ts : List Tk) : ∀ (L : List Dl) (off a b k : Nat) (d : Dc) (x : Dl), (declsD ts L off a b)[k]? = some d → L[k]? = some x →
    (x.kind = 0 → ∃ m, d.number = a + m ∧ (inL L)[m]? = some x) ∧ (x.kind ≠ 0 → ∃ m, d.number = b + m ∧ (eqL L)[m]? = some x) := by
  intro L
  induction L with
  | nil => intro off a b k d x _ h; simp at h
  | cons y r ih =>
    intro off a b k d x h1 h2
    simp only [declsD] at h1
    by_cases hy : y.kind = 0
    · rw [if_pos hy] at h1
      have e1 : inL (y :: r) = y :: inL r := by simp [inL, hy]
      have e2 : eqL (y :: r) = eqL r := by simp [eqL, hy]
      rw [e1, e2]
      cases k with
      | zero =>
        simp only [List.getElem?_cons_zero, Option.some.injEq] at h1 h2
        subst h1 h2
        exact ⟨fun _ => ⟨0, rfl, rfl⟩, fun h => absurd hy h⟩
      | succ k =>
        rw [List.getElem?_cons_succ] at h1 h2
        obtain ⟨g1, g2⟩ := ih _ _ _ k d x h1 h2
        refine ⟨fun h => ?_, g2⟩
        obtain ⟨m, hm, hg⟩ := g1 h
        exact ⟨m + 1, by omega, by rw [List.getElem?_cons_succ]; exact hg⟩
    · rw [if_neg hy] at h1
      have e1 : inL (y :: r) = inL r := by simp [inL, hy]
      have e2 : eqL (y :: r) = y :: eqL r := by simp [eqL, hy]
      rw [e1, e2]
      cases k with
      | zero =>
        simp only [List.getElem?_cons_zero, Option.some.injEq] at h1 h2
        subst h1 h2
        exact ⟨fun h => absurd h hy, fun _ => ⟨0, rfl, rfl⟩⟩
      | succ k =>
        rw [List.getElem?_cons_succ] at h1 h2
        obtain ⟨g1, g2⟩ := ih _ _ _ k d x h1 h2
        refine ⟨g1, fun h => ?_⟩
        obtain ⟨m, hm, hg⟩ := g2 h
        exact ⟨m + 1, by omega, by rw [List.getElem?_cons_succ]; exact hg⟩
theorem Right.one {ts : List Tk} {L : List Dl} (H : Right ts L) {a b : Nat} {x y : Dl} (hx : L[a]? = some x) (hy : L[b]? = some y) (he : (nameD ts x).data.toList = (nameD ts y).data.toList) : a = b := by
  have hi := H.own x (List.mem_of_getElem? hx) y (List.mem_of_getElem? hy) he
  obtain ⟨h1, rfl⟩ := List.getElem?_eq_some_iff.1 hx
  obtain ⟨h2, rfl⟩ := List.getElem?_eq_some_iff.1 hy
  have hp := H.pw
  rw [List.pairwise_iff_getElem] at hp
  rcases Nat.lt_trichotomy a b with h | h | h
  · have := hp a b h1 h2 h; have := L[a].len_pos; omega
  · exact h
  · have := hp b a h2 h1 h; have := L[b].len_pos; omega
theorem Right.sameIn {ts : List Tk} {L : List Dl} (H : Right ts L) {i j : Nat} {x y : Dl} (hx : (inL L)[i]? = some x) (hy : (inL L)[j]? = some y) (he : (nameD ts x).data.toList = (nameD ts y).data.toList) : i = j := by
  have mx : x ∈ L := (List.mem_filter.1 (List.mem_of_getElem? hx)).1
  have my : y ∈ L := (List.mem_filter.1 (List.mem_of_getElem? hy)).1
  have hi := H.own x mx y my he
  obtain ⟨h1, rfl⟩ := List.getElem?_eq_some_iff.1 hx
  obtain ⟨h2, rfl⟩ := List.getElem?_eq_some_iff.1 hy
  have hp : (inL L).Pairwise (fun x y => x.i + x.len ≤ y.i) := H.pw.filter _
  rw [List.pairwise_iff_getElem] at hp
  rcases Nat.lt_trichotomy i j with h | h | h
  · have := hp i j h1 h2 h; have := (inL L)[i].len_pos; omega
  · exact h
  · have := hp j i h2 h1 h; have := (inL L)[j].len_pos; omega
theorem val_in {ts : List Tk} {L : List Dl} (H : Right ts L) {ins : List (List Int)} {R : Nat → Nat → Int} {m : Nat} {x : Dl} (hx : (inL L)[m]? = some x) (n : Nat) : valV ts L ins R (nameD ts x).data.toList n = elemF ins m n := by
  obtain ⟨j, hj⟩ := ix_some (p := nmIs ts (nameD ts x).data.toList) (List.mem_of_getElem? hx) (by unfold nmIs; simp)
  have hj' : inIx ts L (nameD ts x).data.toList = some j := hj
  obtain ⟨g1, g2, _⟩ := List.findIdx?_eq_some_iff_getElem.1 hj
  have := H.sameIn (List.getElem?_eq_getElem g1) hx (by simpa [nmIs] using g2)
  subst this
  unfold valV
  rw [hj']
theorem val_eq {ts : List Tk} {L : List Dl} (H : Right ts L) {ins : List (List Int)} {R : Nat → Nat → Int} {m : Nat} {x : Dl} (hx : (eqL L)[m]? = some x) (n : Nat) : valV ts L ins R (nameD ts x).data.toList n = R m n := by
  obtain ⟨j, hj⟩ := ix_some (p := nmIs ts (nameD ts x).data.toList) (List.mem_of_getElem? hx) (by unfold nmIs; simp)
  have hj' : eqIx ts L (nameD ts x).data.toList = some j := hj
  obtain ⟨z, hz, hn⟩ := eqIx_some hj'
  have := H.same hz hx hn
  subst this
  have hi : inIx ts L (nameD ts x).data.toList = none := by
    cases hi : inIx ts L (nameD ts x).data.toList with
    | none => rfl
    | some i =>
      exfalso
      obtain ⟨g1, g2, _⟩ := List.findIdx?_eq_some_iff_getElem.1 hi
      have g3 : (nameD ts (inL L)[i]).data.toList = (nameD ts x).data.toList := by simpa [nmIs] using g2
      have m1 := List.mem_filter.1 (List.getElem_mem g1)
      have m2 := List.mem_filter.1 (List.mem_of_getElem? hx)
      obtain ⟨a, ha, ea⟩ := List.getElem_of_mem m1.1
      obtain ⟨b, hb, eb⟩ := List.getElem_of_mem m2.1
      have hab := H.one (List.getElem?_eq_getElem ha) (List.getElem?_eq_getElem hb) (by rw [ea, eb]; exact g3)
      subst hab
      rw [ea] at eb
      have k1 : (inL L)[i].kind = 0 := by simpa using m1.2
      have k2 : x.kind ≠ 0 := by simpa using m2.2
      exact k2 (by rw [← eb]; exact k1)
  unfold valV
  rw [hi, hj']
structure Both2 (ts : List Tk) (L : List Dl) (ds : List Dc) (ns : List Nd) : Prop where
  N : NamesOk ts L ds
  sp : ∀ x ∈ L, x.kind ≠ 0 → Sp ts x.t (x.i + 5) ∧ x.i + 5 + x.t.len ≤ ts.length
  decl : ∀ x ∈ L, x.kind ≠ 0 → ∀ y ∈ nmD ts x.t (x.i + 5) false, 0 ≤ findF ds (tkAt ts y.1).text
  dx : All2 (DX ts (bindF ds) ns) ds L
theorem both2 {ts : List Tk} (hF : ∀ i, TkF (tkAt ts i)) (hE : ∀ i, (tkAt ts i).kind = 0 → ts.length ≤ i + 1) (L : List Dl) (hL : Spell ts L 0) (hn : namesR ts L = none) :
    Both2 ts L (declsD ts L 0 0 0) ((nodesD ts L 0).map (bindF (declsD ts L 0 0 0))) := by
  obtain ⟨ds, hds⟩ : ∃ ds, ds = declsD ts L 0 0 0 := ⟨_, rfl⟩
  obtain ⟨ns, hns⟩ : ∃ ns, ns = (nodesD ts L 0).map (bindF ds) := ⟨_, rfl⟩
  rw [← hds, ← hns]
  have hnm : ds.map Dc.name = L.map (nameD ts) := by rw [hds]; exact declsD_names ts L 0 0 0
  have hnames : badNameF ds ns 0 ds = namesR ts L := by
    have := names_eq hF hE L hL ds hnm L [] 0 0 0 0 [] [] rfl hL (by omega) (by rw [List.nil_append]; exact hds) rfl rfl
    rw [List.nil_append, ← hns, ← hds] at this
    exact this
  have hdx : All2 (DX ts (bindF ds) ns) ds L := by
    have := dx_all ts (bindF ds) L 0 0 0 [] rfl
    rw [List.nil_append, ← hns, ← hds] at this
    exact this
  rw [hn] at hnames
  have hN : NamesOk ts L ds := ⟨fun j hj => by have := badName_own ds 0 hnames j hj; rw [this, Nat.zero_add], dx_two hdx⟩
  have hsp : ∀ x ∈ L, x.kind ≠ 0 → Sp ts x.t (x.i + 5) ∧ x.i + 5 + x.t.len ≤ ts.length := by
    intro x hx hk
    obtain ⟨_, h2, h3⟩ := spell_mem _ _ hL x hx
    have hlen : x.len = x.t.len + 6 := by unfold Dl.len; rw [if_neg hk]
    refine ⟨?_, by omega⟩
    rcases h3 with ⟨h, _⟩ | ⟨_, _, _, _, _, h, _⟩
    · exact absurd h hk
    · exact h
  refine ⟨hN, hsp, ?_, hdx⟩
  intro x hx hk y hy
  obtain ⟨k, hk2, rfl⟩ := List.getElem_of_mem hx
  rcases hdx.getOpt k with ⟨_, h2⟩ | ⟨d, z, h1, h2, h3⟩
  · rw [List.getElem?_eq_getElem hk2] at h2; cases h2
  · rw [List.getElem?_eq_getElem hk2] at h2
    cases h2
    have hnone := badName_none ds 0 hnames d (List.mem_of_getElem? h1)
    obtain ⟨o, ho⟩ := h3.some hk
    have hmem : bindF ds (nmNd ts y) ∈ seg ns d.root d.fin := by
      rw [ho]
      have : bindF ds (nmNd ts y) ∈ (((flat ts (L[k]'hk2).t ((L[k]'hk2).i + 5) 0 o).map (bindF ds)).filter fun n => n.kind == 2) := by
        rw [bind_filter, flat_names hF _ _ _ _ (hsp _ hx hk).1]
        exact List.mem_map.2 ⟨_, List.mem_map.2 ⟨y, hy, rfl⟩, rfl⟩
      exact (List.mem_filter.1 this).1
    have := badNode_none _ hnone _ hmem (by rw [bind_nm]; rfl)
    rw [bind_nm] at this
    exact this
theorem seg_get {ns : List Nd} {a b i : Nat} (h1 : a ≤ i) (h2 : i < b) : (seg ns a b)[i - a]? = ns[i]? := by
  unfold seg
  rw [List.getElem?_take, if_pos (by omega), List.getElem?_drop, Nat.add_sub_cancel' h1]
theorem mark_of {ds : List Dc} {ns : List Nd} {a i : Nat} {d : Dc} {n : Nd} (hd : ds[a]? = some d) (hn : ns[i]? = some n) (h1 : d.root ≤ i) (h2 : i < d.fin) (hk : n.kind = 2) (hl : n.delayed = false) (hq : kindAt ds n.decl ≠ 0) : markAll ds ns 0 ds noM a n.decl.toNat = true := by
  rw [markAll_eq, Nat.sub_zero, hd, Option.any_some]
  have : ((seg ns d.root d.fin).any fun m => m.kind == 2 && (!m.delayed && (kindAt ds m.decl != 0 && m.decl.toNat == n.decl.toNat))) = true := by
    rw [List.any_eq_true]
    refine ⟨n, List.mem_of_getElem? ((seg_get h1 h2).trans hn), ?_⟩
    simp [hk, hl, hq]
  rw [this]; simp
theorem ranked_of {ts : List Tk} {L : List Dl} (H : Right ts L) {ds : List Dc} {ns : List Nd} (hB : Both2 ts L ds ns) : Ranked ds (markAll ds ns 0 ds noM) (fun a => rk ts L (cntE L a)) := by
  have hisE : ∀ (a : Nat) (d : Dc), ds[a]? = some d → d.kind ≠ 0 → isE L a = true := fun a d hd hk => by
    rcases hB.dx.getOpt a with ⟨h1, _⟩ | ⟨d', x, h1, h2, h3⟩
    · rw [h1] at hd; cases hd
    · rw [hd] at h1; cases h1
      unfold isE; rw [h2]; simp [← h3.kind, hk]
  have hlt : ∀ a, isE L a = true → cntE L a < (eqL L).length := fun a ha => by
    have h1 := cntE_get L a ha
    cases h2 : L[a]? with
    | none => unfold isE at ha; rw [h2] at ha; simp at ha
    | some x => rw [h2] at h1; exact (List.getElem?_eq_some_iff.1 h1).1
  constructor
  · intro a b h
    have ha : isE L a = true := by
      cases ha : isE L a with
      | true => rfl
      | false => rw [mark_none hB.dx a b ha] at h; cases h
    have hb : ∃ d, ds[b]? = some d ∧ d.kind ≠ 0 := by
      rw [markAll_eq, Nat.sub_zero] at h
      simp only [noM, Bool.false_or, Bool.and_eq_true] at h
      cases hd : ds[a]? with
      | none => rw [hd] at h; simp at h
      | some d =>
        rw [hd, Option.any_some, List.any_eq_true] at h
        obtain ⟨n, _, hn⟩ := h.2
        simp only [Bool.and_eq_true, bne_iff_ne, beq_iff_eq] at hn
        obtain ⟨_, _, h3, h4⟩ := hn
        unfold kindAt at h3
        rw [h4, List.getD_eq_getElem?_getD] at h3
        cases hb : ds[b]? with
        | none => rw [hb] at h3; exact absurd rfl h3
        | some e => rw [hb] at h3; exact ⟨e, rfl, h3⟩
    obtain ⟨d, hd, hk⟩ := hb
    refine ⟨?_, d, hd, hk⟩
    have hb := hisE b d hd hk
    rw [mark_rel H.F hB.N hB.sp hB.decl hB.dx a b ha hb] at h
    exact rk_less H.cyc (hlt b hb) h
  · intro a d hd hk
    have h1 := hlt a (hisE a d hd hk)
    have h2 := rk_lt H.cyc h1
    have h3 : (eqL L).length ≤ L.length := List.length_filter_le _ _
    have h4 : L.length = ds.length := hB.dx.len
    show rk ts L (cntE L a) < ds.length
    omega
set_option maxHeartbeats 1000000 in
theorem meant_of {ts : List Tk} {L : List Dl} (H : Right ts L) (hT : typesR ts L = none) (ins : List (List Int)) {ds : List Dc} {ns : List Nd} (hds : ds = declsD ts L 0 0 0) (hns : ns = (nodesD ts L 0).map (bindF ds)) (hB : Both2 ts L ds ns)
    (hcov : ∀ i, i < ns.length → ∃ d ∈ ds, d.root ≤ i ∧ i < d.fin) (hsg : ∀ d ∈ ds, (d.root = 0 ∧ d.fin = 0 ∧ d.kind = 0) ∨ (d.root < d.fin ∧ d.fin ≤ ns.length)) (hdr : ∀ n ∈ ns, n.kind = 2 → 0 ≤ n.decl ∧ n.decl < (ds.length : Int)) :
    ∃ NV, Meant ds ns ins NV ∧ ∀ (j : Nat) (d : Dc) (k : Nat), (eqsF ds)[j]? = some d → NV k d.root = sol ts L ins j k := by
  have hY := dy_all ts (bindF ds) (valV ts L ins (sol ts L ins)) L 0 0 0 [] (fun _ => []) rfl (fun _ => rfl)
  simp only [List.nil_append] at hY
  rw [← hds, ← hns] at hY
  have hat : ∀ (a : Nat) (d : Dc), ds[a]? = some d → ∃ x, L[a]? = some x ∧ DY ts (bindF ds) ns (valV ts L ins (sol ts L ins)) (fun k => valsD ts (valV ts L ins (sol ts L ins)) k L) d x := fun a d hd => by
    rcases hY.getOpt a with ⟨h1, _⟩ | ⟨d', x, h1, h2, h3⟩
    · rw [h1] at hd; cases hd
    · rw [hd] at h1; cases h1; exact ⟨x, h2, h3⟩
  have hnum : ∀ (a : Nat) (d : Dc) (x : Dl), ds[a]? = some d → L[a]? = some x → (x.kind = 0 → ∃ m, d.number = m ∧ (inL L)[m]? = some x) ∧ (x.kind ≠ 0 → ∃ m, d.number = m ∧ (eqL L)[m]? = some x) := fun a d x h1 h2 => by
    rw [hds] at h1
    have := decls_num ts L 0 0 0 a d x h1 h2
    simpa only [Nat.zero_add] using this
  have hmemE : ∀ (a : Nat) (x : Dl), L[a]? = some x → x.kind ≠ 0 → x ∈ eqL L := fun a x hx hk => List.mem_filter.2 ⟨List.mem_of_getElem? hx, by simpa using hk⟩
  have hroot : ∀ (a : Nat) (d : Dc) (x : Dl) (m k : Nat), ds[a]? = some d → L[a]? = some x → x.kind ≠ 0 → (eqL L)[m]? = some x → (valsD ts (valV ts L ins (sol ts L ins)) k L).getD d.root 0 = sol ts L ins m k := fun a d x m k h1 h2 hk hm => by
    obtain ⟨x', h3, h4⟩ := hat a d h1
    rw [h2] at h3; cases h3
    obtain ⟨hm1, hm2⟩ := List.getElem?_eq_some_iff.1 hm
    rw [flatV_head (h4.vals hk k), sol_eq H.toEqs m k hm1, hm2]
  refine ⟨fun k i => (valsD ts (valV ts L ins (sol ts L ins)) k L).getD i 0, ⟨?_, ?_, ?_, ?_, ?_, hdr, ?_⟩, ?_⟩
  · intro i hi
    obtain ⟨d, hd, h1, h2⟩ := hcov i hi
    obtain ⟨a, ha, rfl⟩ := List.getElem_of_mem hd
    obtain ⟨x, hx, hy⟩ := hat a _ (List.getElem?_eq_getElem ha)
    refine ⟨a, _, List.getElem?_eq_getElem ha, fun e => ?_, h1, h2⟩
    have := hy.zero (by rw [← hy.kind]; exact e)
    omega
  · intro i n hn k
    have hi := (List.getElem?_eq_some_iff.1 hn).1
    obtain ⟨d, hd, h1, h2⟩ := hcov i hi
    obtain ⟨a, ha, rfl⟩ := List.getElem_of_mem hd
    obtain ⟨x, hx, hy⟩ := hat a _ (List.getElem?_eq_getElem ha)
    have hk : x.kind ≠ 0 := fun e => by have := hy.zero e; omega
    have hf := hy.fin hk
    have hxe := hmemE a x hx hk
    obtain ⟨hs, hl⟩ := H.sp x hxe
    have hw : wrongR ts L x.t (x.i + 5) (wB (x.kind == 2)) = none := by
      have := hT
      unfold typesR at this
      rw [List.findSome?_eq_none_iff] at this
      exact this x hxe
    have hX := hy.vals hk
    have hlt : i - ds[a].root < (flat ts x.t (x.i + 5) 0 ds[a].root).length := by
      rw [flat_len]
      have h1' := h1
      have h2' := h2
      rw [hf] at h2'
      generalize ds[a].root = rr at *
      omega
    have key := flat_val H.F (L := L) (ds := ds) (ins := ins) (V := valV ts L ins (sol ts L ins)) (k := k) (X := fun i => (valsD ts (valV ts L ins (sol ts L ins)) k L).getD i 0) (Y := fun i => (valsD ts (valV ts L ins (sol ts L ins)) (k - 1) L).getD i 0) (val_bit H (fun j n x hx hk => sol_bit H hT j n x hx hk)) x.t (x.i + 5) 0 ds[a].root (wB (x.kind == 2)) hs hl hw ?_ (hX k) (fun _ => hX (k - 1))
    · rw [allAt_get] at key
      obtain ⟨n', hn'⟩ : ∃ n', (flat ts x.t (x.i + 5) 0 ds[a].root)[i - ds[a].root]? = some n' := ⟨_, List.getElem?_eq_getElem hlt⟩
      have h3 := (allAt_get _ _).1 (hy.nodes hk) _ _ hn'
      rw [Nat.add_sub_cancel' h1, hn] at h3
      cases h3
      have := key _ _ hn'
      rw [Nat.add_sub_cancel' h1] at this
      exact this
    · intro j hj
      have hjl := nms_lt x.t _ j hj
      obtain ⟨z, hz, he⟩ := H.decl j (by omega) (nms_nm x.t _ j hj)
      have hfd : 0 ≤ findF ds (tkAt ts j).text := by
        rw [nms_nmD ts x.t _ false] at hj
        obtain ⟨y, hy, rfl⟩ := List.mem_map.1 hj
        exact hB.decl x (List.mem_of_getElem? hx) hk y hy
      obtain ⟨b, hb, rfl⟩ := List.getElem_of_mem hz
      have hbd : b < ds.length := by have := hB.dx.len; omega
      obtain ⟨z', hz', hyb⟩ := hat b _ (List.getElem?_eq_getElem hbd)
      rw [List.getElem?_eq_getElem hb] at hz'
      cases hz'
      have hfb : findF ds (tkAt ts j).text = (b : Int) := by
        have h5 := hB.N.own b hbd
        rw [findF_name ds (b := (tkAt ts j).text) (by rw [hyb.name]; exact he)] at h5
        exact h5
      have hgd : ds.getD b ⟨0, 0, ⟨#[]⟩, 0, 0, 0, 0⟩ = ds[b] := by rw [List.getD_eq_getElem?_getD, List.getElem?_eq_getElem hbd]; rfl
      unfold nameF kindAt numAt rootAt
      rw [hfb]
      simp only [Int.toNat_natCast]
      rw [hgd, hyb.kind]
      have hnb := hnum b ds[b] L[b] (List.getElem?_eq_getElem hbd) (List.getElem?_eq_getElem hb)
      by_cases hkb : L[b].kind = 0
      · rw [if_pos hkb]
        obtain ⟨m, hm, hg⟩ := hnb.1 hkb
        rw [← he, val_in H hg, hm]
      · rw [if_neg hkb]
        obtain ⟨m, hm, hg⟩ := hnb.2 hkb
        rw [← he, val_eq H hg]
        exact (hroot b _ _ m k (List.getElem?_eq_getElem hbd) (List.getElem?_eq_getElem hb) hkb hg).symm
  · intro a d hd hk i n hn h1 h2 c hc
    obtain ⟨x, hx, hy⟩ := hat a d hd
    have hkx : x.kind ≠ 0 := by rw [← hy.kind]; exact hk
    have hf := hy.fin hkx
    have hD : AllAt (fun j n => dlAt ns j = n.delayed) d.root (flat ts x.t (x.i + 5) 0 d.root) := by
      refine AllAt.mono (fun j m h => ?_) _ _ (hy.nodes hkx)
      unfold dlAt
      rw [h]
      show (bindF ds m).delayed = _
      unfold bindF; split <;> rfl
    have key := flat_kids x.t (x.i + 5) 0 d.root d.fin (by omega) hD
    obtain ⟨n', hn'⟩ : ∃ n', (flat ts x.t (x.i + 5) 0 d.root)[i - d.root]? = some n' := ⟨_, List.getElem?_eq_getElem (by rw [flat_len]; omega)⟩
    have h3 := (allAt_get _ _).1 (hy.nodes hkx) _ _ hn'
    rw [Nat.add_sub_cancel' h1, hn] at h3
    cases h3
    have e1 : needs (bindF ds n') = needs n' := by
      obtain ⟨k1, k2, k3, k4⟩ := bindF_keep ds n'
      unfold needs; rw [k1, k2, k3, k4]
    have e2 : (bindF ds n').delayed = n'.delayed := by unfold bindF; split <;> rfl
    rw [e1] at hc
    rw [e2]
    have := (allAt_get _ _).1 key _ _ hn' c hc
    rw [Nat.add_sub_cancel' h1] at this
    exact this
  · intro a d hd hk
    obtain ⟨x, hx, hy⟩ := hat a d hd
    have hkx : x.kind ≠ 0 := by rw [← hy.kind]; exact hk
    obtain ⟨n, l, e, hn⟩ := flat_head x.t (x.i + 5) 0 d.root (ts := ts)
    have h := hy.nodes hkx
    rw [e] at h
    have h1 := h.1
    refine ⟨(List.getElem?_eq_some_iff.1 h1).1, ?_⟩
    unfold dlAt
    rw [h1]
    show (bindF ds n).delayed = false
    have : (bindF ds n).delayed = n.delayed := by unfold bindF; split <;> rfl
    rw [this, hn]; rfl
  · intro a d hd hk
    rcases hsg d (List.mem_of_getElem? hd) with ⟨_, _, h⟩ | h
    · exact absurd h hk
    · exact h
  · intro a d hd _ i n hn h1 h2 hk hl hq
    exact mark_of hd hn h1 h2 hk hl hq
  · intro j d k hj
    have hmem := List.mem_of_getElem? hj
    have hE : All2 (DY ts (bindF ds) ns (valV ts L ins (sol ts L ins)) (fun k => valsD ts (valV ts L ins (sol ts L ins)) k L)) (eqsF ds) (eqL L) := All2.filter (fun d x h => by rw [h.kind]) hY
    rcases hE.getOpt j with ⟨h1, _⟩ | ⟨d', x, h1, h2, h3⟩
    · rw [h1] at hj; cases hj
    · rw [hj] at h1; cases h1
      obtain ⟨hm1, hm2⟩ := List.getElem?_eq_some_iff.1 h2
      have hk : x.kind ≠ 0 := by simpa using (List.mem_filter.1 (List.mem_of_getElem? h2)).2
      show (valsD ts (valV ts L ins (sol ts L ins)) k L).getD d.root 0 = _
      rw [flatV_head (h3.vals hk k), sol_eq H.toEqs j k hm1, hm2]
structure ROk (ts : List Tk) (L : List Dl) : Prop where
  F : ∀ i, TkF (tkAt ts i)
  E : ∀ i, (tkAt ts i).kind = 0 → ts.length ≤ i + 1
  len : ts.length ≤ 1501
  pos : 0 < ts.length
  sp : Spell ts L 0
theorem ROk.mem {ts : List Tk} {L : List Dl} (h : ROk ts L) {x : Dl} (hx : x ∈ L) : x.i + x.len < ts.length ∧ DlOk ts x := (spell_mem L 0 h.sp x hx).2
theorem ROk.eq {ts : List Tk} {L : List Dl} (h : ROk ts L) {x : Dl} (hx : x ∈ eqL L) : x ∈ L ∧ x.kind ≠ 0 ∧ Sp ts x.t (x.i + 5) ∧ x.i + 5 + x.t.len < ts.length ∧ placeD ts x < 4 := by
  have hm := List.mem_filter.1 hx
  have hk : x.kind ≠ 0 := by simpa using hm.2
  obtain ⟨h1, h2⟩ := h.mem hm.1
  have hl : x.len = x.t.len + 6 := by unfold Dl.len; rw [if_neg hk]
  refine ⟨hm.1, hk, ?_, by omega, ?_⟩
  · rcases h2 with ⟨h, _⟩ | ⟨_, _, _, _, _, h, _⟩
    · exact absurd h hk
    · exact h
  · rcases h2 with ⟨h, _⟩ | ⟨_, _, _, h, _⟩
    · exact absurd h hk
    · exact h.2
theorem read_zero {ts : List Tk} {L : List Dl} (h : (readR ts L).1 = 0) : manyR ts L = none ∧ namesR ts L = none ∧ typesR ts L = none ∧ cycR ts L = none ∧ lpR ts L = none := by
  unfold readR at h
  cases h1 : manyR ts L with
  | some a => rw [h1] at h; cases h
  | none =>
    cases h2 : namesR ts L with
    | some a => rw [h1, h2] at h; cases h
    | none =>
      cases h3 : typesR ts L with
      | some a => rw [h1, h2, h3] at h; cases h
      | none =>
        cases h4 : cycR ts L with
        | some a => rw [h1, h2, h3, h4] at h; cases h
        | none =>
          cases h5 : lpR ts L with
          | some a => rw [h1, h2, h3, h4, h5] at h; cases h
          | none => exact ⟨rfl, rfl, rfl, rfl, rfl⟩
theorem text_small {s : ByteArray} (h : (textF s).1 ≠ 1) : s.size ≤ 1500 := by
  by_cases hs : 1500 < s.size
  · unfold textF at h; rw [if_pos hs] at h; exact absurd rfl h
  · omega
theorem rok_of {s : ByteArray} {L : List Dl} (hs : s.size ≤ 1500) (h : Spell (toks s) L 0) : ROk (toks s) L :=
  ⟨toks_F s, toks_end s, (toks_ok s hs).1, (toks_ok s hs).pos, h⟩
theorem good_text {s : ByteArray} (h : (textF s).1 = 0) : ∃ L, RGood s L ∧ Right (toks s) L ∧ ROk (toks s) L := by
  have hs := text_small (s := s) (by omega)
  rcases text_read s hs with ⟨k, _, ht, _⟩ | ⟨L, hsp, _, ht, hp⟩
  · rw [ht] at h; cases h
  · rw [ht] at h
    obtain ⟨h1, h2, h3, h4, h5⟩ := read_zero h
    exact ⟨L, ⟨h1, h2, h3, h4, h5, hsp, hp⟩, right_of (toks_F s) hsp h1 h2 h4, rok_of hs hsp⟩
end Go.Proofs.Ytmndgoapkmhglab
namespace Go.Proofs.Ytmndgoapkmhglab
open Go.RowKit
def aheadG (sc : List OpF) (i : Nat) : Nat → Option Nat
  | 0 => none
  | k + 1 => if (actF sc k).k = (actF sc i).k then some k else aheadG sc i k
def aheadP (sc : List OpF) (i : Nat) : Option Nat := aheadG sc i i
theorem aheadG_some {sc : List OpF} {i : Nat} : ∀ {k m : Nat}, aheadG sc i k = some m → m < k ∧ (actF sc m).k = (actF sc i).k ∧ ∀ t, m < t → t < k → (actF sc t).k ≠ (actF sc i).k := by
  intro k
  induction k with
  | zero => intro m h; cases h
  | succ k ih =>
    intro m h
    unfold aheadG at h
    split at h
    · rename_i hk
      cases h
      exact ⟨Nat.lt_succ_self _, hk, fun t h1 h2 => by omega⟩
    · rename_i hk
      obtain ⟨h1, h2, h3⟩ := ih h
      refine ⟨by omega, h2, fun t g1 g2 => ?_⟩
      rcases Nat.lt_succ_iff_lt_or_eq.1 g2 with h' | rfl
      · exact h3 t g1 h'
      · exact hk
theorem aheadG_none {sc : List OpF} {i : Nat} : ∀ {k : Nat}, aheadG sc i k = none → ∀ t, t < k → (actF sc t).k ≠ (actF sc i).k := by
  intro k
  induction k with
  | zero => intro _ t ht; omega
  | succ k ih =>
    intro h t ht
    unfold aheadG at h
    split at h
    · cases h
    · rename_i hk
      rcases Nat.lt_succ_iff_lt_or_eq.1 ht with h' | rfl
      · exact ih h t h'
      · exact hk
theorem laterG_is (sc : List OpF) (i : Nat) : ∀ (f k m : Nat), laterG sc i f k = (m : Int) → k ≤ m ∧ m < k + f ∧ (actF sc m).k = (actF sc i).k ∧ ∀ t, k ≤ t → t < m → (actF sc t).k ≠ (actF sc i).k := by
  intro f
  induction f with
  | zero => intro k m h; unfold laterG at h; omega
  | succ f ih =>
    intro k m h
    unfold laterG at h
    split at h
    · rename_i hk
      have : k = m := by omega
      subst this
      exact ⟨Nat.le_refl _, by omega, hk, fun t h1 h2 => by omega⟩
    · rename_i hk
      obtain ⟨h1, h2, h3, h4⟩ := ih (k + 1) m h
      refine ⟨by omega, by omega, h3, fun t g1 g2 => ?_⟩
      rcases Nat.eq_or_lt_of_le g1 with rfl | h'
      · exact hk
      · exact h4 t h' g2
theorem later_is {sc : List OpF} {i m : Nat} (hi : i < sc.length) (h : laterF sc i = (m : Int)) : i < m ∧ m < sc.length ∧ (actF sc m).k = (actF sc i).k ∧ ∀ t, i < t → t < m → (actF sc t).k ≠ (actF sc i).k := by
  obtain ⟨h1, h2, h3, h4⟩ := laterG_is sc i _ _ m h
  exact ⟨by omega, by omega, h3, fun t g1 g2 => h4 t (by omega) g2⟩
theorem ahead_later {sc : List OpF} {i j : Nat} (hj : j < sc.length) : (aheadP sc j = some i) ↔ i < j ∧ laterF sc i = (j : Int) := by
  constructor
  · intro h
    obtain ⟨h1, h2, h3⟩ := aheadG_some h
    refine ⟨h1, ?_⟩
    obtain ⟨m, e, g1, g2, g3⟩ := later_hit sc i (sc.length - (i + 1)) (i + 1) j (by omega) (by omega) h2.symm
    have hm : m = j := by
      rcases Nat.eq_or_lt_of_le g2 with h' | h'
      · exact h'
      · exact absurd (g3.trans h2) (h3 m (by omega) h')
    subst hm
    exact e
  · rintro ⟨hij, h⟩
    obtain ⟨_, _, h3, h4⟩ := later_is (by omega) h
    cases hc : aheadP sc j with
    | none => exact absurd h3.symm (aheadG_none hc i hij)
    | some k =>
      obtain ⟨g1, g2, g3⟩ := aheadG_some hc
      rcases Nat.lt_trichotomy k i with h' | h' | h'
      · exact absurd h3.symm (g3 i h' hij)
      · rw [h']
      · exact absurd (g2.trans h3) (h4 k h' g1)
def lastP (sc : List OpF) : Nat → Int
  | 0 => 0
  | i + 1 => (actF sc i).a
def inB (x l m : Int) : Bool := decide (l ≤ x) && decide (x ≤ m)
def bothB (o : OpF) (l m : Int) : Bool := inB o.b l m && inB o.c l m
theorem inB_iff (x l m : Int) : inB x l m = true ↔ l ≤ x ∧ x ≤ m := by simp [inB]
theorem bothB_iff (o : OpF) (l m : Int) : bothB o l m = true ↔ (l ≤ o.b ∧ o.b ≤ m) ∧ (l ≤ o.c ∧ o.c ≤ m) := by simp [bothB, inB]
def okA (ws : List Nat) (sc : List OpF) (i : Nat) : Bool := hereK ws (actF sc i).k && inB (actF sc i).a (lastP sc i) 1099511627776 && bothB (actF sc i) 0 1099511627776
def apartA (sc : List OpF) (i : Nat) : Bool := match aheadP sc i with
  | none => true
  | some k => bothB (actF sc k) 0 ((actF sc i).a - (actF sc k).a - 1)
def playP (ws : List Nat) (sc : List OpF) : Bool := decide (sc.length ≤ 400) && (List.range sc.length).all (okA ws sc) && (List.range sc.length).all (apartA sc)
theorem all_iff {n : Nat} {p : Nat → Bool} : (List.range n).all p = true ↔ ∀ i, i < n → p i = true := by
  rw [List.all_eq_true]
  exact ⟨fun h i hi => h i (List.mem_range.2 hi), fun h i hi => h i (List.mem_range.1 hi)⟩
theorem ok_time {ws : List Nat} {sc : List OpF} {n : Nat} (h : ∀ i, i < n → okA ws sc i = true) : ∀ i, i < n → 0 ≤ (actF sc i).a ∧ (actF sc i).a ≤ 1099511627776 := by
  intro i
  induction i with
  | zero =>
    intro hi
    have := h 0 hi
    unfold okA at this
    rw [Bool.and_eq_true, Bool.and_eq_true, inB_iff] at this
    exact this.1.2
  | succ i ih =>
    intro hi
    have := h (i + 1) hi
    unfold okA at this
    rw [Bool.and_eq_true, Bool.and_eq_true, inB_iff] at this
    have h1 : (actF sc i).a ≤ (actF sc (i + 1)).a := this.1.2.1
    have h2 := ih (by omega)
    exact ⟨by omega, this.1.2.2⟩
theorem playP_eq (ws : List Nat) (sc : List OpF) : playP ws sc = playK ws sc := by
  rw [Bool.eq_iff_iff]
  unfold playP playK
  rw [Bool.and_eq_true, Bool.and_eq_true, Bool.and_eq_true, decide_eq_true_iff, and_assoc]
  refine and_congr Iff.rfl ?_
  rw [all_iff, all_iff, all_iff]
  constructor
  · rintro ⟨h1, h2⟩ i hi
    have ht := ok_time h1
    rw [Bool.not_eq_true', badK_iff]
    have h3 := h1 i hi
    unfold okA at h3
    rw [Bool.and_eq_true, Bool.and_eq_true, inB_iff, bothB_iff] at h3
    refine ⟨h3.1.1, ht i hi, h3.2.1, h3.2.2, (back_iff sc i).2 fun j e => ?_, fun h => ?_⟩
    · subst e; exact h3.1.2.1
    · unfold nextF at h ⊢
      split at h
      · omega
      · rename_i hn
        obtain ⟨m, e, g1, g2⟩ := later_nat sc hi (by omega)
        rw [if_neg hn, e, Int.toNat_natCast]
        have h4 := h2 m g2
        unfold apartA at h4
        rw [(ahead_later g2).2 ⟨g1, e⟩] at h4
        simp only [bothB_iff] at h4
        have t1 := ht i hi
        have t2 := ht m g2
        rw [show IntKind.i64.wrap ((actF sc m).a - (actF sc i).a) = (actF sc m).a - (actF sc i).a by rw [IntKind.wrap_i64]; omega]
        omega
  · intro h
    have hk : ∀ i, i < sc.length → _ := fun i hi => (badK_iff ws sc i).1 (by have := h i hi; rwa [Bool.not_eq_true'] at this)
    refine ⟨fun i hi => ?_, fun i hi => ?_⟩
    · obtain ⟨g1, g2, g3, g4, g5, g6⟩ := hk i hi
      unfold okA
      rw [Bool.and_eq_true, Bool.and_eq_true, inB_iff, bothB_iff]
      refine ⟨⟨g1, ?_, g2.2⟩, g3, g4⟩
      cases i with
      | zero => exact g2.1
      | succ i => exact (back_iff sc (i + 1)).1 g5 i rfl
    · unfold apartA
      cases hc : aheadP sc i with
      | none => rfl
      | some k =>
        obtain ⟨g1, e⟩ := (ahead_later hi).1 hc
        obtain ⟨_, a1, b1, c1, _, h6⟩ := hk k (by omega)
        have a2 := (hk i hi).2.1
        have hm : (actF sc k).a ≤ (actF sc i).a := by
          have : ∀ d, k + d < sc.length → (actF sc k).a ≤ (actF sc (k + d)).a := by
            intro d
            induction d with
            | zero => intro _; exact Int.le_refl _
            | succ d ih =>
              intro hd
              have h7 := ih (by omega)
              have h8 := (back_iff sc (k + d + 1)).1 (hk (k + d + 1) hd).2.2.2.2.1 (k + d) rfl
              exact Int.le_trans h7 h8
          have h9 := this (i - k) (by omega)
          rwa [show k + (i - k) = i by omega] at h9
        have hw : IntKind.i64.wrap ((actF sc i).a - (actF sc k).a) = (actF sc i).a - (actF sc k).a := by rw [IntKind.wrap_i64]; omega
        have hx : nextF sc k = (actF sc i).a - (actF sc k).a := by
          unfold nextF
          rw [e, if_neg (by omega), Int.toNat_natCast, hw]
        rw [hx] at h6
        have h7 := h6 (by omega)
        simp only [bothB_iff]
        omega
end Go.Proofs.Ytmndgoapkmhglab
