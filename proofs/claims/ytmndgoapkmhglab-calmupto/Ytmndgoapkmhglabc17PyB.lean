import Derived.Deep.OwnRows
import Derived.Test.Ytmndgoapkmhglabc03ParA
import Derived.Test.Ytmndgoapkmhglabc15RefHa
/- Plain mathematics: nothing is ever stuck. -/
namespace Go.Proofs.Ytmndgoapkmhglab

theorem did_app (P Q : PastF) (pl what now : Int) (data : Bool) : didF (P ++ Q) pl what now data = didF P pl what now data + didF Q pl what now data := by
  unfold didF; rw [List.filter_append, List.length_append]
theorem cnt_app (P Q : PastF) (pl what : Int) : cntF (P ++ Q) pl what = cntF P pl what + cntF Q pl what := by
  unfold cntF; rw [List.filter_append, List.length_append]
theorem did_none {S : PastF} {x : Int} (h : ∀ y ∈ S, x < y.2.a) (pl what : Int) : didF S pl what x false = 0 := by
  unfold didF
  rw [List.length_eq_zero_iff, List.filter_eq_nil_iff]
  intro y hy
  have := h y hy
  simp only [Bool.and_eq_true, decide_eq_true_eq, Bool.false_eq_true, if_false]
  omega
theorem taken_none {x : Int} (l : Nat) : ∀ {S : PastF}, (∀ y ∈ S, x < y.2.a) → takenF x l false S = 0 := by
  intro S
  induction S with
  | nil => intro _; rfl
  | cons y S ih =>
    intro h
    have := h y (by simp)
    simp only [takenF]
    rw [if_neg (by simp; omega), ih (fun z hz => h z (List.mem_cons_of_mem _ hz))]
theorem did_mono {P : PastF} {x y : Int} (h : x ≤ y) (pl what : Int) : didF P pl what x false ≤ didF P pl what y false := by
  refine past_ind (p := fun P => didF P pl what x false ≤ didF P pl what y false) (by simp [didF]) (fun P z ih => ?_) P
  rw [didF_snoc, didF_snoc]
  have : (if (isD pl what z && decide (z.2.a + (if false = true then z.1.c else 0) ≤ x)) = true then 1 else 0) ≤ if (isD pl what z && decide (z.2.a + (if false = true then z.1.c else 0) ≤ y)) = true then 1 else 0 := by
    simp only [Bool.false_eq_true, if_false]
    cases isD pl what z with
    | false => simp
    | true =>
      simp only [Bool.true_and, decide_eq_true_eq]
      by_cases h1 : z.2.a + 0 ≤ x
      · rw [if_pos h1, if_pos (by omega)]; exact Nat.le_refl _
      · rw [if_neg h1]; exact Nat.zero_le _
  omega
theorem taken_mono {x y : Int} (h : x ≤ y) (l : Nat) : ∀ (P : PastF), takenF x l false P ≤ takenF y l false P := by
  intro P
  induction P with
  | nil => exact Nat.le_refl _
  | cons z P ih =>
    simp only [takenF, Bool.false_eq_true, if_false]
    by_cases h1 : z.2.a + 0 ≤ x
    · rw [if_pos h1, if_pos (by omega)]; omega
    · rw [if_neg h1]; omega

/-- if all that was taken was taken by a time, it is known soon behind it. -/
theorem known_le {Dm y : Int} (hy : 0 ≤ y + Dm) (l : Nat) : ∀ P : PastF, (∀ x ∈ P, x.1.b ≤ Dm) → tkF l P ≤ takenF y l false P → knownF l P 0 ≤ y + Dm := by
  refine past_ind (fun _ _ => hy) (fun P x ih hb h => ?_)
  have hb' : ∀ z ∈ P, z.1.b ≤ Dm := fun z hz => hb z (List.mem_append_left _ hz)
  rw [tkF_app, takenF_app] at h
  simp only [tkF, takenF, Nat.add_zero, Bool.false_eq_true, if_false, Int.add_zero] at h
  have h1 := taken_le y l false P
  rw [knownF_app]
  simp only [knownF]
  by_cases hm : l ∈ x.2.took
  · have hc : 0 < x.2.took.count l := List.count_pos_iff.2 hm
    rw [if_pos hm]
    by_cases hx : x.2.a ≤ y
    · have := hb x (by simp); omega
    · rw [if_neg hx] at h; omega
  · rw [if_neg hm]
    refine ih hb' ?_
    have hc : x.2.took.count l = 0 := List.count_eq_zero.2 hm
    rw [hc] at h
    split at h <;> omega
theorem comes_le {Dm y : Int} (hy : 0 ≤ y + Dm) (pl : Int) : ∀ P : PastF, (∀ x ∈ P, x.1.c ≤ Dm) → cntF P pl 2 ≤ didF P pl 2 y false → comesF pl P 0 ≤ y + Dm := by
  refine past_ind (fun _ _ => hy) (fun P x ih hb h => ?_)
  have hb' : ∀ z ∈ P, z.1.c ≤ Dm := fun z hz => hb z (List.mem_append_left _ hz)
  rw [cntF_snoc, didF_snoc] at h
  simp only [Bool.false_eq_true, if_false, Int.add_zero] at h
  have h1 := did_le P pl 2 y false
  rw [comesF_app]
  simp only [comesF]
  cases hm : isD pl 2 x with
  | true =>
    rw [if_pos rfl]
    rw [hm] at h
    simp only [Bool.true_and, if_true] at h
    by_cases hx : x.2.a ≤ y
    · have := hb x (by simp); omega
    · rw [if_neg (by simpa using hx)] at h; omega
  | false =>
    rw [if_neg (by simp)]
    rw [hm] at h
    simp at h
    exact ih hb' h

section
variable {N : List LnF} {V : Int → Nat → List Int} {P : PastF} {a : OpF} (hO : PastOk N P a.a) (hI : RunInv N P)
include hO hI

/-- it publishes. -/
theorem go_publish {k : Nat} (h1 : k + 1 ≤ cntF P a.k 1) (h2 : ∀ l, l < N.length → (lnAt N l).src = a.k → k ≤ tkF l P ∧ (tkF l P ≤ k → knownF l P 0 ≤ a.a)) : k + 1 ≤ cntF (P ++ [(a, wakeF N V P a)]) a.k 2 := by
  rw [cnt_next]
  by_cases hd : k + 1 ≤ cntF P a.k 2
  · omega
  · have ht := hI.turn a.k
    have e2 : cntF P a.k 2 = k := by omega
    have e1 : cntF P a.k 1 = k + 1 := by omega
    have hnr : ¬ readyF N P a = true := fun hr => by have := ((ready_iff hO hI).1 hr).1; omega
    have hf : freeF N P a = true := by
      rw [free_iff hO hI]
      refine ⟨by omega, fun l hl hs => ?_⟩
      obtain ⟨g1, g2⟩ := h2 l hl hs
      have := (hI.sent l hl).1
      rw [hs] at this
      have e : tkF l P = k := by omega
      exact ⟨by omega, .inl (g2 (by omega))⟩
    rcases did_cases N V P a with ⟨hr, _⟩ | ⟨_, _, hd⟩ | ⟨_, hf', _⟩
    · exact absurd hr hnr
    · rw [hd, if_pos ⟨rfl, rfl⟩]; omega
    · rw [hf] at hf'; cases hf'

/-- it takes. -/
theorem go_take {m l : Nat} (hl : l < N.length) (hd : (lnAt N l).dst = a.k) (h1 : m ≤ cntF P (lnAt N l).src 2) (h2 : cntF P (lnAt N l).src 2 ≤ m → comesF (lnAt N l).src P 0 ≤ a.a) (h3 : m + lateN N l ≤ cntF P a.k 1 + 1) : m ≤ tkF l P + (if canF N P a l = true then 1 else 0) := by
  by_cases hm : m ≤ tkF l P
  · omega
  · have hs := hI.sent l hl
    have hsl := hI.slot l hl
    rw [hd] at hsl
    have hc : canF N P a l = true := by
      rw [can_iff hO hI hl]
      exact ⟨hd, by omega, h2 (by omega), by omega⟩
    rw [if_pos hc]; omega

/-- it steps. -/
theorem go_step {k : Nat} (h1 : k ≤ cntF P a.k 2) (h2 : ∀ l, l < N.length → (lnAt N l).dst = a.k → k + 1 ≤ tkF l P + (if canF N P a l = true then 1 else 0) + lateN N l) : k + 1 ≤ cntF (P ++ [(a, wakeF N V P a)]) a.k 1 := by
  rw [cnt_next]
  by_cases hd : k + 1 ≤ cntF P a.k 1
  · omega
  · have ht := hI.turn a.k
    have hr : readyF N P a = true := by
      rw [ready_iff hO hI]
      refine ⟨by omega, fun l hl hs => ?_⟩
      have g := h2 l hl hs
      have hsl := hI.slot l hl
      rw [hs] at hsl
      by_cases hc : canF N P a l = true
      · have := ((can_iff hO hI hl).1 hc).2.2.2
        rw [if_pos hc] at g ⊢; omega
      · rw [if_neg hc] at g ⊢; omega
    rcases did_cases N V P a with ⟨_, hd⟩ | ⟨hr', _, _⟩ | ⟨hr', _, _⟩
    · rw [hd, if_pos ⟨rfl, rfl⟩]; omega
    · rw [hr] at hr'; cases hr'
    · rw [hr] at hr'; cases hr'

end

theorem run_app (N : List LnF) (V : Int → Nat → List Int) : ∀ (s t : List OpF) (P : PastF), runG N V P (s ++ t) = runG N V (runG N V P s) t := by
  intro s
  induction s with
  | nil => intro t P; rfl
  | cons a s ih => intro t P; exact ih t _
theorem run_ext (N : List LnF) (V : Int → Nat → List Int) : ∀ (t : List OpF) (P : PastF), ∃ S, runG N V P t = P ++ S ∧ S.map Prod.fst = t ∧ ∀ x ∈ S, x.2.a = x.1.a := by
  intro t
  induction t with
  | nil => intro P; exact ⟨[], by simp [runG], rfl, fun x hx => by simp at hx⟩
  | cons a t ih =>
    intro P
    obtain ⟨S, h1, h2, h3⟩ := ih (P ++ [(a, wakeF N V P a)])
    refine ⟨(a, wakeF N V P a) :: S, ?_, by simp [h2], fun x hx => ?_⟩
    · show runG N V (P ++ [(a, wakeF N V P a)]) t = _
      rw [h1]; simp
    · rcases List.mem_cons.1 hx with rfl | hx
      · rfl
      · exact h3 x hx

/-- an act of a script that is played: what is there ahead of it, and behind it. -/
structure AtAct (N : List LnF) (V : Int → Nat → List Int) (sc : List OpF) (R : PastF) (a : OpF) (P : PastF) : Prop where
  ok : PastOk N P a.a
  inv : RunInv N P
  did0 : ∀ x, x < a.a → ∀ pl what, didF R pl what x false ≤ cntF P pl what
  tk0 : ∀ x, x < a.a → ∀ l, takenF x l false R ≤ tkF l P
  didP : ∀ x, x < a.a → ∀ pl what, didF P pl what x false = didF R pl what x false
  tkP : ∀ x, x < a.a → ∀ l, takenF x l false P = takenF x l false R
  did1 : ∀ pl what, cntF (P ++ [(a, wakeF N V P a)]) pl what ≤ didF R pl what a.a false
  tk1 : ∀ l, l < N.length → tkF l P + (if canF N P a l = true then 1 else 0) ≤ takenF a.a l false R
  mem : ∀ x ∈ P, x.1 ∈ sc

theorem at_act {N : List LnF} (hA : Apart N) (V : Int → Nat → List Int) {sc : List OpF} (hS : ActsOk sc) {a : OpF} (ha : a ∈ sc) : ∃ P, AtAct N V sc (runG N V [] sc) a P := by
  obtain ⟨s, t, rfl⟩ := List.append_of_mem ha
  have hg := List.pairwise_append.1 hS.gap
  have hind := run_ind hA V (p := fun _ => True) (fun _ _ _ _ _ _ => trivial) s [] (fun x hx => hS.nn x (List.mem_append_left _ hx)) (by simpa using hg.1) (fun t _ => past_start N t) (inv_start N) trivial
  obtain ⟨S0, f1, f2, f3⟩ := run_ext N V s []
  rw [List.nil_append] at f1
  have hPm : ∀ x ∈ runG N V [] s, x.1 ∈ s := fun x hx => by rw [← f2, ← f1]; exact List.mem_map.2 ⟨x, hx, rfl⟩
  have hle : ∀ x ∈ runG N V [] s, x.1.a ≤ a.a := fun x hx => (hg.2.2 x.1 (hPm x hx) a (by simp)).1
  obtain ⟨S, e1, e2, e3⟩ := run_ext N V t (runG N V [] s ++ [(a, wakeF N V (runG N V [] s) a)])
  have hR : runG N V [] (s ++ a :: t) = runG N V [] s ++ ([(a, wakeF N V (runG N V [] s) a)] ++ S) := by
    rw [run_app]
    show runG N V (runG N V [] s ++ [(a, wakeF N V (runG N V [] s) a)]) t = _
    rw [e1, List.append_assoc]
  have hlate : ∀ x, x < a.a → ∀ y ∈ [(a, wakeF N V (runG N V [] s) a)] ++ S, x < y.2.a := fun x hx y hy => by
    rcases List.mem_append.1 hy with hy | hy
    · rw [List.mem_singleton] at hy; subst hy; exact hx
    · have hyt : y.1 ∈ t := by rw [← e2]; exact List.mem_map.2 ⟨y, hy, rfl⟩
      have h2 := ((List.pairwise_cons.1 hg.2.1).1 y.1 hyt).1
      rw [e3 y hy]; omega
  have hO := hind.2.2 a.a hle
  refine ⟨runG N V [] s, hO, hind.2.1, ?_, ?_, ?_, ?_, ?_, ?_, ?_⟩
  · intro x hx pl what
    rw [hR, did_app, did_none (hlate x hx)]
    have := did_le (runG N V [] s) pl what x false
    omega
  · intro x hx l
    rw [hR, takenF_app, taken_none l (hlate x hx)]
    have := taken_le x l false (runG N V [] s)
    omega
  · intro x hx pl what
    rw [hR, did_app, did_none (hlate x hx)]; rfl
  · intro x hx l
    rw [hR, takenF_app, taken_none l (hlate x hx)]; rfl
  · intro pl what
    rw [hR, ← List.append_assoc, did_app]
    have h1 : didF (runG N V [] s ++ [(a, wakeF N V (runG N V [] s) a)]) pl what a.a false = cntF (runG N V [] s ++ [(a, wakeF N V (runG N V [] s) a)]) pl what :=
      did_all (past_next hO (fun x hx => hg.2.2 x.1 (hPm x hx) a (by simp))) pl what
    omega
  · intro l hl
    rw [hR, ← List.append_assoc, takenF_app, ← tk_next N V _ a hl]
    have h1 : takenF a.a l false (runG N V [] s ++ [(a, wakeF N V (runG N V [] s) a)]) = tkF l (runG N V [] s ++ [(a, wakeF N V (runG N V [] s) a)]) :=
      taken_all l (past_next hO (fun x hx => hg.2.2 x.1 (hPm x hx) a (by simp)))
    omega
  · intro x hx
    exact List.mem_append_left _ (hPm x hx)

end Go.Proofs.Ytmndgoapkmhglab

/- Plain mathematics: each place makes its step k no later than is told. -/
namespace Go.Proofs.Ytmndgoapkmhglab

/-- at every time: a step has used one value of each link. -/
theorem slot_at {N : List LnF} (hA : Apart N) (V : Int → Nat → List Int) {sc : List OpF} (hS : ActsOk sc) : ∀ (x : Int) (l : Nat), l < N.length → didF (runG N V [] sc) (lnAt N l).dst 1 x false ≤ takenF x l false (runG N V [] sc) + lateN N l := by
  refine (run_ind hA V (p := fun P => ∀ (x : Int) (l : Nat), l < N.length → didF P (lnAt N l).dst 1 x false ≤ takenF x l false P + lateN N l) (fun P a hO hI _ ih x l hl => ?_) sc [] hS.nn (by simpa using hS.gap) (fun t _ => past_start N t) (inv_start N) (fun x l _ => by simp [didF])).1
  rw [did_app, takenF_app]
  by_cases hx : x < a.a
  · have h1 : ∀ y ∈ [(a, wakeF N V P a)], x < y.2.a := fun y hy => by rw [List.mem_singleton] at hy; subst hy; exact hx
    rw [did_none h1, taken_none l h1]
    have := ih x l hl
    omega
  · have hOx := hO.mono (Int.not_lt.1 hx)
    have hn := (inv_next (V := V) hA hO hI).slot l hl
    have h1 : didF [(a, wakeF N V P a)] (lnAt N l).dst 1 x false = cntF [(a, wakeF N V P a)] (lnAt N l).dst 1 := by
      unfold didF cntF
      congr 1
      apply List.filter_congr
      intro y hy
      rw [List.mem_singleton] at hy
      subst hy
      have : decide ((wakeF N V P a).a + (if false = true then a.c else 0) ≤ x) = true := by
        simp only [Bool.false_eq_true, if_false, decide_eq_true_eq]
        show a.a + 0 ≤ x
        omega
      rw [this, Bool.and_true]
    have h2 : takenF x l false [(a, wakeF N V P a)] = tkF l [(a, wakeF N V P a)] := by
      simp only [takenF, tkF]
      rw [if_pos (by simp only [Bool.false_eq_true, if_false]; show a.a + 0 ≤ x; omega)]
    rw [did_all hOx, taken_all l hOx, h1, h2, ← cnt_app, ← tkF_app]
    exact hn.1

/-- a script within bounds, up to a time. -/
structure Bound (N : List LnF) (sc : List OpF) (Q : Int → Prop) (dep : Int → Nat) (Tm Dm h : Int) : Prop where
  ok : ActsOk sc
  dly : ∀ a ∈ sc, a.b ≤ Dm ∧ a.c ≤ Dm
  d0 : 0 ≤ Dm
  t1 : 1 ≤ Tm
  ends : ∀ l, l < N.length → Q (lnAt N l).src ∧ Q (lnAt N l).dst
  first : ∀ q, Q q → Tm ≤ h → ∃ a ∈ sc, a.k = q ∧ a.a ≤ Tm
  act : ∀ q, Q q → ∀ x, 0 ≤ x → x + Tm ≤ h → ∃ a ∈ sc, a.k = q ∧ x < a.a ∧ a.a ≤ x + Tm
  dep : ∀ l, l < N.length → lateN N l = 0 → dep (lnAt N l).src < dep (lnAt N l).dst

/-- what is done by a time, ahead of the steps k. -/
structure Reach (N : List LnF) (R : PastF) (Q : Int → Prop) (dep : Int → Nat) (k : Nat) (u : Int) : Prop where
  pub : ∀ q, Q q → k ≤ didF R q 2 u false
  tak : ∀ l, l < N.length → k ≤ takenF u l false R
  stp : ∀ q, Q q → k ≤ didF R q 1 u false
  low : ∀ q, Q q → dep q = 0 → k + 1 ≤ didF R q 1 u false

section
variable {N : List LnF} (hA : Apart N) (V : Int → Nat → List Int) {sc : List OpF} {Q : Int → Prop} {dep : Int → Nat} {Tm Dm h : Int} (hB : Bound N sc Q dep Tm Dm h)
include hA hB

/-- a place that holds values publishes them, when those ahead are taken. -/
theorem publish_by {k : Nat} {u y : Int} (hu : 0 ≤ u) (huy : u ≤ y) (htk : ∀ l, l < N.length → k ≤ takenF u l false (runG N V [] sc)) {q : Int} (hq : Q q) (hst : k + 1 ≤ didF (runG N V [] sc) q 1 y false) (hh : y + Dm + Tm ≤ h) : k + 1 ≤ didF (runG N V [] sc) q 2 (y + Dm + Tm) false := by
  have hd := hB.d0
  obtain ⟨a, ha, rfl, h1, h2⟩ := hB.act q hq (y + Dm) (by omega) hh
  obtain ⟨P, hP⟩ := at_act hA V hB.ok ha
  have h3 := go_publish (V := V) hP.ok hP.inv (k := k) (Nat.le_trans hst (hP.did0 y (by omega) _ _)) (fun l hl _ => by
    have g1 := htk l hl
    have g2 := hP.tk0 u (by omega) l
    refine ⟨by omega, fun g3 => ?_⟩
    have := known_le (Dm := Dm) (y := u) (by omega) l P (fun x hx => (hB.dly x.1 (hP.mem x hx)).1) (by rw [hP.tkP u (by omega) l]; omega)
    omega)
  exact Nat.le_trans h3 (Nat.le_trans (hP.did1 _ _) (did_mono h2 _ _))

theorem depth_by {k : Nat} {u : Int} (hu : 0 ≤ u) (hR : Reach N (runG N V [] sc) Q dep k u) : ∀ (d : Nat) (q : Int), Q q → dep q ≤ d → u + (d : Int) * (2 * (Tm + Dm)) ≤ h → k + 1 ≤ didF (runG N V [] sc) q 1 (u + (d : Int) * (2 * (Tm + Dm))) false := by
  have hd := hB.d0
  have ht := hB.t1
  intro d
  induction d with
  | zero =>
    intro q hq hdq hh
    have := hR.low q hq (by omega)
    simpa using this
  | succ d ih =>
    intro q hq hdq hh
    have e : ((d + 1 : Nat) : Int) * (2 * (Tm + Dm)) = (d : Int) * (2 * (Tm + Dm)) + 2 * (Tm + Dm) := by
      rw [Int.natCast_add, Int.add_mul]; simp
    rw [e] at hh ⊢
    have hp : 0 ≤ (d : Int) * (2 * (Tm + Dm)) := Int.mul_nonneg (by omega) (by omega)
    generalize (d : Int) * (2 * (Tm + Dm)) = z at *
    obtain ⟨a, ha, rfl, h1, h2⟩ := hB.act q hq (u + z + (Dm + Tm) + Dm) (by omega) (by omega)
    obtain ⟨P, hP⟩ := at_act hA V hB.ok ha
    have key := go_step (V := V) hP.ok hP.inv (k := k) (Nat.le_trans (hR.pub _ hq) (hP.did0 u (by omega) _ _)) (fun l hl hdst => by
      have g1 := hR.tak l hl
      have g2 := hP.tk0 u (by omega) l
      by_cases hlt : lateN N l = 0
      · have hdp := hB.dep l hl hlt
        rw [hdst] at hdp
        have hqs := (hB.ends l hl).1
        have s1 := ih _ hqs (by omega) (by omega)
        have s2 := publish_by hA V hB hu (show u ≤ u + z by omega) hR.tak hqs s1 (by omega)
        rw [show u + z + Dm + Tm = u + z + (Dm + Tm) by omega] at s2
        have s3 := go_take hP.ok hP.inv (m := k + 1) hl hdst (Nat.le_trans s2 (hP.did0 _ (by omega) _ _)) (fun g3 => by
          have := comes_le (Dm := Dm) (y := u + z + (Dm + Tm)) (by omega) (lnAt N l).src P (fun x hx => (hB.dly x.1 (hP.mem x hx)).2) (by rw [hP.didP _ (by omega)]; omega)
          omega) (by have := Nat.le_trans (hR.stp _ hq) (hP.did0 u (by omega) _ 1); omega)
        omega
      · have := lateN_le N l
        omega)
    exact Nat.le_trans key (Nat.le_trans (hP.did1 _ _) (did_mono (by omega) _ _))

/-- from the steps k to what is done ahead of the steps k + 1. -/
theorem reach_next {k : Nat} {t : Int} (ht0 : 0 ≤ t) (hst : ∀ q, Q q → k + 1 ≤ didF (runG N V [] sc) q 1 t false) (hh : t + 2 * (Tm + Dm) ≤ h) : Reach N (runG N V [] sc) Q dep (k + 1) (t + 2 * (Tm + Dm)) := by
  have hd := hB.d0
  have ht := hB.t1
  have hslot := slot_at hA V hB.ok
  have tk0 : ∀ l, l < N.length → k ≤ takenF t l false (runG N V [] sc) := fun l hl => by
    have h1 := hslot t l hl
    have h2 := hst _ (hB.ends l hl).2
    have := lateN_le N l
    omega
  have pub : ∀ q, Q q → k + 1 ≤ didF (runG N V [] sc) q 2 (t + Dm + Tm) false := fun q hq => publish_by hA V hB ht0 (Int.le_refl _) tk0 hq (hst q hq) (by omega)
  -- an act at which what was published is there
  have take : ∀ q, Q q → ∃ (a : OpF) (P : PastF), a.k = q ∧ a.a ≤ t + 2 * (Tm + Dm) ∧ AtAct N V sc (runG N V [] sc) a P ∧ k + 1 ≤ cntF P a.k 2 ∧ ∀ l, l < N.length → (lnAt N l).dst = a.k → k + 1 ≤ tkF l P + (if canF N P a l = true then 1 else 0) := fun q hq => by
    obtain ⟨a, ha, rfl, h1, h2⟩ := hB.act q hq (t + Dm + Tm + Dm) (by omega) (by omega)
    obtain ⟨P, hP⟩ := at_act hA V hB.ok ha
    refine ⟨a, P, rfl, by omega, hP, Nat.le_trans (pub _ hq) (hP.did0 _ (by omega) _ _), fun l hl hdst => ?_⟩
    by_cases hlt : lateN N l = 0
    · have g1 := hslot t l hl
      have g2 := hst _ (hB.ends l hl).2
      have g3 := hP.tk0 t (by omega) l
      omega
    · have hl1 : lateN N l = 1 := by have := lateN_le N l; omega
      have hqs := (hB.ends l hl).1
      exact go_take hP.ok hP.inv (m := k + 1) hl hdst (Nat.le_trans (pub _ hqs) (hP.did0 _ (by omega) _ _)) (fun g3 => by
        have g4 := pub _ hqs
        have := comes_le (Dm := Dm) (y := t + Dm + Tm) (by omega) (lnAt N l).src P (fun x hx => (hB.dly x.1 (hP.mem x hx)).2) (by rw [hP.didP _ (by omega)]; omega)
        omega) (by have := Nat.le_trans (hst _ hq) (hP.did0 t (by omega) _ 1); omega)
  refine ⟨fun q hq => Nat.le_trans (pub q hq) (did_mono (by omega) _ _), fun l hl => ?_, fun q hq => Nat.le_trans (hst q hq) (did_mono (by omega) _ _), fun q hq h0 => ?_⟩
  · obtain ⟨a, P, e, h2, hP, _, h4⟩ := take _ (hB.ends l hl).2
    exact Nat.le_trans (h4 l hl e.symm) (Nat.le_trans (hP.tk1 l hl) (taken_mono h2 l _))
  · obtain ⟨a, P, rfl, h2, hP, h3, h4⟩ := take q hq
    have key := go_step (V := V) hP.ok hP.inv (k := k + 1) h3 (fun l hl hdst => by
      have g1 := h4 l hl hdst
      by_cases hlt : lateN N l = 0
      · have := hB.dep l hl hlt
        rw [hdst] at this
        omega
      · have := lateN_le N l
        omega)
    exact Nat.le_trans key (Nat.le_trans (hP.did1 _ _) (did_mono h2 _ _))

theorem reach_zero (hh : Tm ≤ h) : Reach N (runG N V [] sc) Q dep 0 Tm := by
  refine ⟨fun _ _ => Nat.zero_le _, fun _ _ => Nat.zero_le _, fun _ _ => Nat.zero_le _, fun q hq h0 => ?_⟩
  obtain ⟨a, ha, rfl, h1⟩ := hB.first q hq hh
  obtain ⟨P, hP⟩ := at_act hA V hB.ok ha
  have key := go_step (V := V) hP.ok hP.inv (k := 0) (Nat.zero_le _) (fun l hl hdst => by
    by_cases hlt : lateN N l = 0
    · have := hB.dep l hl hlt
      rw [hdst] at this
      omega
    · omega)
  exact Nat.le_trans key (Nat.le_trans (hP.did1 _ _) (did_mono h1 _ _))

/-- the time by which all is done ahead of the steps k. -/
def reachT (Tm Dm : Int) (D : Nat) : Nat → Int
  | 0 => Tm
  | k + 1 => reachT Tm Dm D k + (D : Int) * (2 * (Tm + Dm)) + 2 * (Tm + Dm)

omit hA hB in
theorem reachT_nn {Tm Dm : Int} (ht : 1 ≤ Tm) (hd : 0 ≤ Dm) (D : Nat) : ∀ k, 0 ≤ reachT Tm Dm D k := by
  intro k
  induction k with
  | zero => show 0 ≤ Tm; omega
  | succ k ih =>
    show 0 ≤ reachT Tm Dm D k + (D : Int) * (2 * (Tm + Dm)) + 2 * (Tm + Dm)
    have : 0 ≤ (D : Int) * (2 * (Tm + Dm)) := Int.mul_nonneg (by omega) (by omega)
    omega

/-- NOTHING IS EVER STUCK: each place makes its step k by then. -/
theorem steps_by {D : Nat} (hD : ∀ q, Q q → dep q ≤ D) : ∀ k, (reachT Tm Dm D k ≤ h → Reach N (runG N V [] sc) Q dep k (reachT Tm Dm D k)) ∧ (reachT Tm Dm D k + (D : Int) * (2 * (Tm + Dm)) ≤ h → ∀ q, Q q → k + 1 ≤ didF (runG N V [] sc) q 1 (reachT Tm Dm D k + (D : Int) * (2 * (Tm + Dm))) false) := by
  have hd := hB.d0
  have ht := hB.t1
  have hz : 0 ≤ (D : Int) * (2 * (Tm + Dm)) := Int.mul_nonneg (by omega) (by omega)
  intro k
  induction k with
  | zero =>
    have h0 := reach_zero hA V hB
    refine ⟨h0, fun hh q hq => ?_⟩
    exact depth_by hA V hB (by show 0 ≤ Tm; omega) (h0 (by show Tm ≤ h; have : reachT Tm Dm D 0 = Tm := rfl; omega)) D q hq (hD q hq) hh
  | succ k ih =>
    have hn := reachT_nn ht hd D k
    have hr : reachT Tm Dm D (k + 1) ≤ h → Reach N (runG N V [] sc) Q dep (k + 1) (reachT Tm Dm D (k + 1)) := fun hh => by
      have e : reachT Tm Dm D (k + 1) = reachT Tm Dm D k + (D : Int) * (2 * (Tm + Dm)) + 2 * (Tm + Dm) := rfl
      rw [e] at hh ⊢
      exact reach_next hA V hB (by omega) (ih.2 (by omega)) hh
    refine ⟨hr, fun hh q hq => ?_⟩
    exact depth_by hA V hB (reachT_nn ht hd D (k + 1)) (hr (by omega)) D q hq (hD q hq) hh

omit hA hB in
theorem reachT_eq (Tm Dm : Int) (D k : Nat) : reachT Tm Dm D k = Tm + (k : Int) * (((D : Int) + 1) * (2 * (Tm + Dm))) := by
  induction k with
  | zero => show Tm = _; simp
  | succ k ih =>
    show reachT Tm Dm D k + (D : Int) * (2 * (Tm + Dm)) + 2 * (Tm + Dm) = _
    have e : ((D : Int) + 1) * (2 * (Tm + Dm)) = (D : Int) * (2 * (Tm + Dm)) + 2 * (Tm + Dm) := by rw [Int.add_mul, Int.one_mul]
    rw [ih, e]
    generalize (D : Int) * (2 * (Tm + Dm)) = A
    generalize 2 * (Tm + Dm) = B
    have e2 : ((k + 1 : Nat) : Int) * (A + B) = (k : Int) * (A + B) + (A + B) := by rw [Int.natCast_add, Int.add_mul]; simp
    rw [e2]
    omega

end

end Go.Proofs.Ytmndgoapkmhglab

/- Plain mathematics: where the places of a text stand. -/
namespace Go.Proofs.Ytmndgoapkmhglab

/-- where the last digit of the first number stands in bytes from place k on. -/
def numL (k : Nat) : List UInt8 → Option Nat
  | [] => none
  | c :: r => if W 2 c then some (k + (r.takeWhile (W 2)).length) else numL (k + 1) r
def mkL : Nat → Nat → List UInt8 → List Nat
  | 0, _, _ => []
  | _ + 1, _, [] => []
  | f + 1, k, c :: r =>
    if W 1 c then (if c :: r.takeWhile (W 1) = kAt then (numL (k + 1 + (r.takeWhile (W 1)).length) (r.dropWhile (W 1))).toList else []) ++ mkL f (k + 1 + (r.takeWhile (W 1)).length) (r.dropWhile (W 1))
    else mkL f (k + 1) r
/-- the same of tokens. -/
def isDig (t : Tk) : Bool := (t.l.head?).any (W 2)
def lastD (t : Tk) : Nat := t.pos + t.l.length - 1
def numT (r : List Tk) : Option Nat := (r.find? isDig).map lastD
def marksT : List Tk → List Nat
  | [] => []
  | t :: r => (if t.l = kAt then (numT r).toList else []) ++ marksT r

theorem numL_over {cl : Nat} (hcl : cl ≠ 2) : ∀ (r : List UInt8) (k : Nat), numL (k + (r.takeWhile (W cl)).length) (r.dropWhile (W cl)) = numL k r := by
  intro r
  induction r with
  | nil => intro k; rfl
  | cons c r ih =>
    intro k
    rw [List.takeWhile_cons, List.dropWhile_cons]
    cases h : W cl c with
    | false => simp
    | true =>
      have h2 : W 2 c = false := by
        have := W_cls h
        cases h' : W 2 c with
        | false => rfl
        | true => exact absurd ((W_cls h').symm.trans this).symm hcl
      simp only [if_true, List.length_cons]
      rw [show k + ((r.takeWhile (W cl)).length + 1) = (k + 1) + (r.takeWhile (W cl)).length by omega, ih (k + 1)]
      show numL (k + 1) r = if W 2 c then _ else numL (k + 1) r
      rw [h2]; rfl

theorem mkL_fuel : ∀ f g k (l : List UInt8), l.length ≤ f → l.length ≤ g → mkL f k l = mkL g k l := by
  intro f
  induction f with
  | zero =>
    intro g k l h1 h2
    cases l with
    | nil => cases g <;> rfl
    | cons c r => simp at h1
  | succ f ih =>
    intro g k l h1 h2
    cases l with
    | nil => cases g <;> rfl
    | cons c r =>
      cases g with
      | zero => simp at h2
      | succ g =>
        simp at h1 h2
        have := drop_le (W 1) r
        simp only [mkL]
        rw [ih g (k + 1) r h1 h2, ih g _ (r.dropWhile (W 1)) (by omega) (by omega)]

theorem mkL_over {cl : Nat} (hcl : cl ≠ 1) : ∀ (r : List UInt8) (f k : Nat), r.length ≤ f → mkL f (k + (r.takeWhile (W cl)).length) (r.dropWhile (W cl)) = mkL f k r := by
  intro r
  induction r with
  | nil => intro f k _; rfl
  | cons c r ih =>
    intro f k hf
    rw [List.takeWhile_cons, List.dropWhile_cons]
    cases h : W cl c with
    | false => simp
    | true =>
      have h2 : W 1 c = false := by
        have := W_cls h
        cases h' : W 1 c with
        | false => rfl
        | true => exact absurd ((W_cls h').symm.trans this).symm hcl
      obtain ⟨f, rfl⟩ : ∃ g, f = g + 1 := ⟨f - 1, by simp at hf; omega⟩
      simp at hf
      have hd := drop_le (W cl) r
      simp only [if_true, List.length_cons]
      rw [show k + ((r.takeWhile (W cl)).length + 1) = (k + 1) + (r.takeWhile (W cl)).length by omega, mkL_fuel (f + 1) f _ _ (by omega) (by omega), ih f (k + 1) hf]
      show mkL f (k + 1) r = if W 1 c then _ else mkL f (k + 1) r
      rw [h2]; rfl

theorem tokW_l (k : Nat) (w : List UInt8) (cl : Nat) : (tokW k w cl).l = w := by simp [tokW, Tk.l]

theorem num_tk : ∀ n k (l : List UInt8), l.length = n → numL k l = numT (tk k l) := by
  intro n
  induction n using Nat.strongRecOn with
  | _ n ih =>
    intro k l hn
    cases l with
    | nil => rfl
    | cons c r =>
      simp only [List.length_cons] at hn
      by_cases h0 : cls c.toNat = 0
      · rw [tk_blank h0, ← ih r.length (by omega) (k + 1) r rfl]
        show (if W 2 c then _ else _) = _
        rw [if_neg (by unfold W; rw [h0]; decide)]
      · by_cases h2 : cls c.toNat = 2
        · rw [tk_word (.inr h2)]
          show (if W 2 c then _ else _) = _
          rw [if_pos (by unfold W; rw [h2]; rfl)]
          unfold numT
          rw [List.find?_cons_of_pos (by unfold isDig; rw [tokW_l]; unfold W; simp [h2])]
          simp only [Option.map_some, lastD, tokW_l, List.length_cons, h2]
          show _ = some (k + _ - 1)
          congr 1
        · have hne : W 2 c = false := by unfold W; simpa using h2
          have hno : ∀ (w : List UInt8) cl, isDig (tokW k (c :: w) cl) = false := fun w cl => by unfold isDig; rw [tokW_l]; simpa using hne
          by_cases h1 : cls c.toNat = 1
          · rw [tk_word (.inl h1)]
            have hl := take_drop_len (W (cls c.toNat)) r
            unfold numT
            rw [List.find?_cons_of_neg (by rw [hno]; decide)]
            rw [← numT, ← ih _ (by omega) _ _ rfl, numL_over (by omega)]
            show (if W 2 c then _ else _) = _
            rw [hne]; rfl
          · have := cls_le c.toNat
            rw [tk_one (by omega)]
            unfold numT
            rw [List.find?_cons_of_neg (by rw [hno]; decide)]
            rw [← numT, ← ih _ (by omega) _ _ rfl]
            show (if W 2 c then _ else _) = _
            rw [hne]; rfl

theorem marks_tk : ∀ n f k (l : List UInt8), l.length = n → n ≤ f → mkL f k l = marksT (tk k l) := by
  intro n
  induction n using Nat.strongRecOn with
  | _ n ih =>
    intro f k l hn hf
    cases l with
    | nil => cases f <;> rfl
    | cons c r =>
      simp only [List.length_cons] at hn
      obtain ⟨f, rfl⟩ : ∃ g, f = g + 1 := ⟨f - 1, by omega⟩
      by_cases h0 : cls c.toNat = 0
      · rw [tk_blank h0, ← ih r.length (by omega) f (k + 1) r rfl (by omega)]
        show (if W 1 c then _ else _) = _
        rw [if_neg (by unfold W; rw [h0]; decide)]
      · have hl := take_drop_len (W (cls c.toNat)) r
        by_cases h1 : cls c.toNat = 1
        · rw [tk_word (.inl h1)]
          rw [h1] at hl
          show (if W 1 c then _ else _) = _
          rw [if_pos (by unfold W; rw [h1]; rfl), h1]
          unfold marksT
          rw [tokW_l, num_tk _ _ _ rfl, ih _ (by omega) f _ _ rfl (by omega)]
        · have hne : W 1 c = false := by unfold W; simpa using h1
          have hat : ∀ w : List UInt8, c :: w ≠ kAt := fun w e => by
            have hc : c = 97 := by unfold kAt at e; simp at e; exact e.1
            rw [hc] at h1; exact h1 (by decide)
          by_cases h2 : cls c.toNat = 2
          · rw [tk_word (.inr h2)]
            unfold marksT
            rw [tokW_l, if_neg (hat _), List.nil_append, ← ih _ (by omega) f _ _ rfl (by omega), mkL_over (by omega) r f (k + 1) (by omega)]
            show (if W 1 c then _ else _) = _
            rw [hne]; rfl
          · have := cls_le c.toNat
            rw [tk_one (by omega)]
            unfold marksT
            rw [tokW_l, if_neg (hat _), List.nil_append, ← ih _ (by omega) f _ _ rfl (by omega)]
            show (if W 1 c then _ else _) = _
            rw [hne]; rfl

theorem marksT_end (e : Tk) (he : e.l = []) : ∀ r : List Tk, marksT (r ++ [e]) = marksT r := by
  have hnum : ∀ r : List Tk, numT (r ++ [e]) = numT r := by
    intro r
    unfold numT
    have hd : isDig e = false := by unfold isDig; rw [he]; rfl
    rw [List.find?_append]
    simp [hd]
  intro r
  induction r with
  | nil => show (if e.l = kAt then _ else _) ++ [] = []; rw [he]; rfl
  | cons t r ih =>
    show (if t.l = kAt then (numT (r ++ [e])).toList else []) ++ marksT (r ++ [e]) = _
    rw [hnum, ih]; rfl

theorem drop_tk {ts : List Tk} {i : Nat} (h : i < ts.length) : ts.drop i = tkAt ts i :: ts.drop (i + 1) := by
  rw [List.drop_eq_getElem_cons h]
  congr 1
  unfold tkAt
  simp [List.getD_eq_getElem?_getD, List.getElem?_eq_getElem h]

theorem marks_step {ts : List Tk} {i : Nat} (h : i < ts.length) (hn : lAt ts i ≠ kAt) : marksT (ts.drop i) = marksT (ts.drop (i + 1)) := by
  rw [drop_tk h]
  show (if (tkAt ts i).l = kAt then _ else _) ++ _ = _
  rw [if_neg hn]; rfl

section
variable {ts : List Tk} (hF : ∀ i, TkF (tkAt ts i))
include hF

theorem leaf_at {i : Nat} (h : leafT (tkAt ts i) = true) : lAt ts i ≠ kAt := leaf_ne hF h (by decide) (by decide) (by decide)

omit hF in
theorem lit_leaf {i : Nat} (h : litT (tkAt ts i) = true) : leafT (tkAt ts i) = true := by unfold leafT; rw [h]; rfl

theorem marks_sp : ∀ (t : Ast) (i : Nat), Sp ts t i → i + t.len ≤ ts.length → marksT (ts.drop i) = marksT (ts.drop (i + t.len)) := by
  have kw : ∀ {i : Nat} {l : List UInt8}, lAt ts i = l → l ≠ kAt → lAt ts i ≠ kAt := fun h hn e => hn (h.symm.trans e)
  intro t
  induction t with
  | leaf => intro i hs hl; exact marks_step (by simp [Ast.len] at hl; omega) (leaf_at hF hs.1)
  | neg a iha =>
    intro i hs hl
    obtain ⟨h1, h2, h3, h4⟩ := hs
    simp only [Ast.len] at hl ⊢
    rw [marks_step (by omega) (kw h1 (by decide)), marks_step (by omega) (kw h2 (by decide)), iha (i + 2) h3 (by omega), marks_step (by omega) (kw h4 (by decide))]
    congr 2; omega
  | ite a b c iha ihb ihc =>
    intro i hs hl
    obtain ⟨h1, h2, h3, h4, h5, h6⟩ := hs
    simp only [Ast.len] at hl ⊢
    rw [marks_step (by omega) (kw h1 (by decide)), marks_step (by omega) (kw h2 (by decide)), iha (i + 2) h3 (by omega), ihb _ h4 (by omega), ihc _ h5 (by omega), marks_step (by omega) (kw h6 (by decide))]
    congr 2; omega
  | dly b ihb =>
    intro i hs hl
    obtain ⟨h1, h2, h3, h4, h5⟩ := hs
    simp only [Ast.len] at hl ⊢
    rw [marks_step (by omega) (kw h1 (by decide)), marks_step (by omega) (leaf_at hF (lit_leaf h2)), marks_step (by omega) (kw h3 (by decide)), ihb (i + 3) h4 (by omega), marks_step (by omega) (kw h5 (by decide))]
    congr 2; omega
  | bin a b iha ihb =>
    intro i hs hl
    obtain ⟨h1, h2, h3, h4, h5⟩ := hs
    simp only [Ast.len] at hl ⊢
    have hop : lAt ts (i + 1 + a.len) ≠ kAt := fun e => by rw [e] at h3; revert h3; decide
    rw [marks_step (by omega) (kw h1 (by decide)), iha (i + 1) h2 (by omega), marks_step (by omega) hop, show i + 1 + a.len + 1 = i + 2 + a.len by omega, ihb _ h4 (by omega), marks_step (by omega) (kw h5 (by decide))]
    congr 2; omega

theorem name_at {i : Nat} (h : (tkAt ts i).kind = 1) : lAt ts i ≠ kAt := fun e => by
  have := (hF i).k1 h
  rw [show (tkAt ts i).l = kAt from e] at this
  revert this; decide

/-- the marks of a text whose tokens can all stand. -/
theorem marks_spell (hE : ∀ i, (tkAt ts i).kind = 0 → ts.length ≤ i + 1) (hD : ∀ i, (tkAt ts i).kind = 3 → isDig (tkAt ts i) = true) : ∀ (L : List Dl) (i : Nat), Spell ts L i → marksT (ts.drop i) = (eqL L).map fun x => lastD (tkAt ts (x.i + 3)) := by
  have kw : ∀ {i : Nat} {l : List UInt8}, lAt ts i = l → l ≠ kAt → lAt ts i ≠ kAt := fun h hn e => hn (h.symm.trans e)
  intro L
  induction L with
  | nil =>
    intro i h
    obtain ⟨h1, h2⟩ := h
    rw [marks_step h1 (fun e => by have := (hF i).k0 h2; rw [show (tkAt ts i).l = kAt from e] at this; revert this; decide)]
    rw [List.drop_eq_nil_of_le (hE i h2)]; rfl
  | cons x r ih =>
    intro i h
    obtain ⟨rfl, h1, h2, h3⟩ := h
    rcases h2 with ⟨hk, a1, a2, a3⟩ | ⟨hk, a2, a3, a4, a5, a6, a7⟩
    · have hl : x.len = 3 := by unfold Dl.len; rw [if_pos hk]
      rw [marks_step (by omega) (kw a1 (by decide)), marks_step (by omega) (name_at hF a2), marks_step (by omega) (kw a3 (by decide)), ← show x.i + x.len = x.i + 1 + 1 + 1 by omega, ih _ h3]
      simp [eqL, hk]
    · have hk0 : x.kind ≠ 0 := by omega
      have hl : x.len = x.t.len + 6 := by unfold Dl.len; rw [if_neg hk0]
      have h0 : lAt ts x.i ≠ kAt := by rcases hk with ⟨_, h⟩ | ⟨_, h⟩ <;> exact kw h (by decide)
      have h3k : lAt ts (x.i + 3) ≠ kAt := fun e => by
        have := (hF (x.i + 3)).k3 a4.1
        rw [show (tkAt ts (x.i + 3)).l = kAt from e] at this
        revert this; decide
      rw [marks_step (by omega) h0, marks_step (by omega) (name_at hF a2), drop_tk (by omega : x.i + 1 + 1 < ts.length)]
      show (if (tkAt ts (x.i + 2)).l = kAt then _ else _) ++ _ = _
      rw [if_pos a3, drop_tk (by omega : x.i + 1 + 1 + 1 < ts.length), numT, List.find?_cons_of_pos (hD (x.i + 3) a4.1)]
      rw [← drop_tk (by omega : x.i + 1 + 1 + 1 < ts.length), marks_step (by omega) h3k, marks_step (by omega) (kw a5 (by decide)), marks_sp hF x.t (x.i + 5) a6 (by omega), marks_step (by omega) (kw a7 (by decide)), ← show x.i + x.len = x.i + 5 + x.t.len + 1 by omega, ih _ h3]
      simp [eqL, hk0]

end
end Go.Proofs.Ytmndgoapkmhglab

/- the scene of a play, in memory. -/
namespace Go.Proofs.Ytmndgoapkmhglab
open Go.RowKit

/-- a wire. -/
structure WrF where
  src : Int
  dst : Int
  full : Bool
  unt : Bool
  comes : Int
  known : Int
def WrF.cell (x : WrF) : Nat → Value
  | 0 => .int .i64 x.src
  | 1 => .int .i64 x.dst
  | 2 => .bool x.full
  | 3 => .bool x.unt
  | 4 => .int .i64 x.comes
  | _ => .int .i64 x.known

/-- wires in a block. -/
def Wires (w : World) (g n : Nat) (F : Nat → WrF) : Prop := ∃ m f, w.rowIs g 141 m f ∧ ∀ l, l < n → ∀ j, j < 6 → l * 6 + j < m ∧ f (l * 6 + j) = (F l).cell j
theorem Wires.lt {w : World} {g n : Nat} {F : Nat → WrF} (h : Wires w g n F) : g < w.heap.size := by obtain ⟨m, f, h1, _⟩ := h; exact h1.lt
theorem Wires.froz {w : World} {g n : Nat} {F : Nat → WrF} (h : Wires w g n F) (i : Nat) : w.frozen? ⟨g, i, none⟩ = false := by obtain ⟨m, f, h1, _⟩ := h; exact h1.frozen i
theorem Wires.cell {w : World} {g n : Nat} {F : Nat → WrF} (h : Wires w g n F) {l : Nat} (hl : l < n) {j : Nat} (hj : j < 6) : w.cell? ⟨g, l * 6 + j, none⟩ = some ((F l).cell j) := by
  obtain ⟨m, f, h1, h2⟩ := h
  obtain ⟨h3, h4⟩ := h2 l hl j hj
  rw [h1.cell h3, h4]
theorem Wires.cells {w : World} {g n : Nat} {F : Nat → WrF} (h : Wires w g n F) {l : Nat} (hl : l < n) : w.cell? ⟨g, l * 6, none⟩ = some (.int .i64 (F l).src) ∧ w.cell? ⟨g, l * 6 + 1, none⟩ = some (.int .i64 (F l).dst) ∧ w.cell? ⟨g, l * 6 + 2, none⟩ = some (.bool (F l).full) ∧ w.cell? ⟨g, l * 6 + 3, none⟩ = some (.bool (F l).unt) ∧ w.cell? ⟨g, l * 6 + 4, none⟩ = some (.int .i64 (F l).comes) ∧ w.cell? ⟨g, l * 6 + 5, none⟩ = some (.int .i64 (F l).known) :=
  ⟨h.cell hl (j := 0) (by omega), h.cell hl (j := 1) (by omega), h.cell hl (j := 2) (by omega), h.cell hl (j := 3) (by omega), h.cell hl (j := 4) (by omega), h.cell hl (j := 5) (by omega)⟩
theorem Wires.of_block {w w' : World} {g n : Nat} {F : Nat → WrF} (h : Wires w g n F) (e : w'.heap[g]? = w.heap[g]?) : Wires w' g n F := by
  obtain ⟨m, f, h1, h2⟩ := h
  exact ⟨m, f, h1.of_block e, h2⟩
theorem Wires.set {w : World} {g n : Nat} {F F' : Nat → WrF} (h : Wires w g n F) {l j : Nat} (hj : j < 6) (v : Value) (hF : ∀ l', l' < n → ∀ j', j' < 6 → (F' l').cell j' = if l' = l ∧ j' = j then v else (F l').cell j') : Wires (w.setCell ⟨g, l * 6 + j, none⟩ v) g n F' := by
  obtain ⟨m, f, h1, h2⟩ := h
  refine ⟨m, _, h1.set (l * 6 + j) v, fun l' hl' j' hj' => ⟨(h2 l' hl' j' hj').1, ?_⟩⟩
  rw [hF l' hl' j' hj']
  show (if l' * 6 + j' = l * 6 + j then v else f (l' * 6 + j')) = _
  by_cases e : l' = l ∧ j' = j
  · rw [if_pos e, if_pos (by obtain ⟨rfl, rfl⟩ := e; rfl)]
  · rw [if_neg e, if_neg (by omega), (h2 l' hl' j' hj').2]
theorem Wires.congr {w : World} {g n : Nat} {F F' : Nat → WrF} (h : Wires w g n F) (e : ∀ l, l < n → F l = F' l) : Wires w g n F' := by
  obtain ⟨m, f, h1, h2⟩ := h
  exact ⟨m, f, h1, fun l hl j hj => by rw [← e l hl]; exact h2 l hl j hj⟩

/-- the cells of the scene. -/
def scF (vE vV vW : Value) (nx : Nat → Nat) (hd : Nat → Bool) : Nat → Value
  | 0 => vE
  | 1 => vV
  | 2 => vW
  | i + 3 => if i % 2 = 0 then .int .i64 ((nx (i / 2) : Nat) : Int) else .bool (hd (i / 2))

/-- THE SCENE: in block b, its wires where they lie; none of X is its own. -/
structure Scn (w : World) (X : Nat → Prop) (b : Nat) (aW : Option Addr) (n cW : Nat) (vE vV : Value) (F : Nat → WrF) (nx : Nat → Nat) (hd : Nat → Bool) : Prop where
  row : w.rowIs b 139 11 (scF vE vV (.slice aW n cW) nx hd)
  wi : 0 < n → ∃ g, aW = some ⟨g, 0, none⟩ ∧ Wires w g n F ∧ b ≠ g
  xb : ¬ X b
  xg : ∀ g, aW = some ⟨g, 0, none⟩ → ¬ X g
  xl : ∀ k, X k → k < w.heap.size
  few : n ≤ 6100
  az : n = 0 → aW = none

/-- what the scene is made of. -/
def scX (X : Nat → Prop) (b : Nat) (aW : Option Addr) (k : Nat) : Prop := X k ∨ k = b ∨ aW = some ⟨k, 0, none⟩

section
variable {w w' : World} {X : Nat → Prop} {b : Nat} {aW : Option Addr} {n cW : Nat} {vE vV : Value} {F : Nat → WrF} {nx : Nat → Nat} {hd : Nat → Bool}

theorem Scn.lt (h : Scn w X b aW n cW vE vV F nx hd) : b < w.heap.size := h.row.lt
theorem Scn.c0 (h : Scn w X b aW n cW vE vV F nx hd) : w.cell? ⟨b, 0, none⟩ = some vE := h.row.cell (i := 0) (by omega)
theorem Scn.c1 (h : Scn w X b aW n cW vE vV F nx hd) : w.cell? ⟨b, 1, none⟩ = some vV := h.row.cell (i := 1) (by omega)
theorem Scn.c2 (h : Scn w X b aW n cW vE vV F nx hd) : w.cell? ⟨b, 2, none⟩ = some (.slice aW n cW) := h.row.cell (i := 2) (by omega)
theorem Scn.cn (h : Scn w X b aW n cW vE vV F nx hd) {p : Nat} (hp : p < 4) : w.cell? ⟨b, 3 + p * 2, none⟩ = some (.int .i64 ((nx p : Nat) : Int)) := by
  rw [h.row.cell (i := 3 + p * 2) (by omega), Nat.add_comm]
  show some (if p * 2 % 2 = 0 then _ else _) = _
  rw [if_pos (by omega), Nat.mul_div_cancel _ (by omega)]
theorem Scn.ch (h : Scn w X b aW n cW vE vV F nx hd) {p : Nat} (hp : p < 4) : w.cell? ⟨b, 3 + p * 2 + 1, none⟩ = some (.bool (hd p)) := by
  rw [h.row.cell (i := 3 + p * 2 + 1) (by omega), show 3 + p * 2 + 1 = (p * 2 + 1) + 3 by omega]
  show some (if (p * 2 + 1) % 2 = 0 then _ else _) = _
  rw [if_neg (by omega), show (p * 2 + 1) / 2 = p by omega]
theorem Scn.froz (h : Scn w X b aW n cW vE vV F nx hd) (i : Nat) : w.frozen? ⟨b, i, none⟩ = false := h.row.frozen i

theorem Scn.fr (h : Scn w X b aW n cW vE vV F nx hd) (hf : Fr (scX X b aW) w w') : Scn w' X b aW n cW vE vV F nx hd :=
  ⟨h.row.of_block (hf.block b (.inr (.inl rfl))), fun hp => by
    obtain ⟨g, e, h1, h2⟩ := h.wi hp
    exact ⟨g, e, h1.of_block (hf.block g (.inr (.inr e))), h2⟩, h.xb, h.xg, fun k hk => Nat.lt_of_lt_of_le (h.xl k hk) hf.size, h.few, h.az⟩
theorem Scn.sl (h : Scn w X b aW n cW vE vV F nx hd) : ∀ k, scX X b aW k → k < w.heap.size := by
  rintro k (hk | rfl | hk)
  · exact h.xl k hk
  · exact h.lt
  · rcases Nat.eq_zero_or_pos n with hn | hp
    rotate_left
    · obtain ⟨g, e, h1, _⟩ := h.wi hp
      rw [e] at hk
      cases hk
      exact h1.lt
    · rw [h.az hn] at hk; cases hk
theorem Scn.grown (h : Scn w X b aW n cW vE vV F nx hd) {ob : Option Nat} (hg : w.grownBy w' ob) (hk : ∀ k, ob = some k → ¬ scX X b aW k) : Scn w' X b aW n cW vE vV F nx hd ∧ Fr X w w' := by
  have hf : Fr (scX X b aW) w w' := ⟨hg.os, hg.tape, hg.output, hg.size, fun k hx => hg.block k (h.sl k hx) (fun e => hk k e.symm hx)⟩
  exact ⟨h.fr hf, hf.mono fun k hx => .inl hx⟩
theorem Scn.below (h : Scn w X b aW n cW vE vV F nx hd) (hb : Below w.heap.size w w') : Scn w' X b aW n cW vE vV F nx hd :=
  ⟨h.row.of_block (hb.block b h.lt), fun hp => by
    obtain ⟨g, e, h1, h2⟩ := h.wi hp
    exact ⟨g, e, h1.of_block (hb.block g h1.lt), h2⟩, h.xb, h.xg, fun k hk => Nat.lt_of_lt_of_le (h.xl k hk) hb.size, h.few, h.az⟩
theorem Scn.more (h : Scn w X b aW n cW vE vV F nx hd) {Y : Nat → Prop} (h1 : ¬ Y b) (h2 : ∀ g, aW = some ⟨g, 0, none⟩ → ¬ Y g) (h3 : ∀ k, Y k → k < w.heap.size) : Scn w Y b aW n cW vE vV F nx hd := ⟨h.row, h.wi, h1, h2, h3, h.few, h.az⟩
theorem Scn.congr (h : Scn w X b aW n cW vE vV F nx hd) {F' : Nat → WrF} {nx' : Nat → Nat} {hd' : Nat → Bool} (e : ∀ l, l < n → F l = F' l) (e1 : ∀ p, p < 4 → nx p = nx' p) (e2 : ∀ p, p < 4 → hd p = hd' p) : Scn w X b aW n cW vE vV F' nx' hd' := by
  refine ⟨h.row.congr fun i hi => ?_, fun hp => ?_, h.xb, h.xg, h.xl, h.few, h.az⟩
  · match i, hi with
    | 0, _ => rfl
    | 1, _ => rfl
    | 2, _ => rfl
    | i + 3, hi =>
      show (if i % 2 = 0 then _ else _) = (if i % 2 = 0 then _ else _)
      rw [e1 (i / 2) (by omega), e2 (i / 2) (by omega)]
  · obtain ⟨g, e3, h1, h2⟩ := h.wi hp
    exact ⟨g, e3, h1.congr e, h2⟩
/-- a wire's cell is written. -/
theorem Scn.setW (h : Scn w X b aW n cW vE vV F nx hd) {F' : Nat → WrF} {g l j : Nat} (hg : aW = some ⟨g, 0, none⟩) (hl : l < n) (hj : j < 6) (v : Value) (hF : ∀ l', l' < n → ∀ j', j' < 6 → (F' l').cell j' = if l' = l ∧ j' = j then v else (F l').cell j') :
    Scn (w.setCell ⟨g, l * 6 + j, none⟩ v) X b aW n cW vE vV F' nx hd := by
  obtain ⟨g', e, h1, h2⟩ := h.wi (by omega)
  have eg : g' = g := by rw [hg] at e; cases e; rfl
  subst eg
  exact ⟨h.row.setOther (a := ⟨g', l * 6 + j, none⟩) h2 v, fun _ => ⟨g', e, h1.set hj v hF, h2⟩, h.xb, h.xg, fun k hk => by simpa using h.xl k hk, h.few, h.az⟩
/-- a place's cells are written. -/
theorem Scn.setN (h : Scn w X b aW n cW vE vV F nx hd) {p : Nat} (hp : p < 4) (x : Nat) : Scn (w.setCell ⟨b, 3 + p * 2, none⟩ (.int .i64 (x : Int))) X b aW n cW vE vV F (fun q => if q = p then x else nx q) hd := by
  refine ⟨(h.row.set (3 + p * 2) _).congr fun i hi => ?_, fun hq => ?_, h.xb, h.xg, fun k hk => by simpa using h.xl k hk, h.few, h.az⟩
  · match i, hi with
    | 0, _ => rw [if_neg (by omega)]; rfl
    | 1, _ => rw [if_neg (by omega)]; rfl
    | 2, _ => rw [if_neg (by omega)]; rfl
    | i + 3, hi =>
      show _ = if i % 2 = 0 then Value.int .i64 (((if i / 2 = p then x else nx (i / 2)) : Nat) : Int) else _
      by_cases e : i + 3 = 3 + p * 2
      · rw [if_pos e, if_pos (by omega), if_pos (by omega)]
      · rw [if_neg e]
        show (if i % 2 = 0 then _ else _) = _
        by_cases e2 : i % 2 = 0
        · rw [if_pos e2, if_pos e2, if_neg (by omega)]
        · rw [if_neg e2, if_neg e2]
  · obtain ⟨g, e, h1, h2⟩ := h.wi hq
    exact ⟨g, e, h1.of_block (heap_setCell_other w ⟨b, _, none⟩ g _ (Ne.symm h2)), h2⟩
theorem Scn.setH (h : Scn w X b aW n cW vE vV F nx hd) {p : Nat} (hp : p < 4) (x : Bool) : Scn (w.setCell ⟨b, 3 + p * 2 + 1, none⟩ (.bool x)) X b aW n cW vE vV F nx (fun q => if q = p then x else hd q) := by
  refine ⟨(h.row.set (3 + p * 2 + 1) _).congr fun i hi => ?_, fun hq => ?_, h.xb, h.xg, fun k hk => by simpa using h.xl k hk, h.few, h.az⟩
  · match i, hi with
    | 0, _ => rw [if_neg (by omega)]; rfl
    | 1, _ => rw [if_neg (by omega)]; rfl
    | 2, _ => rw [if_neg (by omega)]; rfl
    | i + 3, hi =>
      show _ = if i % 2 = 0 then _ else Value.bool (if i / 2 = p then x else hd (i / 2))
      by_cases e : i + 3 = 3 + p * 2 + 1
      · rw [if_pos e, if_neg (by omega), if_pos (by omega)]
      · rw [if_neg e]
        show (if i % 2 = 0 then _ else _) = _
        by_cases e2 : i % 2 = 0
        · rw [if_pos e2, if_pos e2]
        · rw [if_neg e2, if_neg e2, if_neg (by omega)]
  · obtain ⟨g, e, h1, h2⟩ := h.wi hq
    exact ⟨g, e, h1.of_block (heap_setCell_other w ⟨b, _, none⟩ g _ (Ne.symm h2)), h2⟩
end

/-- an act in its box. -/
def ActAt (w : World) (A : Nat) (o : OpF) : Prop := w.rowIs A 43 4 (fun i => if i = 0 then .int .i64 o.k else if i = 1 then .int .i64 o.a else if i = 2 then .int .i64 o.b else .int .i64 o.c)
theorem ActAt.cells {w : World} {A : Nat} {o : OpF} (h : ActAt w A o) : w.cell? ⟨A, 0, none⟩ = some (.int .i64 o.k) ∧ w.cell? ⟨A, 1, none⟩ = some (.int .i64 o.a) ∧ w.cell? ⟨A, 2, none⟩ = some (.int .i64 o.b) ∧ w.cell? ⟨A, 3, none⟩ = some (.int .i64 o.c) :=
  ⟨h.cell (i := 0) (by omega), h.cell (i := 1) (by omega), h.cell (i := 2) (by omega), h.cell (i := 3) (by omega)⟩
theorem ActAt.boxed (w : World) (o : OpF) : ActAt (w.alloc (.cells #[.int .i64 o.k, .int .i64 o.a, .int .i64 o.b, .int .i64 o.c] 43)) w.heap.size o :=
  World.rowIs_alloc w #[.int .i64 o.k, .int .i64 o.a, .int .i64 o.b, .int .i64 o.c] _ _ (fun i hi => by
    have : i < 4 := hi
    have : i = 0 ∨ i = 1 ∨ i = 2 ∨ i = 3 := by omega
    rcases this with rfl | rfl | rfl | rfl <;> rfl)

end Go.Proofs.Ytmndgoapkmhglab

/- the scene: full, free. -/
namespace Go.Proofs.Ytmndgoapkmhglab
open Go.RowKit
attribute [local go_sem ↓] Go.wp_at_zero Go.wp_at_succ

set_option maxHeartbeats 2000000 in
set_option maxRecDepth 100000 in
theorem pfull_any {w : World} {X : Nat → Prop} {b : Nat} {aW : Option Addr} {n cW : Nat} {vE vV : Value} {F : Nat → WrF} {nx : Nat → Nat} {hd : Nat → Bool} (h : Scn w X b aW n cW vE vV F nx hd) (o : OpF) :
    Calls Try.prog 101 #[.pointer (some ⟨b, 0, none⟩), .agg #[.int .i64 o.k, .int .i64 o.a, .int .i64 o.b, .int .i64 o.c]] w fun e w' => e = .returned (.bool ((List.range n).all fun l => !decide ((F l).dst = o.k) || (F l).full)) ∧ Below w.heap.size w w' := by
  obtain ⟨w0, hw0⟩ : ∃ w0, w0 = w.alloc (.cells #[.int .i64 o.k, .int .i64 o.a, .int .i64 o.b, .int .i64 o.c] 43) := ⟨_, rfl⟩
  have hb0 : Below w.heap.size w w0 := by rw [hw0]; exact (Below.refl _ _).alloc (Nat.le_refl _) _
  have hA : ActAt w0 w.heap.size o := by rw [hw0]; exact ActAt.boxed w o
  have hs0 := h.below hb0
  have c2 := hs0.c2
  have hfew := h.few
  have HA := hide hA
  have HS := hide hs0
  have HB0 := hide hb0
  rw [hw0] at c2
  have HW0 := hide hw0
  clear hb0 hA hs0 h hw0
  go_enter Try.func101, Try.ntmps101
  go_wp2
  go_loopw [12] (fun vi wr => ∃ l : Nat, l ≤ n ∧ vi = .int .i64 l ∧ Below w0.heap.size w0 wr ∧ ((List.range l).all fun l => !decide ((F l).dst = o.k) || (F l).full) = true) (fun vi _ => n - (intOf vi).toNat)
  case atStart => exact ⟨0, Nat.zero_le _, rfl, by rw [HW0.out]; exact Below.refl _ _, rfl⟩
  case round =>
    obtain ⟨l, hl, rfl, hbr, hall⟩ := hrel
    have HAL := hide hall
    have HBR := hide hbr
    have HWR : Hid (Below w.heap.size w wr) := hide (HB0.out.trans (hbr.mono HB0.out.size))
    clear hall c2
    by_cases hil : l < n
    · obtain ⟨g, rfl, hW, hne⟩ := (HS.out.below hbr).wi (by omega)
      obtain ⟨x0, x1, x2, x3, x4, x5⟩ := hW.cells hil
      have k0 : ∀ u, (wr.alloc u).cell? ⟨w.heap.size, 0, none⟩ = some (.int .i64 o.k) := fun u => (((hbr.alloc hbr.size u).cell (p := ⟨w.heap.size, 0, none⟩) HA.out.lt).trans HA.out.cells.1)
      have j3 : (0 : Int) ≤ (l : Int) := by omega
      have j4 : (l : Int) < (n : Int) := by omega
      have HST := hide (@all_step l (fun l => !decide ((F l).dst = o.k) || (F l).full) HAL.out)
      have HFL : Hid ((!decide ((F l).dst = o.k) || (F l).full) = false → ((List.range n).all fun l => !decide ((F l).dst = o.k) || (F l).full) = false) := hide (fun e => all_fail hil e)
      clear hW hbr
      obtain ⟨p1, hp1⟩ : ∃ p1, ((F l).dst == o.k) = p1 := ⟨_, rfl⟩
      have hd1 : decide ((F l).dst = o.k) = p1 := by rw [← hp1]; rfl
      rw [hd1] at HST HFL
      clear hd1
      cases p1 with
      | false =>
        go_wp2
        go_roundw
        case rel => exact ⟨l + 1, by omega, by go_num, HBR.out.alloc HBR.out.size _, HST.out rfl⟩
        case measure => simp [intOf]; omega
      | true =>
        obtain ⟨fl, hfl⟩ : ∃ fl, (F l).full = fl := ⟨_, rfl⟩
        rw [hfl] at HST HFL x2
        clear hfl
        cases fl with
        | false =>
          go_wp2
          go_ret
          exact ⟨by rw [HFL.out rfl]; rfl, HWR.out.alloc HWR.out.size _⟩
        | true =>
          go_wp2
          go_roundw
          case rel => exact ⟨l + 1, by omega, by go_num, HBR.out.alloc HBR.out.size _, HST.out rfl⟩
          case measure => simp [intOf]; omega
    · have ek : l = n := by omega
      subst ek
      clear hbr
      go_wp2
      go_ret
      exact ⟨by rw [HAL.out]; rfl, HWR.out⟩

set_option maxHeartbeats 2000000 in
set_option maxRecDepth 100000 in
theorem pfree_any {w : World} {X : Nat → Prop} {b : Nat} {aW : Option Addr} {n cW : Nat} {vE vV : Value} {F : Nat → WrF} {nx : Nat → Nat} {hd : Nat → Bool} (h : Scn w X b aW n cW vE vV F nx hd) (o : OpF) :
    Calls Try.prog 103 #[.pointer (some ⟨b, 0, none⟩), .agg #[.int .i64 o.k, .int .i64 o.a, .int .i64 o.b, .int .i64 o.c]] w fun e w' => e = .returned (.bool ((List.range n).all fun l => !decide ((F l).src = o.k) || (!(F l).unt && decide ((F l).known ≤ o.a)))) ∧ Below w.heap.size w w' := by
  obtain ⟨w0, hw0⟩ : ∃ w0, w0 = w.alloc (.cells #[.int .i64 o.k, .int .i64 o.a, .int .i64 o.b, .int .i64 o.c] 43) := ⟨_, rfl⟩
  have hb0 : Below w.heap.size w w0 := by rw [hw0]; exact (Below.refl _ _).alloc (Nat.le_refl _) _
  have hA : ActAt w0 w.heap.size o := by rw [hw0]; exact ActAt.boxed w o
  have hs0 := h.below hb0
  have c2 := hs0.c2
  have hfew := h.few
  have HA := hide hA
  have HS := hide hs0
  have HB0 := hide hb0
  rw [hw0] at c2
  have HW0 := hide hw0
  clear hb0 hA hs0 h hw0
  go_enter Try.func103, Try.ntmps103
  go_wp2
  go_loopw [12] (fun vi wr => ∃ l : Nat, l ≤ n ∧ vi = .int .i64 l ∧ Below w0.heap.size w0 wr ∧ ((List.range l).all fun l => !decide ((F l).src = o.k) || (!(F l).unt && decide ((F l).known ≤ o.a))) = true) (fun vi _ => n - (intOf vi).toNat)
  case atStart => exact ⟨0, Nat.zero_le _, rfl, by rw [HW0.out]; exact Below.refl _ _, rfl⟩
  case round =>
    obtain ⟨l, hl, rfl, hbr, hall⟩ := hrel
    have HAL := hide hall
    have HBR := hide hbr
    have HWR : Hid (Below w.heap.size w wr) := hide (HB0.out.trans (hbr.mono HB0.out.size))
    clear hall c2
    by_cases hil : l < n
    · obtain ⟨g, rfl, hW, hne⟩ := (HS.out.below hbr).wi (by omega)
      obtain ⟨x0, x1, x2, x3, x4, x5⟩ := hW.cells hil
      have k0 : ∀ u, (wr.alloc u).cell? ⟨w.heap.size, 0, none⟩ = some (.int .i64 o.k) := fun u => (((hbr.alloc hbr.size u).cell (p := ⟨w.heap.size, 0, none⟩) HA.out.lt).trans HA.out.cells.1)
      have k1 : ∀ u, (wr.alloc u).cell? ⟨w.heap.size, 1, none⟩ = some (.int .i64 o.a) := fun u => (((hbr.alloc hbr.size u).cell (p := ⟨w.heap.size, 1, none⟩) HA.out.lt).trans HA.out.cells.2.1)
      have j3 : (0 : Int) ≤ (l : Int) := by omega
      have j4 : (l : Int) < (n : Int) := by omega
      have HST := hide (@all_step l (fun l => !decide ((F l).src = o.k) || (!(F l).unt && decide ((F l).known ≤ o.a))) HAL.out)
      have HFL : Hid ((!decide ((F l).src = o.k) || (!(F l).unt && decide ((F l).known ≤ o.a))) = false → ((List.range n).all fun l => !decide ((F l).src = o.k) || (!(F l).unt && decide ((F l).known ≤ o.a))) = false) := hide (fun e => all_fail hil e)
      clear hW hbr
      obtain ⟨p1, hp1⟩ : ∃ p1, ((F l).src == o.k) = p1 := ⟨_, rfl⟩
      have hd1 : decide ((F l).src = o.k) = p1 := by rw [← hp1]; rfl
      rw [hd1] at HST HFL
      clear hd1
      cases p1 with
      | false =>
        go_wp2
        go_roundw
        case rel => exact ⟨l + 1, by omega, by go_num, HBR.out.alloc HBR.out.size _, HST.out rfl⟩
        case measure => simp [intOf]; omega
      | true =>
        obtain ⟨fl, hfl⟩ : ∃ fl, (F l).unt = fl := ⟨_, rfl⟩
        rw [hfl] at HST HFL x3
        clear hfl
        cases fl with
        | true =>
          go_wp2
          go_ret
          exact ⟨by rw [HFL.out rfl]; rfl, HWR.out.alloc HWR.out.size _⟩
        | false =>
          by_cases hkn : (F l).known ≤ o.a
          · have hkn' : ¬ (F l).known > o.a := by omega
            rw [decide_eq_true hkn] at HST
            clear hkn HFL
            go_wp2
            go_roundw
            case rel => exact ⟨l + 1, by omega, by go_num, HBR.out.alloc HBR.out.size _, HST.out rfl⟩
            case measure => simp [intOf]; omega
          · have hkn' : (F l).known > o.a := by omega
            rw [decide_eq_false hkn] at HFL
            clear hkn HST
            go_wp2
            go_ret
            exact ⟨by rw [HFL.out rfl]; rfl, HWR.out.alloc HWR.out.size _⟩
    · have ek : l = n := by omega
      subst ek
      clear hbr
      go_wp2
      go_ret
      exact ⟨by rw [HAL.out]; rfl, HWR.out⟩

end Go.Proofs.Ytmndgoapkmhglab
