import Derived.Test.YtmndgoapkmhglabM28StrE
import Derived.Test.YtmndgoapkmhglabM29RefK
/- Plain mathematics: nothing is ever stuck. -/
namespace Go.Proofs.Ytmndgoapkmhglab

theorem did_app (P Q : PastF) (pl what now : Int) (data : Bool) : didF (P ++ Q) pl what now data = didF P pl what now data + didF Q pl what now data := by
  unfold didF; rw [List.filter_append, List.length_append]
theorem cnt_app (P Q : PastF) (pl what : Int) : cntF (P ++ Q) pl what = cntF P pl what + cntF Q pl what := by
  unfold cntF; rw [List.filter_append, List.length_append]
theorem did_none {S : PastF} {x : Int} (h : ∀ y ∈ S, x < y.2.a) (pl what : Int) : didF S pl what x false = 0 := by
  unfold didF
  rw [List.length_eq_zero_iff, List.filter_eq_nil_iff]
  intro y hy
  have := h y hy
  simp only [Bool.and_eq_true, decide_eq_true_eq, Bool.false_eq_true, if_false]
  omega
theorem taken_none {x : Int} (l : Nat) : ∀ {S : PastF}, (∀ y ∈ S, x < y.2.a) → takenF x l false S = 0 := by
  intro S
  induction S with
  | nil => intro _; rfl
  | cons y S ih =>
    intro h
    have := h y (by simp)
    simp only [takenF]
    rw [if_neg (by simp; omega), ih (fun z hz => h z (List.mem_cons_of_mem _ hz))]
theorem did_mono {P : PastF} {x y : Int} (h : x ≤ y) (pl what : Int) : didF P pl what x false ≤ didF P pl what y false := by
  refine past_ind (p := fun P => didF P pl what x false ≤ didF P pl what y false) (by simp [didF]) (fun P z ih => ?_) P
  rw [didF_snoc, didF_snoc]
  have : (if (isD pl what z && decide (z.2.a + (if false = true then z.1.c else 0) ≤ x)) = true then 1 else 0) ≤ if (isD pl what z && decide (z.2.a + (if false = true then z.1.c else 0) ≤ y)) = true then 1 else 0 := by
    simp only [Bool.false_eq_true, if_false]
    cases isD pl what z with
    | false => simp
    | true =>
      simp only [Bool.true_and, decide_eq_true_eq]
      by_cases h1 : z.2.a + 0 ≤ x
      · rw [if_pos h1, if_pos (by omega)]; exact Nat.le_refl _
      · rw [if_neg h1]; exact Nat.zero_le _
  omega
theorem taken_mono {x y : Int} (h : x ≤ y) (l : Nat) : ∀ (P : PastF), takenF x l false P ≤ takenF y l false P := by
  intro P
  induction P with
  | nil => exact Nat.le_refl _
  | cons z P ih =>
    simp only [takenF, Bool.false_eq_true, if_false]
    by_cases h1 : z.2.a + 0 ≤ x
    · rw [if_pos h1, if_pos (by omega)]; omega
    · rw [if_neg h1]; omega

/-- if all that was taken was taken by a time, it is known soon behind it. -/
theorem known_le {Dm y : Int} (hy : 0 ≤ y + Dm) (l : Nat) : ∀ P : PastF, (∀ x ∈ P, x.1.b ≤ Dm) → tkF l P ≤ takenF y l false P → knownF l P 0 ≤ y + Dm := by
  refine past_ind (fun _ _ => hy) (fun P x ih hb h => ?_)
  have hb' : ∀ z ∈ P, z.1.b ≤ Dm := fun z hz => hb z (List.mem_append_left _ hz)
  rw [tkF_app, takenF_app] at h
  simp only [tkF, takenF, Nat.add_zero, Bool.false_eq_true, if_false, Int.add_zero] at h
  have h1 := taken_le y l false P
  rw [knownF_app]
  simp only [knownF]
  by_cases hm : l ∈ x.2.took
  · have hc : 0 < x.2.took.count l := List.count_pos_iff.2 hm
    rw [if_pos hm]
    by_cases hx : x.2.a ≤ y
    · have := hb x (by simp); omega
    · rw [if_neg hx] at h; omega
  · rw [if_neg hm]
    refine ih hb' ?_
    have hc : x.2.took.count l = 0 := List.count_eq_zero.2 hm
    rw [hc] at h
    split at h <;> omega
theorem comes_le {Dm y : Int} (hy : 0 ≤ y + Dm) (pl : Int) : ∀ P : PastF, (∀ x ∈ P, x.1.c ≤ Dm) → cntF P pl 2 ≤ didF P pl 2 y false → comesF pl P 0 ≤ y + Dm := by
  refine past_ind (fun _ _ => hy) (fun P x ih hb h => ?_)
  have hb' : ∀ z ∈ P, z.1.c ≤ Dm := fun z hz => hb z (List.mem_append_left _ hz)
  rw [cntF_snoc, didF_snoc] at h
  simp only [Bool.false_eq_true, if_false, Int.add_zero] at h
  have h1 := did_le P pl 2 y false
  rw [comesF_app]
  simp only [comesF]
  cases hm : isD pl 2 x with
  | true =>
    rw [if_pos rfl]
    rw [hm] at h
    simp only [Bool.true_and, if_true] at h
    by_cases hx : x.2.a ≤ y
    · have := hb x (by simp); omega
    · rw [if_neg (by simpa using hx)] at h; omega
  | false =>
    rw [if_neg (by simp)]
    rw [hm] at h
    simp at h
    exact ih hb' h

section
variable {N : List LnF} {V : Int → Nat → List Int} {P : PastF} {a : OpF} (hO : PastOk N P a.a) (hI : RunInv N P)
include hO hI

/-- it publishes. -/
theorem go_publish {k : Nat} (h1 : k + 1 ≤ cntF P a.k 1) (h2 : ∀ l, l < N.length → (lnAt N l).src = a.k → k ≤ tkF l P ∧ (tkF l P ≤ k → knownF l P 0 ≤ a.a)) : k + 1 ≤ cntF (P ++ [(a, wakeF N V P a)]) a.k 2 := by
  rw [cnt_next]
  by_cases hd : k + 1 ≤ cntF P a.k 2
  · omega
  · have ht := hI.turn a.k
    have e2 : cntF P a.k 2 = k := by omega
    have e1 : cntF P a.k 1 = k + 1 := by omega
    have hnr : ¬ readyF N P a = true := fun hr => by have := ((ready_iff hO hI).1 hr).1; omega
    have hf : freeF N P a = true := by
      rw [free_iff hO hI]
      refine ⟨by omega, fun l hl hs => ?_⟩
      obtain ⟨g1, g2⟩ := h2 l hl hs
      have := (hI.sent l hl).1
      rw [hs] at this
      have e : tkF l P = k := by omega
      exact ⟨by omega, .inl (g2 (by omega))⟩
    rcases did_cases N V P a with ⟨hr, _⟩ | ⟨_, _, hd⟩ | ⟨_, hf', _⟩
    · exact absurd hr hnr
    · rw [hd, if_pos ⟨rfl, rfl⟩]; omega
    · rw [hf] at hf'; cases hf'

/-- it takes. -/
theorem go_take {m l : Nat} (hl : l < N.length) (hd : (lnAt N l).dst = a.k) (h1 : m ≤ cntF P (lnAt N l).src 2) (h2 : cntF P (lnAt N l).src 2 ≤ m → comesF (lnAt N l).src P 0 ≤ a.a) (h3 : m + lateN N l ≤ cntF P a.k 1 + 1) : m ≤ tkF l P + (if canF N P a l = true then 1 else 0) := by
  by_cases hm : m ≤ tkF l P
  · omega
  · have hs := hI.sent l hl
    have hsl := hI.slot l hl
    rw [hd] at hsl
    have hc : canF N P a l = true := by
      rw [can_iff hO hI hl]
      exact ⟨hd, by omega, h2 (by omega), by omega⟩
    rw [if_pos hc]; omega

/-- it steps. -/
theorem go_step {k : Nat} (h1 : k ≤ cntF P a.k 2) (h2 : ∀ l, l < N.length → (lnAt N l).dst = a.k → k + 1 ≤ tkF l P + (if canF N P a l = true then 1 else 0) + lateN N l) : k + 1 ≤ cntF (P ++ [(a, wakeF N V P a)]) a.k 1 := by
  rw [cnt_next]
  by_cases hd : k + 1 ≤ cntF P a.k 1
  · omega
  · have ht := hI.turn a.k
    have hr : readyF N P a = true := by
      rw [ready_iff hO hI]
      refine ⟨by omega, fun l hl hs => ?_⟩
      have g := h2 l hl hs
      have hsl := hI.slot l hl
      rw [hs] at hsl
      by_cases hc : canF N P a l = true
      · have := ((can_iff hO hI hl).1 hc).2.2.2
        rw [if_pos hc] at g ⊢; omega
      · rw [if_neg hc] at g ⊢; omega
    rcases did_cases N V P a with ⟨_, hd⟩ | ⟨hr', _, _⟩ | ⟨hr', _, _⟩
    · rw [hd, if_pos ⟨rfl, rfl⟩]; omega
    · rw [hr] at hr'; cases hr'
    · rw [hr] at hr'; cases hr'

end

theorem run_app (N : List LnF) (V : Int → Nat → List Int) : ∀ (s t : List OpF) (P : PastF), runG N V P (s ++ t) = runG N V (runG N V P s) t := by
  intro s
  induction s with
  | nil => intro t P; rfl
  | cons a s ih => intro t P; exact ih t _
theorem run_ext (N : List LnF) (V : Int → Nat → List Int) : ∀ (t : List OpF) (P : PastF), ∃ S, runG N V P t = P ++ S ∧ S.map Prod.fst = t ∧ ∀ x ∈ S, x.2.a = x.1.a := by
  intro t
  induction t with
  | nil => intro P; exact ⟨[], by simp [runG], rfl, fun x hx => by simp at hx⟩
  | cons a t ih =>
    intro P
    obtain ⟨S, h1, h2, h3⟩ := ih (P ++ [(a, wakeF N V P a)])
    refine ⟨(a, wakeF N V P a) :: S, ?_, by simp [h2], fun x hx => ?_⟩
    · show runG N V (P ++ [(a, wakeF N V P a)]) t = _
      rw [h1]; simp
    · rcases List.mem_cons.1 hx with rfl | hx
      · rfl
      · exact h3 x hx

/-- an act of a script that is played: what is there ahead of it, and behind it. -/
structure AtAct (N : List LnF) (V : Int → Nat → List Int) (sc : List OpF) (R : PastF) (a : OpF) (P : PastF) : Prop where
  ok : PastOk N P a.a
  inv : RunInv N P
  did0 : ∀ x, x < a.a → ∀ pl what, didF R pl what x false ≤ cntF P pl what
  tk0 : ∀ x, x < a.a → ∀ l, takenF x l false R ≤ tkF l P
  didP : ∀ x, x < a.a → ∀ pl what, didF P pl what x false = didF R pl what x false
  tkP : ∀ x, x < a.a → ∀ l, takenF x l false P = takenF x l false R
  did1 : ∀ pl what, cntF (P ++ [(a, wakeF N V P a)]) pl what ≤ didF R pl what a.a false
  tk1 : ∀ l, l < N.length → tkF l P + (if canF N P a l = true then 1 else 0) ≤ takenF a.a l false R
  mem : ∀ x ∈ P, x.1 ∈ sc

theorem at_act {N : List LnF} (hA : Apart N) (V : Int → Nat → List Int) {sc : List OpF} (hS : ActsOk sc) {a : OpF} (ha : a ∈ sc) : ∃ P, AtAct N V sc (runG N V [] sc) a P := by
  obtain ⟨s, t, rfl⟩ := List.append_of_mem ha
  have hg := List.pairwise_append.1 hS.gap
  have hind := run_ind hA V (p := fun _ => True) (fun _ _ _ _ _ _ => trivial) s [] (fun x hx => hS.nn x (List.mem_append_left _ hx)) (by simpa using hg.1) (fun t _ => past_start N t) (inv_start N) trivial
  obtain ⟨S0, f1, f2, f3⟩ := run_ext N V s []
  rw [List.nil_append] at f1
  have hPm : ∀ x ∈ runG N V [] s, x.1 ∈ s := fun x hx => by rw [← f2, ← f1]; exact List.mem_map.2 ⟨x, hx, rfl⟩
  have hle : ∀ x ∈ runG N V [] s, x.1.a ≤ a.a := fun x hx => (hg.2.2 x.1 (hPm x hx) a (by simp)).1
  obtain ⟨S, e1, e2, e3⟩ := run_ext N V t (runG N V [] s ++ [(a, wakeF N V (runG N V [] s) a)])
  have hR : runG N V [] (s ++ a :: t) = runG N V [] s ++ ([(a, wakeF N V (runG N V [] s) a)] ++ S) := by
    rw [run_app]
    show runG N V (runG N V [] s ++ [(a, wakeF N V (runG N V [] s) a)]) t = _
    rw [e1, List.append_assoc]
  have hlate : ∀ x, x < a.a → ∀ y ∈ [(a, wakeF N V (runG N V [] s) a)] ++ S, x < y.2.a := fun x hx y hy => by
    rcases List.mem_append.1 hy with hy | hy
    · rw [List.mem_singleton] at hy; subst hy; exact hx
    · have hyt : y.1 ∈ t := by rw [← e2]; exact List.mem_map.2 ⟨y, hy, rfl⟩
      have h2 := ((List.pairwise_cons.1 hg.2.1).1 y.1 hyt).1
      rw [e3 y hy]; omega
  have hO := hind.2.2 a.a hle
  refine ⟨runG N V [] s, hO, hind.2.1, ?_, ?_, ?_, ?_, ?_, ?_, ?_⟩
  · intro x hx pl what
    rw [hR, did_app, did_none (hlate x hx)]
    have := did_le (runG N V [] s) pl what x false
    omega
  · intro x hx l
    rw [hR, takenF_app, taken_none l (hlate x hx)]
    have := taken_le x l false (runG N V [] s)
    omega
  · intro x hx pl what
    rw [hR, did_app, did_none (hlate x hx)]; rfl
  · intro x hx l
    rw [hR, takenF_app, taken_none l (hlate x hx)]; rfl
  · intro pl what
    rw [hR, ← List.append_assoc, did_app]
    have h1 : didF (runG N V [] s ++ [(a, wakeF N V (runG N V [] s) a)]) pl what a.a false = cntF (runG N V [] s ++ [(a, wakeF N V (runG N V [] s) a)]) pl what :=
      did_all (past_next hO (fun x hx => hg.2.2 x.1 (hPm x hx) a (by simp))) pl what
    omega
  · intro l hl
    rw [hR, ← List.append_assoc, takenF_app, ← tk_next N V _ a hl]
    have h1 : takenF a.a l false (runG N V [] s ++ [(a, wakeF N V (runG N V [] s) a)]) = tkF l (runG N V [] s ++ [(a, wakeF N V (runG N V [] s) a)]) :=
      taken_all l (past_next hO (fun x hx => hg.2.2 x.1 (hPm x hx) a (by simp)))
    omega
  · intro x hx
    exact List.mem_append_left _ (hPm x hx)

end Go.Proofs.Ytmndgoapkmhglab

/- Plain mathematics: each place makes its step k no later than is told. -/
namespace Go.Proofs.Ytmndgoapkmhglab

/-- at every time: a step has used one value of each link. -/
theorem slot_at {N : List LnF} (hA : Apart N) (V : Int → Nat → List Int) {sc : List OpF} (hS : ActsOk sc) : ∀ (x : Int) (l : Nat), l < N.length → didF (runG N V [] sc) (lnAt N l).dst 1 x false ≤ takenF x l false (runG N V [] sc) + lateN N l := by
  refine (run_ind hA V (p := fun P => ∀ (x : Int) (l : Nat), l < N.length → didF P (lnAt N l).dst 1 x false ≤ takenF x l false P + lateN N l) (fun P a hO hI _ ih x l hl => ?_) sc [] hS.nn (by simpa using hS.gap) (fun t _ => past_start N t) (inv_start N) (fun x l _ => by simp [didF])).1
  rw [did_app, takenF_app]
  by_cases hx : x < a.a
  · have h1 : ∀ y ∈ [(a, wakeF N V P a)], x < y.2.a := fun y hy => by rw [List.mem_singleton] at hy; subst hy; exact hx
    rw [did_none h1, taken_none l h1]
    have := ih x l hl
    omega
  · have hOx := hO.mono (Int.not_lt.1 hx)
    have hn := (inv_next (V := V) hA hO hI).slot l hl
    have h1 : didF [(a, wakeF N V P a)] (lnAt N l).dst 1 x false = cntF [(a, wakeF N V P a)] (lnAt N l).dst 1 := by
      unfold didF cntF
      congr 1
      apply List.filter_congr
      intro y hy
      rw [List.mem_singleton] at hy
      subst hy
      have : decide ((wakeF N V P a).a + (if false = true then a.c else 0) ≤ x) = true := by
        simp only [Bool.false_eq_true, if_false, decide_eq_true_eq]
        show a.a + 0 ≤ x
        omega
      rw [this, Bool.and_true]
    have h2 : takenF x l false [(a, wakeF N V P a)] = tkF l [(a, wakeF N V P a)] := by
      simp only [takenF, tkF]
      rw [if_pos (by simp only [Bool.false_eq_true, if_false]; show a.a + 0 ≤ x; omega)]
    rw [did_all hOx, taken_all l hOx, h1, h2, ← cnt_app, ← tkF_app]
    exact hn.1

/-- a script within bounds, up to a time. -/
structure Bound (N : List LnF) (sc : List OpF) (Q : Int → Prop) (dep : Int → Nat) (Tm Dm h : Int) : Prop where
  ok : ActsOk sc
  dly : ∀ a ∈ sc, a.b ≤ Dm ∧ a.c ≤ Dm
  d0 : 0 ≤ Dm
  t1 : 1 ≤ Tm
  ends : ∀ l, l < N.length → Q (lnAt N l).src ∧ Q (lnAt N l).dst
  first : ∀ q, Q q → Tm ≤ h → ∃ a ∈ sc, a.k = q ∧ a.a ≤ Tm
  act : ∀ q, Q q → ∀ x, 0 ≤ x → x + Tm ≤ h → ∃ a ∈ sc, a.k = q ∧ x < a.a ∧ a.a ≤ x + Tm
  dep : ∀ l, l < N.length → lateN N l = 0 → dep (lnAt N l).src < dep (lnAt N l).dst

/-- what is done by a time, ahead of the steps k. -/
structure Reach (N : List LnF) (R : PastF) (Q : Int → Prop) (dep : Int → Nat) (k : Nat) (u : Int) : Prop where
  pub : ∀ q, Q q → k ≤ didF R q 2 u false
  tak : ∀ l, l < N.length → k ≤ takenF u l false R
  stp : ∀ q, Q q → k ≤ didF R q 1 u false
  low : ∀ q, Q q → dep q = 0 → k + 1 ≤ didF R q 1 u false

section
variable {N : List LnF} (hA : Apart N) (V : Int → Nat → List Int) {sc : List OpF} {Q : Int → Prop} {dep : Int → Nat} {Tm Dm h : Int} (hB : Bound N sc Q dep Tm Dm h)
include hA hB

/-- a place that holds values publishes them, when those ahead are taken. -/
theorem publish_by {k : Nat} {u y : Int} (hu : 0 ≤ u) (huy : u ≤ y) (htk : ∀ l, l < N.length → k ≤ takenF u l false (runG N V [] sc)) {q : Int} (hq : Q q) (hst : k + 1 ≤ didF (runG N V [] sc) q 1 y false) (hh : y + Dm + Tm ≤ h) : k + 1 ≤ didF (runG N V [] sc) q 2 (y + Dm + Tm) false := by
  have hd := hB.d0
  obtain ⟨a, ha, rfl, h1, h2⟩ := hB.act q hq (y + Dm) (by omega) hh
  obtain ⟨P, hP⟩ := at_act hA V hB.ok ha
  have h3 := go_publish (V := V) hP.ok hP.inv (k := k) (Nat.le_trans hst (hP.did0 y (by omega) _ _)) (fun l hl _ => by
    have g1 := htk l hl
    have g2 := hP.tk0 u (by omega) l
    refine ⟨by omega, fun g3 => ?_⟩
    have := known_le (Dm := Dm) (y := u) (by omega) l P (fun x hx => (hB.dly x.1 (hP.mem x hx)).1) (by rw [hP.tkP u (by omega) l]; omega)
    omega)
  exact Nat.le_trans h3 (Nat.le_trans (hP.did1 _ _) (did_mono h2 _ _))

theorem depth_by {k : Nat} {u : Int} (hu : 0 ≤ u) (hR : Reach N (runG N V [] sc) Q dep k u) : ∀ (d : Nat) (q : Int), Q q → dep q ≤ d → u + (d : Int) * (2 * (Tm + Dm)) ≤ h → k + 1 ≤ didF (runG N V [] sc) q 1 (u + (d : Int) * (2 * (Tm + Dm))) false := by
  have hd := hB.d0
  have ht := hB.t1
  intro d
  induction d with
  | zero =>
    intro q hq hdq hh
    have := hR.low q hq (by omega)
    simpa using this
  | succ d ih =>
    intro q hq hdq hh
    have e : ((d + 1 : Nat) : Int) * (2 * (Tm + Dm)) = (d : Int) * (2 * (Tm + Dm)) + 2 * (Tm + Dm) := by
      rw [Int.natCast_add, Int.add_mul]; simp
    rw [e] at hh ⊢
    have hp : 0 ≤ (d : Int) * (2 * (Tm + Dm)) := Int.mul_nonneg (by omega) (by omega)
    generalize (d : Int) * (2 * (Tm + Dm)) = z at *
    obtain ⟨a, ha, rfl, h1, h2⟩ := hB.act q hq (u + z + (Dm + Tm) + Dm) (by omega) (by omega)
    obtain ⟨P, hP⟩ := at_act hA V hB.ok ha
    have key := go_step (V := V) hP.ok hP.inv (k := k) (Nat.le_trans (hR.pub _ hq) (hP.did0 u (by omega) _ _)) (fun l hl hdst => by
      have g1 := hR.tak l hl
      have g2 := hP.tk0 u (by omega) l
      by_cases hlt : lateN N l = 0
      · have hdp := hB.dep l hl hlt
        rw [hdst] at hdp
        have hqs := (hB.ends l hl).1
        have s1 := ih _ hqs (by omega) (by omega)
        have s2 := publish_by hA V hB hu (show u ≤ u + z by omega) hR.tak hqs s1 (by omega)
        rw [show u + z + Dm + Tm = u + z + (Dm + Tm) by omega] at s2
        have s3 := go_take hP.ok hP.inv (m := k + 1) hl hdst (Nat.le_trans s2 (hP.did0 _ (by omega) _ _)) (fun g3 => by
          have := comes_le (Dm := Dm) (y := u + z + (Dm + Tm)) (by omega) (lnAt N l).src P (fun x hx => (hB.dly x.1 (hP.mem x hx)).2) (by rw [hP.didP _ (by omega)]; omega)
          omega) (by have := Nat.le_trans (hR.stp _ hq) (hP.did0 u (by omega) _ 1); omega)
        omega
      · have := lateN_le N l
        omega)
    exact Nat.le_trans key (Nat.le_trans (hP.did1 _ _) (did_mono (by omega) _ _))

/-- from the steps k to what is done ahead of the steps k + 1. -/
theorem reach_next {k : Nat} {t : Int} (ht0 : 0 ≤ t) (hst : ∀ q, Q q → k + 1 ≤ didF (runG N V [] sc) q 1 t false) (hh : t + 2 * (Tm + Dm) ≤ h) : Reach N (runG N V [] sc) Q dep (k + 1) (t + 2 * (Tm + Dm)) := by
  have hd := hB.d0
  have ht := hB.t1
  have hslot := slot_at hA V hB.ok
  have tk0 : ∀ l, l < N.length → k ≤ takenF t l false (runG N V [] sc) := fun l hl => by
    have h1 := hslot t l hl
    have h2 := hst _ (hB.ends l hl).2
    have := lateN_le N l
    omega
  have pub : ∀ q, Q q → k + 1 ≤ didF (runG N V [] sc) q 2 (t + Dm + Tm) false := fun q hq => publish_by hA V hB ht0 (Int.le_refl _) tk0 hq (hst q hq) (by omega)
  -- an act at which what was published is there
  have take : ∀ q, Q q → ∃ (a : OpF) (P : PastF), a.k = q ∧ a.a ≤ t + 2 * (Tm + Dm) ∧ AtAct N V sc (runG N V [] sc) a P ∧ k + 1 ≤ cntF P a.k 2 ∧ ∀ l, l < N.length → (lnAt N l).dst = a.k → k + 1 ≤ tkF l P + (if canF N P a l = true then 1 else 0) := fun q hq => by
    obtain ⟨a, ha, rfl, h1, h2⟩ := hB.act q hq (t + Dm + Tm + Dm) (by omega) (by omega)
    obtain ⟨P, hP⟩ := at_act hA V hB.ok ha
    refine ⟨a, P, rfl, by omega, hP, Nat.le_trans (pub _ hq) (hP.did0 _ (by omega) _ _), fun l hl hdst => ?_⟩
    by_cases hlt : lateN N l = 0
    · have g1 := hslot t l hl
      have g2 := hst _ (hB.ends l hl).2
      have g3 := hP.tk0 t (by omega) l
      omega
    · have hl1 : lateN N l = 1 := by have := lateN_le N l; omega
      have hqs := (hB.ends l hl).1
      exact go_take hP.ok hP.inv (m := k + 1) hl hdst (Nat.le_trans (pub _ hqs) (hP.did0 _ (by omega) _ _)) (fun g3 => by
        have g4 := pub _ hqs
        have := comes_le (Dm := Dm) (y := t + Dm + Tm) (by omega) (lnAt N l).src P (fun x hx => (hB.dly x.1 (hP.mem x hx)).2) (by rw [hP.didP _ (by omega)]; omega)
        omega) (by have := Nat.le_trans (hst _ hq) (hP.did0 t (by omega) _ 1); omega)
  refine ⟨fun q hq => Nat.le_trans (pub q hq) (did_mono (by omega) _ _), fun l hl => ?_, fun q hq => Nat.le_trans (hst q hq) (did_mono (by omega) _ _), fun q hq h0 => ?_⟩
  · obtain ⟨a, P, e, h2, hP, _, h4⟩ := take _ (hB.ends l hl).2
    exact Nat.le_trans (h4 l hl e.symm) (Nat.le_trans (hP.tk1 l hl) (taken_mono h2 l _))
  · obtain ⟨a, P, rfl, h2, hP, h3, h4⟩ := take q hq
    have key := go_step (V := V) hP.ok hP.inv (k := k + 1) h3 (fun l hl hdst => by
      have g1 := h4 l hl hdst
      by_cases hlt : lateN N l = 0
      · have := hB.dep l hl hlt
        rw [hdst] at this
        omega
      · have := lateN_le N l
        omega)
    exact Nat.le_trans key (Nat.le_trans (hP.did1 _ _) (did_mono h2 _ _))

theorem reach_zero (hh : Tm ≤ h) : Reach N (runG N V [] sc) Q dep 0 Tm := by
  refine ⟨fun _ _ => Nat.zero_le _, fun _ _ => Nat.zero_le _, fun _ _ => Nat.zero_le _, fun q hq h0 => ?_⟩
  obtain ⟨a, ha, rfl, h1⟩ := hB.first q hq hh
  obtain ⟨P, hP⟩ := at_act hA V hB.ok ha
  have key := go_step (V := V) hP.ok hP.inv (k := 0) (Nat.zero_le _) (fun l hl hdst => by
    by_cases hlt : lateN N l = 0
    · have := hB.dep l hl hlt
      rw [hdst] at this
      omega
    · omega)
  exact Nat.le_trans key (Nat.le_trans (hP.did1 _ _) (did_mono h1 _ _))

/-- the time by which all is done ahead of the steps k. -/
def reachT (Tm Dm : Int) (D : Nat) : Nat → Int
  | 0 => Tm
  | k + 1 => reachT Tm Dm D k + (D : Int) * (2 * (Tm + Dm)) + 2 * (Tm + Dm)

omit hA hB in
theorem reachT_nn {Tm Dm : Int} (ht : 1 ≤ Tm) (hd : 0 ≤ Dm) (D : Nat) : ∀ k, 0 ≤ reachT Tm Dm D k := by
  intro k
  induction k with
  | zero => show 0 ≤ Tm; omega
  | succ k ih =>
    show 0 ≤ reachT Tm Dm D k + (D : Int) * (2 * (Tm + Dm)) + 2 * (Tm + Dm)
    have : 0 ≤ (D : Int) * (2 * (Tm + Dm)) := Int.mul_nonneg (by omega) (by omega)
    omega

/-- NOTHING IS EVER STUCK: each place makes its step k by then. -/
theorem steps_by {D : Nat} (hD : ∀ q, Q q → dep q ≤ D) : ∀ k, (reachT Tm Dm D k ≤ h → Reach N (runG N V [] sc) Q dep k (reachT Tm Dm D k)) ∧ (reachT Tm Dm D k + (D : Int) * (2 * (Tm + Dm)) ≤ h → ∀ q, Q q → k + 1 ≤ didF (runG N V [] sc) q 1 (reachT Tm Dm D k + (D : Int) * (2 * (Tm + Dm))) false) := by
  have hd := hB.d0
  have ht := hB.t1
  have hz : 0 ≤ (D : Int) * (2 * (Tm + Dm)) := Int.mul_nonneg (by omega) (by omega)
  intro k
  induction k with
  | zero =>
    have h0 := reach_zero hA V hB
    refine ⟨h0, fun hh q hq => ?_⟩
    exact depth_by hA V hB (by show 0 ≤ Tm; omega) (h0 (by show Tm ≤ h; have : reachT Tm Dm D 0 = Tm := rfl; omega)) D q hq (hD q hq) hh
  | succ k ih =>
    have hn := reachT_nn ht hd D k
    have hr : reachT Tm Dm D (k + 1) ≤ h → Reach N (runG N V [] sc) Q dep (k + 1) (reachT Tm Dm D (k + 1)) := fun hh => by
      have e : reachT Tm Dm D (k + 1) = reachT Tm Dm D k + (D : Int) * (2 * (Tm + Dm)) + 2 * (Tm + Dm) := rfl
      rw [e] at hh ⊢
      exact reach_next hA V hB (by omega) (ih.2 (by omega)) hh
    refine ⟨hr, fun hh q hq => ?_⟩
    exact depth_by hA V hB (reachT_nn ht hd D (k + 1)) (hr (by omega)) D q hq (hD q hq) hh

omit hA hB in
theorem reachT_eq (Tm Dm : Int) (D k : Nat) : reachT Tm Dm D k = Tm + (k : Int) * (((D : Int) + 1) * (2 * (Tm + Dm))) := by
  induction k with
  | zero => show Tm = _; simp
  | succ k ih =>
    show reachT Tm Dm D k + (D : Int) * (2 * (Tm + Dm)) + 2 * (Tm + Dm) = _
    have e : ((D : Int) + 1) * (2 * (Tm + Dm)) = (D : Int) * (2 * (Tm + Dm)) + 2 * (Tm + Dm) := by rw [Int.add_mul, Int.one_mul]
    rw [ih, e]
    generalize (D : Int) * (2 * (Tm + Dm)) = A
    generalize 2 * (Tm + Dm) = B
    have e2 : ((k + 1 : Nat) : Int) * (A + B) = (k : Int) * (A + B) + (A + B) := by rw [Int.natCast_add, Int.add_mul]; simp
    rw [e2]
    omega

end

end Go.Proofs.Ytmndgoapkmhglab

namespace Go.Proofs.Ytmndgoapkmhglab
open Go.RowKit
attribute [local go_sem ↓] Go.wp_at_zero Go.wp_at_succ

theorem any_range {p : Nat → Bool} (n k : Nat) (h : k < n) : (List.range' k (n - k)).any p = (p k || (List.range' (k + 1) (n - (k + 1))).any p) := by
  rw [show n - k = (n - (k + 1)) + 1 by omega, List.range'_succ, List.any_cons]

set_option maxHeartbeats 1000000 in
theorem rdelayed_any (w : World) (q g cap : Nat) (ts : List Tk) (L : List Dl) (vE vA vI vQ : Value) (h : RProg w q g cap ts L vE vA vI vQ) (ho : ROk ts L) (fr j : Nat) (hfj : fr ≤ j) (hj : j < ts.length) :
    Calls Try.prog 120 #[.pointer (some ⟨q, 0, none⟩), .int .i64 (fr : Int), .int .i64 (j : Int)] w fun e w' => e = .returned (.bool (delayedR ts fr j)) ∧ Below w.heap.size w w' := by
  have hlen := ho.len
  obtain ⟨gE, capE, rfl, _, hgE⟩ := h.ends.form (by omega)
  have HR := hide h
  have HO := hide ho
  clear h ho
  go_enter Try.func120, Try.ntmps120
  go_wp2
  go_loopw [7] (fun f wr => ∃ k : Nat, k ≤ j ∧ f = .int .i64 k ∧ Below w.heap.size w wr ∧ ((List.range' k (j - k)).any fun f => lAt ts f == kFby && decide (j < behindF ts (f + 1))) = delayedR ts fr j) (fun f _ => j - (intOf f).toNat)
  case atStart => exact ⟨fr, hfj, rfl, Below.refl _ _, rfl⟩
  case round =>
    obtain ⟨k, hk, rfl, hbel, hrec⟩ := hrel
    have c0 := (HR.out.below hbel).c0
    have c1 := (HR.out.below hbel).c1
    by_cases hlt : k < j
    · obtain ⟨a, ha⟩ : ∃ a, a = rtok (tkAt ts k) := ⟨_, rfl⟩
      obtain ⟨x0, x1, x2, x3⟩ := HR.out.toks.cells hbel (show k < ts.length by omega) a ha
      have hkw := (HO.out.F k).kw kFby (by decide)
      rw [← ha] at hkw
      have r1 := end_later HR.out.ends hbel hgE (show k + 1 < ts.length by omega)
      have j1 : (0 : Int) ≤ (k : Int) := by omega
      have j2 : (k : Int) < (ts.length : Int) := by omega
      have j3 : (0 : Int) ≤ (k : Int) + 1 := by omega
      have j4 : (k : Int) + 1 < (ts.length : Int) := by omega
      have j5 : (k : Int) < (j : Int) := by omega
      have hbl := behindF_le ts (k + 1) (by omega)
      rw [any_range _ _ hlt] at hrec
      generalize behindF ts (k + 1) = b at r1 hrec hbl
      by_cases hf : a.l = kFby
      · have q1 := str_yes (t := a.word) hf
        simp only [kFby] at q1
        have hl : (lAt ts k == kFby) = true := by rw [beq_iff_eq]; exact hkw.1 hf
        rw [hl, Bool.true_and] at hrec
        by_cases hb : j < b
        · have q2 : (j : Int) < (b : Int) := by omega
          rw [decide_eq_true hb, Bool.true_or] at hrec
          have HRC := hide hrec
          clear hrec hl hf hb hkw ha
          go_wp2
          go_ret
          exact ⟨by rw [← HRC.out]; rfl, by first | exact hbel | exact below_drewN hbel _⟩
        · have q2 : ¬ (j : Int) < (b : Int) := by omega
          rw [decide_eq_false hb, Bool.false_or] at hrec
          have HRC := hide hrec
          clear hrec hl hf hb hkw ha
          go_wp2
          go_roundw
          case rel => exact ⟨k + 1, by omega, by go_num, by first | exact hbel | exact below_drewN hbel _, HRC.out⟩
          case measure => simp [intOf]; omega
      · have q1 := str_no (t := a.word) hf
        simp only [kFby] at q1
        have hl : (lAt ts k == kFby) = false := by rw [beq_eq_false_iff_ne]; exact fun e => hf (hkw.2 e)
        rw [hl, Bool.false_and, Bool.false_or] at hrec
        have HRC := hide hrec
        clear hrec hl hf hkw ha
        go_wp2
        go_roundw
        case rel => exact ⟨k + 1, by omega, by go_num, by first | exact hbel | exact below_drewN hbel _, HRC.out⟩
        case measure => simp [intOf]; omega
    · have e0 : j - k = 0 := by omega
      rw [e0] at hrec
      have HRC := hide hrec
      have z1 : ¬ (k : Int) < (j : Int) := by omega
      clear hrec e0
      go_wp2
      go_ret
      exact ⟨by rw [← HRC.out]; rfl, hbel⟩

end Go.Proofs.Ytmndgoapkmhglab

namespace Go.Proofs.Ytmndgoapkmhglab
open Go.RowKit
attribute [local go_sem ↓] Go.wp_at_zero Go.wp_at_succ

/-- a declaration laid into a box. -/
theorem dec_step (d : RDc) (w : World) {wr : World} (hb : Below (w.alloc (.cells #[.string d.name, .int .i64 (d.tok : Int), .bool d.input, .bool d.truth, .int .i64 (d.place : Int), .int .i64 (d.body : Int)] 115)).heap.size (w.alloc (.cells #[.string d.name, .int .i64 (d.tok : Int), .bool d.input, .bool d.truth, .int .i64 (d.place : Int), .int .i64 (d.body : Int)] 115)) wr) :
    wr.cell? ⟨w.heap.size, 5, none⟩ = some (.int .i64 (d.body : Int)) ∧ wr.cell? ⟨w.heap.size, 4, none⟩ = some (.int .i64 (d.place : Int)) ∧ Below w.heap.size w wr := by
  have hN := (hb.block w.heap.size (by simp)).trans (heap_alloc_new w _)
  refine ⟨?_, ?_, ((Below.refl _ _).alloc (Nat.le_refl _) _).trans (hb.mono (by simp))⟩
  · rw [cell_of_row wr _ 5 _ _ _ hN]; rfl
  · rw [cell_of_row wr _ 4 _ _ _ hN]; rfl

set_option maxHeartbeats 1000000 in
theorem rhangs_any (w : World) (q g cap : Nat) (ts : List Tk) (L : List Dl) (vE vA vI vQ : Value) (h : RProg w q g cap ts L vE vA vI vQ) (ho : ROk ts L) (x : Dl) (hx : x ∈ eqL L) (name : ByteArray) :
    Calls Try.prog 94 #[.pointer (some ⟨q, 0, none⟩), (rdc ts x).val, .string name] w fun e w' => e = .returned (.bool (hangsR ts x name.data.toList)) ∧ Below w.heap.size w w' := by
  have hlen := ho.len
  have hpos := ho.pos
  obtain ⟨gE, capE, rfl, _, hgE⟩ := h.ends.form (by omega)
  obtain ⟨hxm, hxk, hxs, hxl, _⟩ := ho.eq hx
  have hbd : (rdc ts x).body = x.i + 5 := by unfold rdc; rw [if_neg hxk]
  have hbe : behindF ts (x.i + 5) = x.i + 5 + x.t.len := behind_sp ho.F x.t (x.i + 5) hxs (by omega)
  have HR := hide h
  have HO := hide ho
  generalize rdc ts x = d at hbd
  obtain ⟨b, hb⟩ : ∃ b, b = x.i + 5 := ⟨_, rfl⟩
  obtain ⟨e, he⟩ : ∃ e, e = b + x.t.len := ⟨_, rfl⟩
  rw [← hb] at hbe hbd
  rw [← he] at hbe
  have HBE := hide hbe
  have HHG : Hid (((List.range' b (e - b)).any fun j => isNm ts j && (lAt ts j == name.data.toList && !delayedR ts b j)) = hangsR ts x name.data.toList) := hide (by unfold hangsR; rw [← hb, he, Nat.add_sub_cancel_left])
  have hel : e < ts.length := by omega
  have hble : b ≤ e := by omega
  have HB := hide (fun wr hb => dec_step d w (wr := wr) hb)
  rw [hbd] at HB
  clear hbe he hb h ho hxs hxm hxk hx
  obtain ⟨W0, hW0⟩ : ∃ W0, W0 = w.alloc (.cells #[.string d.name, .int .i64 (d.tok : Int), .bool d.input, .bool d.truth, .int .i64 (d.place : Int), .int .i64 (b : Int)] 115) := ⟨_, rfl⟩
  rw [← hW0] at HB
  obtain ⟨t0, _, t2⟩ := HB.out W0 (Below.refl _ _)
  have r0 := end_later HR.out.ends t2 hgE (show b < ts.length by omega)
  have c1 := (HR.out.below t2).c1
  rw [HBE.out] at r0
  have j1 : (0 : Int) ≤ (b : Int) := by omega
  have j2 : (b : Int) < (ts.length : Int) := by omega
  show Calls Try.prog 94 #[.pointer (some ⟨q, 0, none⟩), .agg #[.string d.name, .int .i64 (d.tok : Int), .bool d.input, .bool d.truth, .int .i64 (d.place : Int), .int .i64 (d.body : Int)], .string name] w _
  rw [hbd]
  have HW0 := hide hW0
  clear hbd hW0
  go_enter Try.func94, Try.ntmps94
  go_wp2
  rw [← HW0.out]
  go_loopw [7] (fun f wr => ∃ k : Nat, b ≤ k ∧ k ≤ e ∧ f = .int .i64 k ∧ Below W0.heap.size W0 wr ∧ ((List.range' k (e - k)).any fun j => isNm ts j && (lAt ts j == name.data.toList && !delayedR ts b j)) = hangsR ts x name.data.toList) (fun f _ => e - (intOf f).toNat)
  case atStart => exact ⟨b, Nat.le_refl _, hble, rfl, Below.refl _ _, HHG.out⟩
  case round =>
    clear t0 c1 r0
    obtain ⟨k, hk0, hk, rfl, hbel, hrec⟩ := hrel
    obtain ⟨t0, _, hbw⟩ := HB.out wr hbel
    have hrp := HR.out.below hbw
    have c0 := hrp.c0
    have c1 := hrp.c1
    have r0 := end_later HR.out.ends hbw hgE (show b < ts.length by omega)
    rw [HBE.out] at r0
    by_cases hlt : k < e
    · have j5 : (k : Int) < (e : Int) := by omega
      have j3 : (0 : Int) ≤ (k : Int) := by omega
      have j4 : (k : Int) < (ts.length : Int) := by omega
      rw [any_range _ _ hlt] at hrec
      have HRC := hide hrec
      have HRP := hide hrp
      clear hrec hrp
      go_wp2_with fail
      go_quiet (fail)
      go_wp2_with fail
      have hdr : Below wr.heap.size wr (wr.drewN nq) := below_drewN (Below.refl _ _) _
      refine (rdelayed_any _ q g cap ts L _ _ _ _ (HRP.out.below hdr) HO.out b k hk0 (by omega)).mono ?_
      rintro e1 w2 ⟨rfl, hb2⟩
      have hbx : Below wr.heap.size wr w2 := hdr.trans (hb2.mono hdr.size)
      have hbel2 : Below W0.heap.size W0 w2 := hbel.trans (hbx.mono hbel.size)
      have hbw2 : Below w.heap.size w w2 := hbw.trans (hbx.mono hbw.size)
      clear hdr hb2 hbx hbel hbw c0 c1 r0 t0
      have c0 := (HR.out.below hbw2).c0
      obtain ⟨a, ha⟩ : ∃ a, a = rtok (tkAt ts k) := ⟨_, rfl⟩
      obtain ⟨x0, x1, x2, x3⟩ := HR.out.toks.cells hbw2 (show k < ts.length by omega) a ha
      have hc := c97 (tkAt ts k)
      rw [← ha] at hc
      have hrec := HRC.out
      generalize delayedR ts b k = lt at hrec ⊢
      by_cases hnm : (tkAt ts k).kind = 1
      · have q1 : ((a.c : Int) == 97) = true := by
          rw [show (97 : Int) = ((97 : Nat) : Int) from rfl, beq_cast, hc, hnm]; rfl
        have hw : a.word = (tkAt ts k).text := by rw [ha]; unfold rtok; simp [hnm]
        obtain ⟨ee, qE⟩ : ∃ ee, (a.word.toList == name.toList) = ee := ⟨_, rfl⟩
        have eE : (lAt ts k == name.data.toList) = ee := by
          rw [← qE, ByteArray.toList_eq, ByteArray.toList_eq, hw]; rfl
        rw [eE, show isNm ts k = true by unfold isNm; rw [hnm]; rfl, Bool.true_and] at hrec
        have HRX := hide hrec
        have HB2 := hide (And.intro hbel2 hbw2)
        clear hrec hc hnm ha hw eE HRC
        cases ee
        · have HR2 : Hid (((List.range' (k + 1) (e - (k + 1))).any fun j => isNm ts j && (lAt ts j == name.data.toList && !delayedR ts b j)) = hangsR ts x name.data.toList) := hide (by rw [← HRX.out]; simp)
          clear HRX
          go_wp2
          go_roundw
          case rel => exact ⟨k + 1, by omega, by omega, by go_num, by first | exact HB2.out.1 | exact below_drewN HB2.out.1 _, HR2.out⟩
          case measure => simp [intOf]; omega
        · cases lt
          · have HR2 : Hid (hangsR ts x name.data.toList = true) := hide (by rw [← HRX.out]; simp)
            clear HRX
            go_wp2
            go_ret
            exact ⟨by rw [HR2.out]; rfl, by first | exact HB2.out.2 | exact below_drewN HB2.out.2 _⟩
          · have HR2 : Hid (((List.range' (k + 1) (e - (k + 1))).any fun j => isNm ts j && (lAt ts j == name.data.toList && !delayedR ts b j)) = hangsR ts x name.data.toList) := hide (by rw [← HRX.out]; simp)
            clear HRX
            go_wp2
            go_roundw
            case rel => exact ⟨k + 1, by omega, by omega, by go_num, by first | exact HB2.out.1 | exact below_drewN HB2.out.1 _, HR2.out⟩
            case measure => simp [intOf]; omega
      · have q1 : ((a.c : Int) == 97) = false := by
          rw [show (97 : Int) = ((97 : Nat) : Int) from rfl, beq_cast, hc]; exact beq_eq_false_iff_ne.2 hnm
        have hno : isNm ts k = false := by unfold isNm; exact beq_eq_false_iff_ne.2 hnm
        have HR2 : Hid (((List.range' (k + 1) (e - (k + 1))).any fun j => isNm ts j && (lAt ts j == name.data.toList && !delayedR ts b j)) = hangsR ts x name.data.toList) := hide (by rw [← hrec, hno]; simp)
        have HB2 := hide (And.intro hbel2 hbw2)
        clear hrec hc hnm ha hno HRC
        go_wp2
        go_roundw
        case rel => exact ⟨k + 1, by omega, by omega, by go_num, by first | exact HB2.out.1 | exact below_drewN HB2.out.1 _, HR2.out⟩
        case measure => simp [intOf]; omega
    · have ek : e - k = 0 := by omega
      rw [ek] at hrec
      have HRC := hide hrec
      have z1 : ¬ (k : Int) < (e : Int) := by omega
      have HBW := hide hbw
      clear hrec ek hrp
      go_wp2_with fail
      go_quiet (fail)
      go_wp2
      go_ret
      exact ⟨by rw [← HRC.out]; rfl, below_drewN HBW.out _⟩

end Go.Proofs.Ytmndgoapkmhglab
