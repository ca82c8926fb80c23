import Derived.Test.YtmndgoapkmhglabM33LawN
import Derived.Test.YtmndgoapkmhglabM34GoodT
import Derived.Test.YtmndgoapkmhglabM39RefM
/- Plain mathematics: nothing is ever stuck. -/
namespace Go.Proofs.Ytmndgoapkmhglab

theorem did_app (P Q : PastF) (pl what now : Int) (data : Bool) : didF (P ++ Q) pl what now data = didF P pl what now data + didF Q pl what now data := by
  unfold didF; rw [List.filter_append, List.length_append]
theorem cnt_app (P Q : PastF) (pl what : Int) : cntF (P ++ Q) pl what = cntF P pl what + cntF Q pl what := by
  unfold cntF; rw [List.filter_append, List.length_append]
theorem did_none {S : PastF} {x : Int} (h : ∀ y ∈ S, x < y.2.a) (pl what : Int) : didF S pl what x false = 0 := by
  unfold didF
  rw [List.length_eq_zero_iff, List.filter_eq_nil_iff]
  intro y hy
  have := h y hy
  simp only [Bool.and_eq_true, decide_eq_true_eq, Bool.false_eq_true, if_false]
  omega
theorem taken_none {x : Int} (l : Nat) : ∀ {S : PastF}, (∀ y ∈ S, x < y.2.a) → takenF x l false S = 0 := by
  intro S
  induction S with
  | nil => intro _; rfl
  | cons y S ih =>
    intro h
    have := h y (by simp)
    simp only [takenF]
    rw [if_neg (by simp; omega), ih (fun z hz => h z (List.mem_cons_of_mem _ hz))]
theorem did_mono {P : PastF} {x y : Int} (h : x ≤ y) (pl what : Int) : didF P pl what x false ≤ didF P pl what y false := by
  refine past_ind (p := fun P => didF P pl what x false ≤ didF P pl what y false) (by simp [didF]) (fun P z ih => ?_) P
  rw [didF_snoc, didF_snoc]
  have : (if (isD pl what z && decide (z.2.a + (if false = true then z.1.c else 0) ≤ x)) = true then 1 else 0) ≤ if (isD pl what z && decide (z.2.a + (if false = true then z.1.c else 0) ≤ y)) = true then 1 else 0 := by
    simp only [Bool.false_eq_true, if_false]
    cases isD pl what z with
    | false => simp
    | true =>
      simp only [Bool.true_and, decide_eq_true_eq]
      by_cases h1 : z.2.a + 0 ≤ x
      · rw [if_pos h1, if_pos (by omega)]; exact Nat.le_refl _
      · rw [if_neg h1]; exact Nat.zero_le _
  omega
theorem taken_mono {x y : Int} (h : x ≤ y) (l : Nat) : ∀ (P : PastF), takenF x l false P ≤ takenF y l false P := by
  intro P
  induction P with
  | nil => exact Nat.le_refl _
  | cons z P ih =>
    simp only [takenF, Bool.false_eq_true, if_false]
    by_cases h1 : z.2.a + 0 ≤ x
    · rw [if_pos h1, if_pos (by omega)]; omega
    · rw [if_neg h1]; omega

/-- if all that was taken was taken by a time, it is known soon behind it. -/
theorem known_le {Dm y : Int} (hy : 0 ≤ y + Dm) (l : Nat) : ∀ P : PastF, (∀ x ∈ P, x.1.b ≤ Dm) → tkF l P ≤ takenF y l false P → knownF l P 0 ≤ y + Dm := by
  refine past_ind (fun _ _ => hy) (fun P x ih hb h => ?_)
  have hb' : ∀ z ∈ P, z.1.b ≤ Dm := fun z hz => hb z (List.mem_append_left _ hz)
  rw [tkF_app, takenF_app] at h
  simp only [tkF, takenF, Nat.add_zero, Bool.false_eq_true, if_false, Int.add_zero] at h
  have h1 := taken_le y l false P
  rw [knownF_app]
  simp only [knownF]
  by_cases hm : l ∈ x.2.took
  · have hc : 0 < x.2.took.count l := List.count_pos_iff.2 hm
    rw [if_pos hm]
    by_cases hx : x.2.a ≤ y
    · have := hb x (by simp); omega
    · rw [if_neg hx] at h; omega
  · rw [if_neg hm]
    refine ih hb' ?_
    have hc : x.2.took.count l = 0 := List.count_eq_zero.2 hm
    rw [hc] at h
    split at h <;> omega
theorem comes_le {Dm y : Int} (hy : 0 ≤ y + Dm) (pl : Int) : ∀ P : PastF, (∀ x ∈ P, x.1.c ≤ Dm) → cntF P pl 2 ≤ didF P pl 2 y false → comesF pl P 0 ≤ y + Dm := by
  refine past_ind (fun _ _ => hy) (fun P x ih hb h => ?_)
  have hb' : ∀ z ∈ P, z.1.c ≤ Dm := fun z hz => hb z (List.mem_append_left _ hz)
  rw [cntF_snoc, didF_snoc] at h
  simp only [Bool.false_eq_true, if_false, Int.add_zero] at h
  have h1 := did_le P pl 2 y false
  rw [comesF_app]
  simp only [comesF]
  cases hm : isD pl 2 x with
  | true =>
    rw [if_pos rfl]
    rw [hm] at h
    simp only [Bool.true_and, if_true] at h
    by_cases hx : x.2.a ≤ y
    · have := hb x (by simp); omega
    · rw [if_neg (by simpa using hx)] at h; omega
  | false =>
    rw [if_neg (by simp)]
    rw [hm] at h
    simp at h
    exact ih hb' h

section
variable {N : List LnF} {V : Int → Nat → List Int} {P : PastF} {a : OpF} (hO : PastOk N P a.a) (hI : RunInv N P)
include hO hI

/-- it publishes. -/
theorem go_publish {k : Nat} (h1 : k + 1 ≤ cntF P a.k 1) (h2 : ∀ l, l < N.length → (lnAt N l).src = a.k → k ≤ tkF l P ∧ (tkF l P ≤ k → knownF l P 0 ≤ a.a)) : k + 1 ≤ cntF (P ++ [(a, wakeF N V P a)]) a.k 2 := by
  rw [cnt_next]
  by_cases hd : k + 1 ≤ cntF P a.k 2
  · omega
  · have ht := hI.turn a.k
    have e2 : cntF P a.k 2 = k := by omega
    have e1 : cntF P a.k 1 = k + 1 := by omega
    have hnr : ¬ readyF N P a = true := fun hr => by have := ((ready_iff hO hI).1 hr).1; omega
    have hf : freeF N P a = true := by
      rw [free_iff hO hI]
      refine ⟨by omega, fun l hl hs => ?_⟩
      obtain ⟨g1, g2⟩ := h2 l hl hs
      have := (hI.sent l hl).1
      rw [hs] at this
      have e : tkF l P = k := by omega
      exact ⟨by omega, .inl (g2 (by omega))⟩
    rcases did_cases N V P a with ⟨hr, _⟩ | ⟨_, _, hd⟩ | ⟨_, hf', _⟩
    · exact absurd hr hnr
    · rw [hd, if_pos ⟨rfl, rfl⟩]; omega
    · rw [hf] at hf'; cases hf'

/-- it takes. -/
theorem go_take {m l : Nat} (hl : l < N.length) (hd : (lnAt N l).dst = a.k) (h1 : m ≤ cntF P (lnAt N l).src 2) (h2 : cntF P (lnAt N l).src 2 ≤ m → comesF (lnAt N l).src P 0 ≤ a.a) (h3 : m + lateN N l ≤ cntF P a.k 1 + 1) : m ≤ tkF l P + (if canF N P a l = true then 1 else 0) := by
  by_cases hm : m ≤ tkF l P
  · omega
  · have hs := hI.sent l hl
    have hsl := hI.slot l hl
    rw [hd] at hsl
    have hc : canF N P a l = true := by
      rw [can_iff hO hI hl]
      exact ⟨hd, by omega, h2 (by omega), by omega⟩
    rw [if_pos hc]; omega

/-- it steps. -/
theorem go_step {k : Nat} (h1 : k ≤ cntF P a.k 2) (h2 : ∀ l, l < N.length → (lnAt N l).dst = a.k → k + 1 ≤ tkF l P + (if canF N P a l = true then 1 else 0) + lateN N l) : k + 1 ≤ cntF (P ++ [(a, wakeF N V P a)]) a.k 1 := by
  rw [cnt_next]
  by_cases hd : k + 1 ≤ cntF P a.k 1
  · omega
  · have ht := hI.turn a.k
    have hr : readyF N P a = true := by
      rw [ready_iff hO hI]
      refine ⟨by omega, fun l hl hs => ?_⟩
      have g := h2 l hl hs
      have hsl := hI.slot l hl
      rw [hs] at hsl
      by_cases hc : canF N P a l = true
      · have := ((can_iff hO hI hl).1 hc).2.2.2
        rw [if_pos hc] at g ⊢; omega
      · rw [if_neg hc] at g ⊢; omega
    rcases did_cases N V P a with ⟨_, hd⟩ | ⟨hr', _, _⟩ | ⟨hr', _, _⟩
    · rw [hd, if_pos ⟨rfl, rfl⟩]; omega
    · rw [hr] at hr'; cases hr'
    · rw [hr] at hr'; cases hr'

end

theorem run_app (N : List LnF) (V : Int → Nat → List Int) : ∀ (s t : List OpF) (P : PastF), runG N V P (s ++ t) = runG N V (runG N V P s) t := by
  intro s
  induction s with
  | nil => intro t P; rfl
  | cons a s ih => intro t P; exact ih t _
theorem run_ext (N : List LnF) (V : Int → Nat → List Int) : ∀ (t : List OpF) (P : PastF), ∃ S, runG N V P t = P ++ S ∧ S.map Prod.fst = t ∧ ∀ x ∈ S, x.2.a = x.1.a := by
  intro t
  induction t with
  | nil => intro P; exact ⟨[], by simp [runG], rfl, fun x hx => by simp at hx⟩
  | cons a t ih =>
    intro P
    obtain ⟨S, h1, h2, h3⟩ := ih (P ++ [(a, wakeF N V P a)])
    refine ⟨(a, wakeF N V P a) :: S, ?_, by simp [h2], fun x hx => ?_⟩
    · show runG N V (P ++ [(a, wakeF N V P a)]) t = _
      rw [h1]; simp
    · rcases List.mem_cons.1 hx with rfl | hx
      · rfl
      · exact h3 x hx

/-- an act of a script that is played: what is there ahead of it, and behind it. -/
structure AtAct (N : List LnF) (V : Int → Nat → List Int) (sc : List OpF) (R : PastF) (a : OpF) (P : PastF) : Prop where
  ok : PastOk N P a.a
  inv : RunInv N P
  did0 : ∀ x, x < a.a → ∀ pl what, didF R pl what x false ≤ cntF P pl what
  tk0 : ∀ x, x < a.a → ∀ l, takenF x l false R ≤ tkF l P
  didP : ∀ x, x < a.a → ∀ pl what, didF P pl what x false = didF R pl what x false
  tkP : ∀ x, x < a.a → ∀ l, takenF x l false P = takenF x l false R
  did1 : ∀ pl what, cntF (P ++ [(a, wakeF N V P a)]) pl what ≤ didF R pl what a.a false
  tk1 : ∀ l, l < N.length → tkF l P + (if canF N P a l = true then 1 else 0) ≤ takenF a.a l false R
  mem : ∀ x ∈ P, x.1 ∈ sc

theorem at_act {N : List LnF} (hA : Apart N) (V : Int → Nat → List Int) {sc : List OpF} (hS : ActsOk sc) {a : OpF} (ha : a ∈ sc) : ∃ P, AtAct N V sc (runG N V [] sc) a P := by
  obtain ⟨s, t, rfl⟩ := List.append_of_mem ha
  have hg := List.pairwise_append.1 hS.gap
  have hind := run_ind hA V (p := fun _ => True) (fun _ _ _ _ _ _ => trivial) s [] (fun x hx => hS.nn x (List.mem_append_left _ hx)) (by simpa using hg.1) (fun t _ => past_start N t) (inv_start N) trivial
  obtain ⟨S0, f1, f2, f3⟩ := run_ext N V s []
  rw [List.nil_append] at f1
  have hPm : ∀ x ∈ runG N V [] s, x.1 ∈ s := fun x hx => by rw [← f2, ← f1]; exact List.mem_map.2 ⟨x, hx, rfl⟩
  have hle : ∀ x ∈ runG N V [] s, x.1.a ≤ a.a := fun x hx => (hg.2.2 x.1 (hPm x hx) a (by simp)).1
  obtain ⟨S, e1, e2, e3⟩ := run_ext N V t (runG N V [] s ++ [(a, wakeF N V (runG N V [] s) a)])
  have hR : runG N V [] (s ++ a :: t) = runG N V [] s ++ ([(a, wakeF N V (runG N V [] s) a)] ++ S) := by
    rw [run_app]
    show runG N V (runG N V [] s ++ [(a, wakeF N V (runG N V [] s) a)]) t = _
    rw [e1, List.append_assoc]
  have hlate : ∀ x, x < a.a → ∀ y ∈ [(a, wakeF N V (runG N V [] s) a)] ++ S, x < y.2.a := fun x hx y hy => by
    rcases List.mem_append.1 hy with hy | hy
    · rw [List.mem_singleton] at hy; subst hy; exact hx
    · have hyt : y.1 ∈ t := by rw [← e2]; exact List.mem_map.2 ⟨y, hy, rfl⟩
      have h2 := ((List.pairwise_cons.1 hg.2.1).1 y.1 hyt).1
      rw [e3 y hy]; omega
  have hO := hind.2.2 a.a hle
  refine ⟨runG N V [] s, hO, hind.2.1, ?_, ?_, ?_, ?_, ?_, ?_, ?_⟩
  · intro x hx pl what
    rw [hR, did_app, did_none (hlate x hx)]
    have := did_le (runG N V [] s) pl what x false
    omega
  · intro x hx l
    rw [hR, takenF_app, taken_none l (hlate x hx)]
    have := taken_le x l false (runG N V [] s)
    omega
  · intro x hx pl what
    rw [hR, did_app, did_none (hlate x hx)]; rfl
  · intro x hx l
    rw [hR, takenF_app, taken_none l (hlate x hx)]; rfl
  · intro pl what
    rw [hR, ← List.append_assoc, did_app]
    have h1 : didF (runG N V [] s ++ [(a, wakeF N V (runG N V [] s) a)]) pl what a.a false = cntF (runG N V [] s ++ [(a, wakeF N V (runG N V [] s) a)]) pl what :=
      did_all (past_next hO (fun x hx => hg.2.2 x.1 (hPm x hx) a (by simp))) pl what
    omega
  · intro l hl
    rw [hR, ← List.append_assoc, takenF_app, ← tk_next N V _ a hl]
    have h1 : takenF a.a l false (runG N V [] s ++ [(a, wakeF N V (runG N V [] s) a)]) = tkF l (runG N V [] s ++ [(a, wakeF N V (runG N V [] s) a)]) :=
      taken_all l (past_next hO (fun x hx => hg.2.2 x.1 (hPm x hx) a (by simp)))
    omega
  · intro x hx
    exact List.mem_append_left _ (hPm x hx)

end Go.Proofs.Ytmndgoapkmhglab

/- Plain mathematics: each place makes its step k no later than is told. -/
namespace Go.Proofs.Ytmndgoapkmhglab

/-- at every time: a step has used one value of each link. -/
theorem slot_at {N : List LnF} (hA : Apart N) (V : Int → Nat → List Int) {sc : List OpF} (hS : ActsOk sc) : ∀ (x : Int) (l : Nat), l < N.length → didF (runG N V [] sc) (lnAt N l).dst 1 x false ≤ takenF x l false (runG N V [] sc) + lateN N l := by
  refine (run_ind hA V (p := fun P => ∀ (x : Int) (l : Nat), l < N.length → didF P (lnAt N l).dst 1 x false ≤ takenF x l false P + lateN N l) (fun P a hO hI _ ih x l hl => ?_) sc [] hS.nn (by simpa using hS.gap) (fun t _ => past_start N t) (inv_start N) (fun x l _ => by simp [didF])).1
  rw [did_app, takenF_app]
  by_cases hx : x < a.a
  · have h1 : ∀ y ∈ [(a, wakeF N V P a)], x < y.2.a := fun y hy => by rw [List.mem_singleton] at hy; subst hy; exact hx
    rw [did_none h1, taken_none l h1]
    have := ih x l hl
    omega
  · have hOx := hO.mono (Int.not_lt.1 hx)
    have hn := (inv_next (V := V) hA hO hI).slot l hl
    have h1 : didF [(a, wakeF N V P a)] (lnAt N l).dst 1 x false = cntF [(a, wakeF N V P a)] (lnAt N l).dst 1 := by
      unfold didF cntF
      congr 1
      apply List.filter_congr
      intro y hy
      rw [List.mem_singleton] at hy
      subst hy
      have : decide ((wakeF N V P a).a + (if false = true then a.c else 0) ≤ x) = true := by
        simp only [Bool.false_eq_true, if_false, decide_eq_true_eq]
        show a.a + 0 ≤ x
        omega
      rw [this, Bool.and_true]
    have h2 : takenF x l false [(a, wakeF N V P a)] = tkF l [(a, wakeF N V P a)] := by
      simp only [takenF, tkF]
      rw [if_pos (by simp only [Bool.false_eq_true, if_false]; show a.a + 0 ≤ x; omega)]
    rw [did_all hOx, taken_all l hOx, h1, h2, ← cnt_app, ← tkF_app]
    exact hn.1

/-- a script within bounds, up to a time. -/
structure Bound (N : List LnF) (sc : List OpF) (Q : Int → Prop) (dep : Int → Nat) (Tm Dm h : Int) : Prop where
  ok : ActsOk sc
  dly : ∀ a ∈ sc, a.b ≤ Dm ∧ a.c ≤ Dm
  d0 : 0 ≤ Dm
  t1 : 1 ≤ Tm
  ends : ∀ l, l < N.length → Q (lnAt N l).src ∧ Q (lnAt N l).dst
  first : ∀ q, Q q → Tm ≤ h → ∃ a ∈ sc, a.k = q ∧ a.a ≤ Tm
  act : ∀ q, Q q → ∀ x, 0 ≤ x → x + Tm ≤ h → ∃ a ∈ sc, a.k = q ∧ x < a.a ∧ a.a ≤ x + Tm
  dep : ∀ l, l < N.length → lateN N l = 0 → dep (lnAt N l).src < dep (lnAt N l).dst

/-- what is done by a time, ahead of the steps k. -/
structure Reach (N : List LnF) (R : PastF) (Q : Int → Prop) (dep : Int → Nat) (k : Nat) (u : Int) : Prop where
  pub : ∀ q, Q q → k ≤ didF R q 2 u false
  tak : ∀ l, l < N.length → k ≤ takenF u l false R
  stp : ∀ q, Q q → k ≤ didF R q 1 u false
  low : ∀ q, Q q → dep q = 0 → k + 1 ≤ didF R q 1 u false

section
variable {N : List LnF} (hA : Apart N) (V : Int → Nat → List Int) {sc : List OpF} {Q : Int → Prop} {dep : Int → Nat} {Tm Dm h : Int} (hB : Bound N sc Q dep Tm Dm h)
include hA hB

/-- a place that holds values publishes them, when those ahead are taken. -/
theorem publish_by {k : Nat} {u y : Int} (hu : 0 ≤ u) (huy : u ≤ y) (htk : ∀ l, l < N.length → k ≤ takenF u l false (runG N V [] sc)) {q : Int} (hq : Q q) (hst : k + 1 ≤ didF (runG N V [] sc) q 1 y false) (hh : y + Dm + Tm ≤ h) : k + 1 ≤ didF (runG N V [] sc) q 2 (y + Dm + Tm) false := by
  have hd := hB.d0
  obtain ⟨a, ha, rfl, h1, h2⟩ := hB.act q hq (y + Dm) (by omega) hh
  obtain ⟨P, hP⟩ := at_act hA V hB.ok ha
  have h3 := go_publish (V := V) hP.ok hP.inv (k := k) (Nat.le_trans hst (hP.did0 y (by omega) _ _)) (fun l hl _ => by
    have g1 := htk l hl
    have g2 := hP.tk0 u (by omega) l
    refine ⟨by omega, fun g3 => ?_⟩
    have := known_le (Dm := Dm) (y := u) (by omega) l P (fun x hx => (hB.dly x.1 (hP.mem x hx)).1) (by rw [hP.tkP u (by omega) l]; omega)
    omega)
  exact Nat.le_trans h3 (Nat.le_trans (hP.did1 _ _) (did_mono h2 _ _))

theorem depth_by {k : Nat} {u : Int} (hu : 0 ≤ u) (hR : Reach N (runG N V [] sc) Q dep k u) : ∀ (d : Nat) (q : Int), Q q → dep q ≤ d → u + (d : Int) * (2 * (Tm + Dm)) ≤ h → k + 1 ≤ didF (runG N V [] sc) q 1 (u + (d : Int) * (2 * (Tm + Dm))) false := by
  have hd := hB.d0
  have ht := hB.t1
  intro d
  induction d with
  | zero =>
    intro q hq hdq hh
    have := hR.low q hq (by omega)
    simpa using this
  | succ d ih =>
    intro q hq hdq hh
    have e : ((d + 1 : Nat) : Int) * (2 * (Tm + Dm)) = (d : Int) * (2 * (Tm + Dm)) + 2 * (Tm + Dm) := by
      rw [Int.natCast_add, Int.add_mul]; simp
    rw [e] at hh ⊢
    have hp : 0 ≤ (d : Int) * (2 * (Tm + Dm)) := Int.mul_nonneg (by omega) (by omega)
    generalize (d : Int) * (2 * (Tm + Dm)) = z at *
    obtain ⟨a, ha, rfl, h1, h2⟩ := hB.act q hq (u + z + (Dm + Tm) + Dm) (by omega) (by omega)
    obtain ⟨P, hP⟩ := at_act hA V hB.ok ha
    have key := go_step (V := V) hP.ok hP.inv (k := k) (Nat.le_trans (hR.pub _ hq) (hP.did0 u (by omega) _ _)) (fun l hl hdst => by
      have g1 := hR.tak l hl
      have g2 := hP.tk0 u (by omega) l
      by_cases hlt : lateN N l = 0
      · have hdp := hB.dep l hl hlt
        rw [hdst] at hdp
        have hqs := (hB.ends l hl).1
        have s1 := ih _ hqs (by omega) (by omega)
        have s2 := publish_by hA V hB hu (show u ≤ u + z by omega) hR.tak hqs s1 (by omega)
        rw [show u + z + Dm + Tm = u + z + (Dm + Tm) by omega] at s2
        have s3 := go_take hP.ok hP.inv (m := k + 1) hl hdst (Nat.le_trans s2 (hP.did0 _ (by omega) _ _)) (fun g3 => by
          have := comes_le (Dm := Dm) (y := u + z + (Dm + Tm)) (by omega) (lnAt N l).src P (fun x hx => (hB.dly x.1 (hP.mem x hx)).2) (by rw [hP.didP _ (by omega)]; omega)
          omega) (by have := Nat.le_trans (hR.stp _ hq) (hP.did0 u (by omega) _ 1); omega)
        omega
      · have := lateN_le N l
        omega)
    exact Nat.le_trans key (Nat.le_trans (hP.did1 _ _) (did_mono (by omega) _ _))

/-- from the steps k to what is done ahead of the steps k + 1. -/
theorem reach_next {k : Nat} {t : Int} (ht0 : 0 ≤ t) (hst : ∀ q, Q q → k + 1 ≤ didF (runG N V [] sc) q 1 t false) (hh : t + 2 * (Tm + Dm) ≤ h) : Reach N (runG N V [] sc) Q dep (k + 1) (t + 2 * (Tm + Dm)) := by
  have hd := hB.d0
  have ht := hB.t1
  have hslot := slot_at hA V hB.ok
  have tk0 : ∀ l, l < N.length → k ≤ takenF t l false (runG N V [] sc) := fun l hl => by
    have h1 := hslot t l hl
    have h2 := hst _ (hB.ends l hl).2
    have := lateN_le N l
    omega
  have pub : ∀ q, Q q → k + 1 ≤ didF (runG N V [] sc) q 2 (t + Dm + Tm) false := fun q hq => publish_by hA V hB ht0 (Int.le_refl _) tk0 hq (hst q hq) (by omega)
  -- an act at which what was published is there
  have take : ∀ q, Q q → ∃ (a : OpF) (P : PastF), a.k = q ∧ a.a ≤ t + 2 * (Tm + Dm) ∧ AtAct N V sc (runG N V [] sc) a P ∧ k + 1 ≤ cntF P a.k 2 ∧ ∀ l, l < N.length → (lnAt N l).dst = a.k → k + 1 ≤ tkF l P + (if canF N P a l = true then 1 else 0) := fun q hq => by
    obtain ⟨a, ha, rfl, h1, h2⟩ := hB.act q hq (t + Dm + Tm + Dm) (by omega) (by omega)
    obtain ⟨P, hP⟩ := at_act hA V hB.ok ha
    refine ⟨a, P, rfl, by omega, hP, Nat.le_trans (pub _ hq) (hP.did0 _ (by omega) _ _), fun l hl hdst => ?_⟩
    by_cases hlt : lateN N l = 0
    · have g1 := hslot t l hl
      have g2 := hst _ (hB.ends l hl).2
      have g3 := hP.tk0 t (by omega) l
      omega
    · have hl1 : lateN N l = 1 := by have := lateN_le N l; omega
      have hqs := (hB.ends l hl).1
      exact go_take hP.ok hP.inv (m := k + 1) hl hdst (Nat.le_trans (pub _ hqs) (hP.did0 _ (by omega) _ _)) (fun g3 => by
        have g4 := pub _ hqs
        have := comes_le (Dm := Dm) (y := t + Dm + Tm) (by omega) (lnAt N l).src P (fun x hx => (hB.dly x.1 (hP.mem x hx)).2) (by rw [hP.didP _ (by omega)]; omega)
        omega) (by have := Nat.le_trans (hst _ hq) (hP.did0 t (by omega) _ 1); omega)
  refine ⟨fun q hq => Nat.le_trans (pub q hq) (did_mono (by omega) _ _), fun l hl => ?_, fun q hq => Nat.le_trans (hst q hq) (did_mono (by omega) _ _), fun q hq h0 => ?_⟩
  · obtain ⟨a, P, e, h2, hP, _, h4⟩ := take _ (hB.ends l hl).2
    exact Nat.le_trans (h4 l hl e.symm) (Nat.le_trans (hP.tk1 l hl) (taken_mono h2 l _))
  · obtain ⟨a, P, rfl, h2, hP, h3, h4⟩ := take q hq
    have key := go_step (V := V) hP.ok hP.inv (k := k + 1) h3 (fun l hl hdst => by
      have g1 := h4 l hl hdst
      by_cases hlt : lateN N l = 0
      · have := hB.dep l hl hlt
        rw [hdst] at this
        omega
      · have := lateN_le N l
        omega)
    exact Nat.le_trans key (Nat.le_trans (hP.did1 _ _) (did_mono h2 _ _))

theorem reach_zero (hh : Tm ≤ h) : Reach N (runG N V [] sc) Q dep 0 Tm := by
  refine ⟨fun _ _ => Nat.zero_le _, fun _ _ => Nat.zero_le _, fun _ _ => Nat.zero_le _, fun q hq h0 => ?_⟩
  obtain ⟨a, ha, rfl, h1⟩ := hB.first q hq hh
  obtain ⟨P, hP⟩ := at_act hA V hB.ok ha
  have key := go_step (V := V) hP.ok hP.inv (k := 0) (Nat.zero_le _) (fun l hl hdst => by
    by_cases hlt : lateN N l = 0
    · have := hB.dep l hl hlt
      rw [hdst] at this
      omega
    · omega)
  exact Nat.le_trans key (Nat.le_trans (hP.did1 _ _) (did_mono h1 _ _))

/-- the time by which all is done ahead of the steps k. -/
def reachT (Tm Dm : Int) (D : Nat) : Nat → Int
  | 0 => Tm
  | k + 1 => reachT Tm Dm D k + (D : Int) * (2 * (Tm + Dm)) + 2 * (Tm + Dm)

omit hA hB in
theorem reachT_nn {Tm Dm : Int} (ht : 1 ≤ Tm) (hd : 0 ≤ Dm) (D : Nat) : ∀ k, 0 ≤ reachT Tm Dm D k := by
  intro k
  induction k with
  | zero => show 0 ≤ Tm; omega
  | succ k ih =>
    show 0 ≤ reachT Tm Dm D k + (D : Int) * (2 * (Tm + Dm)) + 2 * (Tm + Dm)
    have : 0 ≤ (D : Int) * (2 * (Tm + Dm)) := Int.mul_nonneg (by omega) (by omega)
    omega

/-- NOTHING IS EVER STUCK: each place makes its step k by then. -/
theorem steps_by {D : Nat} (hD : ∀ q, Q q → dep q ≤ D) : ∀ k, (reachT Tm Dm D k ≤ h → Reach N (runG N V [] sc) Q dep k (reachT Tm Dm D k)) ∧ (reachT Tm Dm D k + (D : Int) * (2 * (Tm + Dm)) ≤ h → ∀ q, Q q → k + 1 ≤ didF (runG N V [] sc) q 1 (reachT Tm Dm D k + (D : Int) * (2 * (Tm + Dm))) false) := by
  have hd := hB.d0
  have ht := hB.t1
  have hz : 0 ≤ (D : Int) * (2 * (Tm + Dm)) := Int.mul_nonneg (by omega) (by omega)
  intro k
  induction k with
  | zero =>
    have h0 := reach_zero hA V hB
    refine ⟨h0, fun hh q hq => ?_⟩
    exact depth_by hA V hB (by show 0 ≤ Tm; omega) (h0 (by show Tm ≤ h; have : reachT Tm Dm D 0 = Tm := rfl; omega)) D q hq (hD q hq) hh
  | succ k ih =>
    have hn := reachT_nn ht hd D k
    have hr : reachT Tm Dm D (k + 1) ≤ h → Reach N (runG N V [] sc) Q dep (k + 1) (reachT Tm Dm D (k + 1)) := fun hh => by
      have e : reachT Tm Dm D (k + 1) = reachT Tm Dm D k + (D : Int) * (2 * (Tm + Dm)) + 2 * (Tm + Dm) := rfl
      rw [e] at hh ⊢
      exact reach_next hA V hB (by omega) (ih.2 (by omega)) hh
    refine ⟨hr, fun hh q hq => ?_⟩
    exact depth_by hA V hB (reachT_nn ht hd D (k + 1)) (hr (by omega)) D q hq (hD q hq) hh

omit hA hB in
theorem reachT_eq (Tm Dm : Int) (D k : Nat) : reachT Tm Dm D k = Tm + (k : Int) * (((D : Int) + 1) * (2 * (Tm + Dm))) := by
  induction k with
  | zero => show Tm = _; simp
  | succ k ih =>
    show reachT Tm Dm D k + (D : Int) * (2 * (Tm + Dm)) + 2 * (Tm + Dm) = _
    have e : ((D : Int) + 1) * (2 * (Tm + Dm)) = (D : Int) * (2 * (Tm + Dm)) + 2 * (Tm + Dm) := by rw [Int.add_mul, Int.one_mul]
    rw [ih, e]
    generalize (D : Int) * (2 * (Tm + Dm)) = A
    generalize 2 * (Tm + Dm) = B
    have e2 : ((k + 1 : Nat) : Int) * (A + B) = (k : Int) * (A + B) + (A + B) := by rw [Int.natCast_add, Int.add_mul]; simp
    rw [e2]
    omega

end

end Go.Proofs.Ytmndgoapkmhglab

/- Plain mathematics: a right text as the program holds it: what its nodes mean, and what hangs on what. -/
namespace Go.Proofs.Ytmndgoapkmhglab

def dlAt (ns : List Nd) (j : Nat) : Bool := ((ns[j]?).map Nd.delayed).getD false

/-- what the nodes of a program mean. -/
structure Meant (ds : List Dc) (ns : List Nd) (ins : List (List Int)) (NV : Nat → Nat → Int) : Prop where
  cover : ∀ i, i < ns.length → ∃ (a : Nat) (d : Dc), ds[a]? = some d ∧ d.kind ≠ 0 ∧ d.root ≤ i ∧ i < d.fin
  val : ∀ (i : Nat) (n : Nd), ns[i]? = some n → ∀ k, NV k i = valF ds ins n k (NV k) (NV (k - 1))
  kids : ∀ (a : Nat) (d : Dc), ds[a]? = some d → d.kind ≠ 0 → ∀ (i : Nat) (n : Nd), ns[i]? = some n → d.root ≤ i → i < d.fin → ∀ c ∈ needs n, i < c ∧ c < d.fin ∧ dlAt ns c = n.delayed
  root : ∀ (a : Nat) (d : Dc), ds[a]? = some d → d.kind ≠ 0 → d.root < ns.length ∧ dlAt ns d.root = false
  segs : ∀ (a : Nat) (d : Dc), ds[a]? = some d → d.kind ≠ 0 → d.root < d.fin ∧ d.fin ≤ ns.length
  decl : ∀ n ∈ ns, n.kind = 2 → 0 ≤ n.decl ∧ n.decl < (ds.length : Int)
  hang : ∀ (a : Nat) (d : Dc), ds[a]? = some d → d.kind ≠ 0 → ∀ (i : Nat) (n : Nd), ns[i]? = some n → d.root ≤ i → i < d.fin → n.kind = 2 → n.delayed = false → kindAt ds n.decl ≠ 0 → markAll ds ns 0 ds noM a n.decl.toNat = true

/-- no circle. -/
structure Ranked (ds : List Dc) (H : Mx) (rank : Nat → Nat) : Prop where
  less : ∀ a b, H a b = true → rank b < rank a ∧ ∃ d, ds[b]? = some d ∧ d.kind ≠ 0
  lt : ∀ (a : Nat) (d : Dc), ds[a]? = some d → d.kind ≠ 0 → rank a < ds.length

/-- an order in which the equations can be worked out. -/
structure OrdOk (ds : List Dc) (H : Mx) (T : List Nat) : Prop where
  eqn : ∀ t ∈ T, ∃ d, ds[t]? = some d ∧ d.kind ≠ 0
  topo : ∀ (j t : Nat), T[j]? = some t → ∀ b, H t b = true → b ∈ T.take j
  all : ∀ (a : Nat) (d : Dc), ds[a]? = some d → d.kind ≠ 0 → a ∈ T
  len : T.length ≤ 300

def valsD (ts : List Tk) (V : List UInt8 → Nat → Int) (k : Nat) : List Dl → List Int
  | [] => []
  | x :: r => if x.kind = 0 then valsD ts V k r else flatV ts V k x.t (x.i + 5) ++ valsD ts V k r

structure DY (ts : List Tk) (f : Nd → Nd) (ns : List Nd) (V : List UInt8 → Nat → Int) (VL : Nat → List Int) (d : Dc) (x : Dl) : Prop where
  kind : d.kind = x.kind
  name : d.name = nameD ts x
  zero : x.kind = 0 → d.root = 0 ∧ d.fin = 0
  fin : x.kind ≠ 0 → d.fin = d.root + x.t.size
  nodes : x.kind ≠ 0 → AllAt (fun j n => ns[j]? = some (f n)) d.root (flat ts x.t (x.i + 5) 0 d.root)
  vals : x.kind ≠ 0 → ∀ k, AllAt (fun j v => (VL k).getD j 0 = v) d.root (flatV ts V k x.t (x.i + 5))

theorem allAt_mid {α : Type} (A l B : List α) : AllAt (fun j x => (A ++ (l ++ B))[j]? = some x) A.length l := by
  rw [allAt_get]
  intro m x hm
  have h := (List.getElem?_eq_some_iff.1 hm).1
  rw [List.getElem?_append_right (by omega), Nat.add_sub_cancel_left, List.getElem?_append_left h]
  exact hm

theorem allAt_map {α β : Type} {P : Nat → β → Prop} (f : α → β) : ∀ (l : List α) (o : Nat), AllAt P o (l.map f) → AllAt (fun j x => P j (f x)) o l := by
  intro l
  induction l with
  | nil => intro o _; trivial
  | cons x l ih => intro o h; exact ⟨h.1, ih _ h.2⟩

theorem dy_all (ts : List Tk) (f : Nd → Nd) (V : List UInt8 → Nat → Int) : ∀ (L : List Dl) (off a b : Nat) (N1 : List Nd) (W1 : Nat → List Int), N1.length = off → (∀ k, (W1 k).length = off) →
    All2 (DY ts f (N1 ++ (nodesD ts L off).map f) V (fun k => W1 k ++ valsD ts V k L)) (declsD ts L off a b) L := by
  intro L
  induction L with
  | nil => intro off a b N1 W1 _ _; trivial
  | cons x r ih =>
    intro off a b N1 W1 hN hW
    simp only [declsD, nodesD, valsD]
    by_cases hk : x.kind = 0
    · simp only [if_pos hk]
      exact ⟨⟨hk.symm, rfl, fun _ => ⟨rfl, rfl⟩, fun h => absurd hk h, fun h => absurd hk h, fun h => absurd hk h⟩, ih off (a + 1) b N1 W1 hN hW⟩
    · simp only [if_neg hk]
      refine ⟨⟨rfl, rfl, fun h => absurd h hk, fun _ => rfl, fun _ => ?_, fun _ k => ?_⟩, ?_⟩
      · rw [List.map_append]
        show AllAt _ off _
        rw [← hN]
        exact allAt_map f _ _ (allAt_mid N1 _ _)
      · show AllAt _ off _
        rw [← hW k]
        refine AllAt.mono (fun j v h => ?_) _ _ (allAt_mid (W1 k) (flatV ts V k x.t (x.i + 5)) (valsD ts V k r))
        rw [List.getD_eq_getElem?_getD, h]; rfl
      · have := ih (off + x.t.size) a (b + 1) (N1 ++ (flat ts x.t (x.i + 5) 0 off).map f) (fun k => W1 k ++ flatV ts V k x.t (x.i + 5)) (by simp [flat_len, hN]) (fun k => by simp [flatV_len, hW k])
        rw [List.append_assoc, ← List.map_append] at this
        simpa only [List.append_assoc] using this

theorem decls_num (ts : List Tk) : ∀ (L : List Dl) (off a b k : Nat) (d : Dc) (x : Dl), (declsD ts L off a b)[k]? = some d → L[k]? = some x →
    (x.kind = 0 → ∃ m, d.number = a + m ∧ (inL L)[m]? = some x) ∧ (x.kind ≠ 0 → ∃ m, d.number = b + m ∧ (eqL L)[m]? = some x) := by
  intro L
  induction L with
  | nil => intro off a b k d x _ h; simp at h
  | cons y r ih =>
    intro off a b k d x h1 h2
    simp only [declsD] at h1
    by_cases hy : y.kind = 0
    · rw [if_pos hy] at h1
      have e1 : inL (y :: r) = y :: inL r := by simp [inL, hy]
      have e2 : eqL (y :: r) = eqL r := by simp [eqL, hy]
      rw [e1, e2]
      cases k with
      | zero =>
        simp only [List.getElem?_cons_zero, Option.some.injEq] at h1 h2
        subst h1 h2
        exact ⟨fun _ => ⟨0, rfl, rfl⟩, fun h => absurd hy h⟩
      | succ k =>
        rw [List.getElem?_cons_succ] at h1 h2
        obtain ⟨g1, g2⟩ := ih _ _ _ k d x h1 h2
        refine ⟨fun h => ?_, g2⟩
        obtain ⟨m, hm, hg⟩ := g1 h
        exact ⟨m + 1, by omega, by rw [List.getElem?_cons_succ]; exact hg⟩
    · rw [if_neg hy] at h1
      have e1 : inL (y :: r) = inL r := by simp [inL, hy]
      have e2 : eqL (y :: r) = y :: eqL r := by simp [eqL, hy]
      rw [e1, e2]
      cases k with
      | zero =>
        simp only [List.getElem?_cons_zero, Option.some.injEq] at h1 h2
        subst h1 h2
        exact ⟨fun h => absurd h hy, fun _ => ⟨0, rfl, rfl⟩⟩
      | succ k =>
        rw [List.getElem?_cons_succ] at h1 h2
        obtain ⟨g1, g2⟩ := ih _ _ _ k d x h1 h2
        refine ⟨g1, fun h => ?_⟩
        obtain ⟨m, hm, hg⟩ := g2 h
        exact ⟨m + 1, by omega, by rw [List.getElem?_cons_succ]; exact hg⟩

theorem Right.one {ts : List Tk} {L : List Dl} (H : Right ts L) {a b : Nat} {x y : Dl} (hx : L[a]? = some x) (hy : L[b]? = some y) (he : (nameD ts x).data.toList = (nameD ts y).data.toList) : a = b := by
  have hi := H.own x (List.mem_of_getElem? hx) y (List.mem_of_getElem? hy) he
  obtain ⟨h1, rfl⟩ := List.getElem?_eq_some_iff.1 hx
  obtain ⟨h2, rfl⟩ := List.getElem?_eq_some_iff.1 hy
  have hp := H.pw
  rw [List.pairwise_iff_getElem] at hp
  rcases Nat.lt_trichotomy a b with h | h | h
  · have := hp a b h1 h2 h; have := L[a].len_pos; omega
  · exact h
  · have := hp b a h2 h1 h; have := L[b].len_pos; omega
theorem Right.sameIn {ts : List Tk} {L : List Dl} (H : Right ts L) {i j : Nat} {x y : Dl} (hx : (inL L)[i]? = some x) (hy : (inL L)[j]? = some y) (he : (nameD ts x).data.toList = (nameD ts y).data.toList) : i = j := by
  have mx : x ∈ L := (List.mem_filter.1 (List.mem_of_getElem? hx)).1
  have my : y ∈ L := (List.mem_filter.1 (List.mem_of_getElem? hy)).1
  have hi := H.own x mx y my he
  obtain ⟨h1, rfl⟩ := List.getElem?_eq_some_iff.1 hx
  obtain ⟨h2, rfl⟩ := List.getElem?_eq_some_iff.1 hy
  have hp : (inL L).Pairwise (fun x y => x.i + x.len ≤ y.i) := H.pw.filter _
  rw [List.pairwise_iff_getElem] at hp
  rcases Nat.lt_trichotomy i j with h | h | h
  · have := hp i j h1 h2 h; have := (inL L)[i].len_pos; omega
  · exact h
  · have := hp j i h2 h1 h; have := (inL L)[j].len_pos; omega

/-- what a name finds. -/
theorem val_in {ts : List Tk} {L : List Dl} (H : Right ts L) {ins : List (List Int)} {R : Nat → Nat → Int} {m : Nat} {x : Dl} (hx : (inL L)[m]? = some x) (n : Nat) : valV ts L ins R (nameD ts x).data.toList n = elemF ins m n := by
  obtain ⟨j, hj⟩ := ix_some (p := nmIs ts (nameD ts x).data.toList) (List.mem_of_getElem? hx) (by unfold nmIs; simp)
  have hj' : inIx ts L (nameD ts x).data.toList = some j := hj
  obtain ⟨g1, g2, _⟩ := List.findIdx?_eq_some_iff_getElem.1 hj
  have := H.sameIn (List.getElem?_eq_getElem g1) hx (by simpa [nmIs] using g2)
  subst this
  unfold valV
  rw [hj']
theorem val_eq {ts : List Tk} {L : List Dl} (H : Right ts L) {ins : List (List Int)} {R : Nat → Nat → Int} {m : Nat} {x : Dl} (hx : (eqL L)[m]? = some x) (n : Nat) : valV ts L ins R (nameD ts x).data.toList n = R m n := by
  obtain ⟨j, hj⟩ := ix_some (p := nmIs ts (nameD ts x).data.toList) (List.mem_of_getElem? hx) (by unfold nmIs; simp)
  have hj' : eqIx ts L (nameD ts x).data.toList = some j := hj
  obtain ⟨z, hz, hn⟩ := eqIx_some hj'
  have := H.same hz hx hn
  subst this
  have hi : inIx ts L (nameD ts x).data.toList = none := by
    cases hi : inIx ts L (nameD ts x).data.toList with
    | none => rfl
    | some i =>
      exfalso
      obtain ⟨g1, g2, _⟩ := List.findIdx?_eq_some_iff_getElem.1 hi
      have g3 : (nameD ts (inL L)[i]).data.toList = (nameD ts x).data.toList := by simpa [nmIs] using g2
      have m1 := List.mem_filter.1 (List.getElem_mem g1)
      have m2 := List.mem_filter.1 (List.mem_of_getElem? hx)
      obtain ⟨a, ha, ea⟩ := List.getElem_of_mem m1.1
      obtain ⟨b, hb, eb⟩ := List.getElem_of_mem m2.1
      have hab := H.one (List.getElem?_eq_getElem ha) (List.getElem?_eq_getElem hb) (by rw [ea, eb]; exact g3)
      subst hab
      rw [ea] at eb
      have k1 : (inL L)[i].kind = 0 := by simpa using m1.2
      have k2 : x.kind ≠ 0 := by simpa using m2.2
      exact k2 (by rw [← eb]; exact k1)
  unfold valV
  rw [hi, hj']

/-- what both readers' parts are to each other, of a right text. -/
structure Both2 (ts : List Tk) (L : List Dl) (ds : List Dc) (ns : List Nd) : Prop where
  N : NamesOk ts L ds
  sp : ∀ x ∈ L, x.kind ≠ 0 → Sp ts x.t (x.i + 5) ∧ x.i + 5 + x.t.len ≤ ts.length
  decl : ∀ x ∈ L, x.kind ≠ 0 → ∀ y ∈ nmD ts x.t (x.i + 5) false, 0 ≤ findF ds (tkAt ts y.1).text
  dx : All2 (DX ts (bindF ds) ns) ds L

theorem both2 {ts : List Tk} (hF : ∀ i, TkF (tkAt ts i)) (hE : ∀ i, (tkAt ts i).kind = 0 → ts.length ≤ i + 1) (L : List Dl) (hL : Spell ts L 0) (hn : namesR ts L = none) :
    Both2 ts L (declsD ts L 0 0 0) ((nodesD ts L 0).map (bindF (declsD ts L 0 0 0))) := by
  obtain ⟨ds, hds⟩ : ∃ ds, ds = declsD ts L 0 0 0 := ⟨_, rfl⟩
  obtain ⟨ns, hns⟩ : ∃ ns, ns = (nodesD ts L 0).map (bindF ds) := ⟨_, rfl⟩
  rw [← hds, ← hns]
  have hnm : ds.map Dc.name = L.map (nameD ts) := by rw [hds]; exact declsD_names ts L 0 0 0
  have hnames : badNameF ds ns 0 ds = namesR ts L := by
    have := names_eq hF hE L hL ds hnm L [] 0 0 0 0 [] [] rfl hL (by omega) (by rw [List.nil_append]; exact hds) rfl rfl
    rw [List.nil_append, ← hns, ← hds] at this
    exact this
  have hdx : All2 (DX ts (bindF ds) ns) ds L := by
    have := dx_all ts (bindF ds) L 0 0 0 [] rfl
    rw [List.nil_append, ← hns, ← hds] at this
    exact this
  rw [hn] at hnames
  have hN : NamesOk ts L ds := ⟨fun j hj => by have := badName_own ds 0 hnames j hj; rw [this, Nat.zero_add], dx_two hdx⟩
  have hsp : ∀ x ∈ L, x.kind ≠ 0 → Sp ts x.t (x.i + 5) ∧ x.i + 5 + x.t.len ≤ ts.length := by
    intro x hx hk
    obtain ⟨_, h2, h3⟩ := spell_mem _ _ hL x hx
    have hlen : x.len = x.t.len + 6 := by unfold Dl.len; rw [if_neg hk]
    refine ⟨?_, by omega⟩
    rcases h3 with ⟨h, _⟩ | ⟨_, _, _, _, _, h, _⟩
    · exact absurd h hk
    · exact h
  refine ⟨hN, hsp, ?_, hdx⟩
  intro x hx hk y hy
  obtain ⟨k, hk2, rfl⟩ := List.getElem_of_mem hx
  rcases hdx.getOpt k with ⟨_, h2⟩ | ⟨d, z, h1, h2, h3⟩
  · rw [List.getElem?_eq_getElem hk2] at h2; cases h2
  · rw [List.getElem?_eq_getElem hk2] at h2
    cases h2
    have hnone := badName_none ds 0 hnames d (List.mem_of_getElem? h1)
    obtain ⟨o, ho⟩ := h3.some hk
    have hmem : bindF ds (nmNd ts y) ∈ seg ns d.root d.fin := by
      rw [ho]
      have : bindF ds (nmNd ts y) ∈ (((flat ts (L[k]'hk2).t ((L[k]'hk2).i + 5) 0 o).map (bindF ds)).filter fun n => n.kind == 2) := by
        rw [bind_filter, flat_names hF _ _ _ _ (hsp _ hx hk).1]
        exact List.mem_map.2 ⟨_, List.mem_map.2 ⟨y, hy, rfl⟩, rfl⟩
      exact (List.mem_filter.1 this).1
    have := badNode_none _ hnone _ hmem (by rw [bind_nm]; rfl)
    rw [bind_nm] at this
    exact this

theorem seg_get {ns : List Nd} {a b i : Nat} (h1 : a ≤ i) (h2 : i < b) : (seg ns a b)[i - a]? = ns[i]? := by
  unfold seg
  rw [List.getElem?_take, if_pos (by omega), List.getElem?_drop, Nat.add_sub_cancel' h1]

theorem mark_of {ds : List Dc} {ns : List Nd} {a i : Nat} {d : Dc} {n : Nd} (hd : ds[a]? = some d) (hn : ns[i]? = some n) (h1 : d.root ≤ i) (h2 : i < d.fin) (hk : n.kind = 2) (hl : n.delayed = false) (hq : kindAt ds n.decl ≠ 0) : markAll ds ns 0 ds noM a n.decl.toNat = true := by
  rw [markAll_eq, Nat.sub_zero, hd, Option.any_some]
  have : ((seg ns d.root d.fin).any fun m => m.kind == 2 && (!m.delayed && (kindAt ds m.decl != 0 && m.decl.toNat == n.decl.toNat))) = true := by
    rw [List.any_eq_true]
    refine ⟨n, List.mem_of_getElem? ((seg_get h1 h2).trans hn), ?_⟩
    simp [hk, hl, hq]
  rw [this]; simp

theorem ranked_of {ts : List Tk} {L : List Dl} (H : Right ts L) {ds : List Dc} {ns : List Nd} (hB : Both2 ts L ds ns) : Ranked ds (markAll ds ns 0 ds noM) (fun a => rk ts L (cntE L a)) := by
  have hisE : ∀ (a : Nat) (d : Dc), ds[a]? = some d → d.kind ≠ 0 → isE L a = true := fun a d hd hk => by
    rcases hB.dx.getOpt a with ⟨h1, _⟩ | ⟨d', x, h1, h2, h3⟩
    · rw [h1] at hd; cases hd
    · rw [hd] at h1; cases h1
      unfold isE; rw [h2]; simp [← h3.kind, hk]
  have hlt : ∀ a, isE L a = true → cntE L a < (eqL L).length := fun a ha => by
    have h1 := cntE_get L a ha
    cases h2 : L[a]? with
    | none => unfold isE at ha; rw [h2] at ha; simp at ha
    | some x => rw [h2] at h1; exact (List.getElem?_eq_some_iff.1 h1).1
  constructor
  · intro a b h
    have ha : isE L a = true := by
      cases ha : isE L a with
      | true => rfl
      | false => rw [mark_none hB.dx a b ha] at h; cases h
    have hb : ∃ d, ds[b]? = some d ∧ d.kind ≠ 0 := by
      rw [markAll_eq, Nat.sub_zero] at h
      simp only [noM, Bool.false_or, Bool.and_eq_true] at h
      cases hd : ds[a]? with
      | none => rw [hd] at h; simp at h
      | some d =>
        rw [hd, Option.any_some, List.any_eq_true] at h
        obtain ⟨n, _, hn⟩ := h.2
        simp only [Bool.and_eq_true, bne_iff_ne, beq_iff_eq] at hn
        obtain ⟨_, _, h3, h4⟩ := hn
        unfold kindAt at h3
        rw [h4, List.getD_eq_getElem?_getD] at h3
        cases hb : ds[b]? with
        | none => rw [hb] at h3; exact absurd rfl h3
        | some e => rw [hb] at h3; exact ⟨e, rfl, h3⟩
    obtain ⟨d, hd, hk⟩ := hb
    refine ⟨?_, d, hd, hk⟩
    have hb := hisE b d hd hk
    rw [mark_rel H.F hB.N hB.sp hB.decl hB.dx a b ha hb] at h
    exact rk_less H.cyc (hlt b hb) h
  · intro a d hd hk
    have h1 := hlt a (hisE a d hd hk)
    have h2 := rk_lt H.cyc h1
    have h3 : (eqL L).length ≤ L.length := List.length_filter_le _ _
    have h4 : L.length = ds.length := hB.dx.len
    show rk ts L (cntE L a) < ds.length
    omega

set_option maxHeartbeats 1000000 in
theorem meant_of {ts : List Tk} {L : List Dl} (H : Right ts L) (hT : typesR ts L = none) (ins : List (List Int)) {ds : List Dc} {ns : List Nd} (hds : ds = declsD ts L 0 0 0) (hns : ns = (nodesD ts L 0).map (bindF ds)) (hB : Both2 ts L ds ns)
    (hcov : ∀ i, i < ns.length → ∃ d ∈ ds, d.root ≤ i ∧ i < d.fin) (hsg : ∀ d ∈ ds, (d.root = 0 ∧ d.fin = 0 ∧ d.kind = 0) ∨ (d.root < d.fin ∧ d.fin ≤ ns.length)) (hdr : ∀ n ∈ ns, n.kind = 2 → 0 ≤ n.decl ∧ n.decl < (ds.length : Int)) :
    ∃ NV, Meant ds ns ins NV ∧ ∀ (j : Nat) (d : Dc) (k : Nat), (eqsF ds)[j]? = some d → NV k d.root = sol ts L ins j k := by
  have hY := dy_all ts (bindF ds) (valV ts L ins (sol ts L ins)) L 0 0 0 [] (fun _ => []) rfl (fun _ => rfl)
  simp only [List.nil_append] at hY
  rw [← hds, ← hns] at hY
  have hat : ∀ (a : Nat) (d : Dc), ds[a]? = some d → ∃ x, L[a]? = some x ∧ DY ts (bindF ds) ns (valV ts L ins (sol ts L ins)) (fun k => valsD ts (valV ts L ins (sol ts L ins)) k L) d x := fun a d hd => by
    rcases hY.getOpt a with ⟨h1, _⟩ | ⟨d', x, h1, h2, h3⟩
    · rw [h1] at hd; cases hd
    · rw [hd] at h1; cases h1; exact ⟨x, h2, h3⟩
  have hnum : ∀ (a : Nat) (d : Dc) (x : Dl), ds[a]? = some d → L[a]? = some x → (x.kind = 0 → ∃ m, d.number = m ∧ (inL L)[m]? = some x) ∧ (x.kind ≠ 0 → ∃ m, d.number = m ∧ (eqL L)[m]? = some x) := fun a d x h1 h2 => by
    rw [hds] at h1
    have := decls_num ts L 0 0 0 a d x h1 h2
    simpa only [Nat.zero_add] using this
  have hmemE : ∀ (a : Nat) (x : Dl), L[a]? = some x → x.kind ≠ 0 → x ∈ eqL L := fun a x hx hk => List.mem_filter.2 ⟨List.mem_of_getElem? hx, by simpa using hk⟩
  -- the value at the root of an equation
  have hroot : ∀ (a : Nat) (d : Dc) (x : Dl) (m k : Nat), ds[a]? = some d → L[a]? = some x → x.kind ≠ 0 → (eqL L)[m]? = some x → (valsD ts (valV ts L ins (sol ts L ins)) k L).getD d.root 0 = sol ts L ins m k := fun a d x m k h1 h2 hk hm => by
    obtain ⟨x', h3, h4⟩ := hat a d h1
    rw [h2] at h3; cases h3
    obtain ⟨hm1, hm2⟩ := List.getElem?_eq_some_iff.1 hm
    rw [flatV_head (h4.vals hk k), sol_eq H.toEqs m k hm1, hm2]
  refine ⟨fun k i => (valsD ts (valV ts L ins (sol ts L ins)) k L).getD i 0, ⟨?_, ?_, ?_, ?_, ?_, hdr, ?_⟩, ?_⟩
  · intro i hi
    obtain ⟨d, hd, h1, h2⟩ := hcov i hi
    obtain ⟨a, ha, rfl⟩ := List.getElem_of_mem hd
    obtain ⟨x, hx, hy⟩ := hat a _ (List.getElem?_eq_getElem ha)
    refine ⟨a, _, List.getElem?_eq_getElem ha, fun e => ?_, h1, h2⟩
    have := hy.zero (by rw [← hy.kind]; exact e)
    omega
  · intro i n hn k
    have hi := (List.getElem?_eq_some_iff.1 hn).1
    obtain ⟨d, hd, h1, h2⟩ := hcov i hi
    obtain ⟨a, ha, rfl⟩ := List.getElem_of_mem hd
    obtain ⟨x, hx, hy⟩ := hat a _ (List.getElem?_eq_getElem ha)
    have hk : x.kind ≠ 0 := fun e => by have := hy.zero e; omega
    have hf := hy.fin hk
    have hxe := hmemE a x hx hk
    obtain ⟨hs, hl⟩ := H.sp x hxe
    have hw : wrongR ts L x.t (x.i + 5) (wB (x.kind == 2)) = none := by
      have := hT
      unfold typesR at this
      rw [List.findSome?_eq_none_iff] at this
      exact this x hxe
    have hX := hy.vals hk
    have hlt : i - ds[a].root < (flat ts x.t (x.i + 5) 0 ds[a].root).length := by
      rw [flat_len]
      have h1' := h1
      have h2' := h2
      rw [hf] at h2'
      generalize ds[a].root = rr at *
      omega
    have key := flat_val H.F (L := L) (ds := ds) (ins := ins) (V := valV ts L ins (sol ts L ins)) (k := k) (X := fun i => (valsD ts (valV ts L ins (sol ts L ins)) k L).getD i 0) (Y := fun i => (valsD ts (valV ts L ins (sol ts L ins)) (k - 1) L).getD i 0) (val_bit H (fun j n x hx hk => sol_bit H hT j n x hx hk)) x.t (x.i + 5) 0 ds[a].root (wB (x.kind == 2)) hs hl hw ?_ (hX k) (fun _ => hX (k - 1))
    · rw [allAt_get] at key
      obtain ⟨n', hn'⟩ : ∃ n', (flat ts x.t (x.i + 5) 0 ds[a].root)[i - ds[a].root]? = some n' := ⟨_, List.getElem?_eq_getElem hlt⟩
      have h3 := (allAt_get _ _).1 (hy.nodes hk) _ _ hn'
      rw [Nat.add_sub_cancel' h1, hn] at h3
      cases h3
      have := key _ _ hn'
      rw [Nat.add_sub_cancel' h1] at this
      exact this
    · intro j hj
      have hjl := nms_lt x.t _ j hj
      obtain ⟨z, hz, he⟩ := H.decl j (by omega) (nms_nm x.t _ j hj)
      have hfd : 0 ≤ findF ds (tkAt ts j).text := by
        rw [nms_nmD ts x.t _ false] at hj
        obtain ⟨y, hy, rfl⟩ := List.mem_map.1 hj
        exact hB.decl x (List.mem_of_getElem? hx) hk y hy
      obtain ⟨b, hb, rfl⟩ := List.getElem_of_mem hz
      have hbd : b < ds.length := by have := hB.dx.len; omega
      obtain ⟨z', hz', hyb⟩ := hat b _ (List.getElem?_eq_getElem hbd)
      rw [List.getElem?_eq_getElem hb] at hz'
      cases hz'
      have hfb : findF ds (tkAt ts j).text = (b : Int) := by
        have h5 := hB.N.own b hbd
        rw [findF_name ds (b := (tkAt ts j).text) (by rw [hyb.name]; exact he)] at h5
        exact h5
      have hgd : ds.getD b ⟨0, 0, ⟨#[]⟩, 0, 0, 0, 0⟩ = ds[b] := by rw [List.getD_eq_getElem?_getD, List.getElem?_eq_getElem hbd]; rfl
      unfold nameF kindAt numAt rootAt
      rw [hfb]
      simp only [Int.toNat_natCast]
      rw [hgd, hyb.kind]
      have hnb := hnum b ds[b] L[b] (List.getElem?_eq_getElem hbd) (List.getElem?_eq_getElem hb)
      by_cases hkb : L[b].kind = 0
      · rw [if_pos hkb]
        obtain ⟨m, hm, hg⟩ := hnb.1 hkb
        rw [← he, val_in H hg, hm]
      · rw [if_neg hkb]
        obtain ⟨m, hm, hg⟩ := hnb.2 hkb
        rw [← he, val_eq H hg]
        exact (hroot b _ _ m k (List.getElem?_eq_getElem hbd) (List.getElem?_eq_getElem hb) hkb hg).symm
  · intro a d hd hk i n hn h1 h2 c hc
    obtain ⟨x, hx, hy⟩ := hat a d hd
    have hkx : x.kind ≠ 0 := by rw [← hy.kind]; exact hk
    have hf := hy.fin hkx
    have hD : AllAt (fun j n => dlAt ns j = n.delayed) d.root (flat ts x.t (x.i + 5) 0 d.root) := by
      refine AllAt.mono (fun j m h => ?_) _ _ (hy.nodes hkx)
      unfold dlAt
      rw [h]
      show (bindF ds m).delayed = _
      unfold bindF; split <;> rfl
    have key := flat_kids x.t (x.i + 5) 0 d.root d.fin (by omega) hD
    obtain ⟨n', hn'⟩ : ∃ n', (flat ts x.t (x.i + 5) 0 d.root)[i - d.root]? = some n' := ⟨_, List.getElem?_eq_getElem (by rw [flat_len]; omega)⟩
    have h3 := (allAt_get _ _).1 (hy.nodes hkx) _ _ hn'
    rw [Nat.add_sub_cancel' h1, hn] at h3
    cases h3
    have e1 : needs (bindF ds n') = needs n' := by
      obtain ⟨k1, k2, k3, k4⟩ := bindF_keep ds n'
      unfold needs; rw [k1, k2, k3, k4]
    have e2 : (bindF ds n').delayed = n'.delayed := by unfold bindF; split <;> rfl
    rw [e1] at hc
    rw [e2]
    have := (allAt_get _ _).1 key _ _ hn' c hc
    rw [Nat.add_sub_cancel' h1] at this
    exact this
  · intro a d hd hk
    obtain ⟨x, hx, hy⟩ := hat a d hd
    have hkx : x.kind ≠ 0 := by rw [← hy.kind]; exact hk
    obtain ⟨n, l, e, hn⟩ := flat_head x.t (x.i + 5) 0 d.root (ts := ts)
    have h := hy.nodes hkx
    rw [e] at h
    have h1 := h.1
    refine ⟨(List.getElem?_eq_some_iff.1 h1).1, ?_⟩
    unfold dlAt
    rw [h1]
    show (bindF ds n).delayed = false
    have : (bindF ds n).delayed = n.delayed := by unfold bindF; split <;> rfl
    rw [this, hn]; rfl
  · intro a d hd hk
    rcases hsg d (List.mem_of_getElem? hd) with ⟨_, _, h⟩ | h
    · exact absurd h hk
    · exact h
  · intro a d hd _ i n hn h1 h2 hk hl hq
    exact mark_of hd hn h1 h2 hk hl hq
  · intro j d k hj
    have hmem := List.mem_of_getElem? hj
    have hE : All2 (DY ts (bindF ds) ns (valV ts L ins (sol ts L ins)) (fun k => valsD ts (valV ts L ins (sol ts L ins)) k L)) (eqsF ds) (eqL L) := All2.filter (fun d x h => by rw [h.kind]) hY
    rcases hE.getOpt j with ⟨h1, _⟩ | ⟨d', x, h1, h2, h3⟩
    · rw [h1] at hj; cases hj
    · rw [hj] at h1; cases h1
      obtain ⟨hm1, hm2⟩ := List.getElem?_eq_some_iff.1 h2
      have hk : x.kind ≠ 0 := by simpa using (List.mem_filter.1 (List.mem_of_getElem? h2)).2
      show (valsD ts (valV ts L ins (sol ts L ins)) k L).getD d.root 0 = _
      rw [flatV_head (h3.vals hk k), sol_eq H.toEqs j k hm1, hm2]

end Go.Proofs.Ytmndgoapkmhglab

namespace Go.Proofs.Ytmndgoapkmhglab
open Go.RowKit
attribute [local go_sem ↓] Go.wp_at_zero Go.wp_at_succ

def rowSl (n : Nat) (rs : List Nat) : List Value := rs.map fun r => Value.slice (some ⟨r, 0, none⟩) n n
theorem rowSl_snoc (n : Nat) (rs : List Nat) (r : Nat) : rowSl n (rs ++ [r]) = rowSl n rs ++ [.slice (some ⟨r, 0, none⟩) n n] := by simp [rowSl]

set_option maxHeartbeats 1000000 in
set_option maxRecDepth 100000 in
theorem rsquare_any (w : World) (n : Nat) (hn : n ≤ 1501) :
    Calls Try.prog 65 #[.int .i64 (n : Int)] w fun e w' => ∃ (v : Value) (rs : List Nat), e = .returned v ∧ rs.length = n ∧ w'.ownsRow w.heap.size 113 1 v n (rowSl n rs) ∧
      (∀ r ∈ rs, w.heap.size ≤ r ∧ v.ownBlock ≠ some r ∧ w'.rowIs r 4 n (fun _ => .bool false)) ∧ rs.Nodup ∧ Below w.heap.size w w' := by
  obtain ⟨i0, hi0, hz0, hz1, hz2⟩ := info_parts Try.infoBools
  have hm2 := run_make_row' (P := Try.prog) 113 4 (.bool false) 1 Try.underlying113 Try.infoBool rfl .i64 .i64 n (by omega) (by omega)
  go_enter Try.func65, Try.ntmps65
  go_wp2
  go_loopw [3, 4] (fun v i wr => ∃ (k : Nat) (rs : List Nat), k ≤ n ∧ i = .int .i64 k ∧ rs.length = k ∧ wr.ownsRow w.heap.size 113 1 v k (rowSl n rs) ∧
      (∀ r ∈ rs, w.heap.size ≤ r ∧ v.ownBlock ≠ some r ∧ wr.rowIs r 4 n (fun _ => .bool false)) ∧ rs.Nodup ∧ Below w.heap.size w wr) (fun _ i _ => n - (intOf i).toNat)
  case atStart => exact ⟨0, [], Nat.zero_le _, rfl, rfl, World.ownsRow_nil _ _ _ _, fun r hr => by simp at hr, List.nodup_nil, Below.refl _ _⟩
  case round =>
    obtain ⟨k, rs, hk, rfl, hrl, hown, hrows, hnd, hbel⟩ := hrel
    have HRL := hide hrl
    have HRW := hide hrows
    have HND := hide hnd
    have hbs := hbel.size
    clear hrl hrows hnd
    by_cases hlt : k < n
    · have HOV := hide hown.lt
      go_wp2_with (at_builtin; refine wpList_append_lies _ rfl _ _ _ rfl w.heap.size 113 i0 _ 1 24 Try.underlying79 hi0 hz0 hz1 hz2 rfl (by omega) _ k (rowSl n rs) rfl ((hown.alloc _).alloc _) ⟨wr.heap.size + 1, 0, none⟩ 1 1 [.slice (some ⟨wr.heap.size, 0, none⟩) n n] rfl rfl (World.news_of_block (cs := #[.slice (some ⟨wr.heap.size, 0, none⟩) n n]) (t := 113) (fr := (0, 0)) (by have := heap_alloc_new (wr.alloc (.cells (madeCells #[.bool false] n) 4)) (.cells #[.slice (some ⟨wr.heap.size, 0, none⟩) n n] 113); simpa using this)) (by simp [Value.oneCell']) (by omega) (by unfold maxLen; omega) (by omega) (by simp; omega) (wr.heap.size + 2) (by simp) ?_; intro gg cap2 w3 hown3 hgrow hat hlt3)
      go_roundw
      case rel =>
        have hsz3 := hgrow.size
        simp at hsz3
        have hnr : ∀ r ∈ rs, r < wr.heap.size := fun r hr => World.rowIs.lt (HRW.out r hr).2.2
        refine ⟨k + 1, rs ++ [wr.heap.size], by omega, by go_num, by rw [List.length_append, HRL.out]; rfl, ?_, ?_, ?_, ?_⟩
        · rw [rowSl_snoc]; exact hown3
        · intro r hr
          rcases List.mem_append.1 hr with hr | hr
          · obtain ⟨h1, h2, h3⟩ := HRW.out r hr
            have hrl := hnr r hr
            refine ⟨h1, ?_, ?_⟩
            · intro e
              have e' : gg = r := by simpa [Value.ownBlock] using e
              rcases hat with hat | hat
              · rw [e'] at hat; exact h2 hat
              · omega
            · refine World.rowIs.of_block ((h3.alloc _).alloc _) (hgrow.block r (by simp; omega) (fun e => h2 e.symm))
          · rw [List.mem_singleton] at hr
            subst hr
            refine ⟨hbs, ?_, ?_⟩
            · intro e
              have e' : gg = wr.heap.size := by simpa [Value.ownBlock] using e
              rcases hat with hat | hat
              · rw [e'] at hat; have := (HOV.out _ hat).2; omega
              · omega
            · refine World.rowIs.of_block ((World.rowIs_made wr (.bool false) n 4).alloc _) (hgrow.block wr.heap.size (by simp; omega) (fun e => by have := (HOV.out _ e.symm).2; omega))
        · rw [List.nodup_append]
          refine ⟨HND.out, by simp, fun a ha b hb => ?_⟩
          rw [List.mem_singleton] at hb
          have := hnr a ha
          omega
        · exact ((hbel.alloc hbel.size _).alloc (by simp; omega) _).grown hgrow (by simp; omega) (fun j hj => ownBlock_ge hown j hj)
      case measure => simp [intOf]; omega
    · have ek : k = n := by omega
      subst ek
      have HO := hide hown
      clear hown
      go_wp2
      go_ret
      exact ⟨_, rs, rfl, HRL.out, HO.out, HRW.out, HND.out, hbel⟩

theorem square_mat {w' : World} {B n : Nat} {v : Value} {rs : List Nat} (hl : rs.length = n) (hown : w'.ownsRow B 113 1 v n (rowSl n rs)) (hrows : ∀ r ∈ rs, B ≤ r ∧ v.ownBlock ≠ some r ∧ w'.rowIs r 4 n (fun _ => .bool false)) (hnd : rs.Nodup) :
    ∃ (a : Option Addr) (g cap : Nat) (R : Nat → Nat), v = .slice a n cap ∧ (0 < n → a = some ⟨g, 0, none⟩) ∧ Mat w' g n R noM ∧ (∀ i, i < n → B ≤ R i) ∧ B ≤ g := by
  rcases Nat.eq_zero_or_pos n with hz | hp
  · obtain ⟨a, cap, hv, _⟩ := own_shape hown
    refine ⟨a, B, cap, fun _ => 0, hv, fun h => by omega, ⟨fun i hi => by omega, fun i hi => by omega, fun i j hi => by omega, fun i hi => by omega⟩, fun i hi => by omega, Nat.le_refl _⟩
  · obtain ⟨g, cap, rfl, h1, h2⟩ := hown.form hp
    have hat : ∀ i, (hi : i < n) → rs[i]'(by omega) ∈ rs := fun i hi => List.getElem_mem _
    refine ⟨some ⟨g, 0, none⟩, g, cap, fun i => rs.getD i 0, rfl, fun _ => rfl, ⟨fun i hi => ?_, fun i hi => ?_, fun i j hi hj e => ?_, fun i hi e => ?_⟩, fun i hi => ?_, h1⟩
    · rw [hown.cellAt i (by omega)]
      unfold rowSl
      rw [List.getElem?_map, List.getElem?_eq_getElem (by omega)]
      show some _ = some (Value.slice (some ⟨rs.getD i 0, 0, none⟩) n n)
      rw [List.getD_eq_getElem?_getD, List.getElem?_eq_getElem (by omega)]
      rfl
    · show w'.rowIs (rs.getD i 0) _ _ _
      rw [List.getD_eq_getElem?_getD, List.getElem?_eq_getElem (by omega)]
      exact (hrows _ (hat i hi)).2.2
    · have e' : rs.getD i 0 = rs.getD j 0 := e
      rw [List.getD_eq_getElem?_getD, List.getD_eq_getElem?_getD, List.getElem?_eq_getElem (show i < rs.length by omega), List.getElem?_eq_getElem (show j < rs.length by omega)] at e'
      have e2 : rs[i]'(by omega) = rs[j]'(by omega) := e'
      rcases Nat.lt_trichotomy i j with hh | hh | hh
      · exact absurd e2 ((List.pairwise_iff_getElem.1 hnd) i j (by omega) (by omega) hh)
      · exact hh
      · exact absurd e2.symm ((List.pairwise_iff_getElem.1 hnd) j i (by omega) (by omega) hh)
    · have e' : rs.getD i 0 = g := e
      rw [List.getD_eq_getElem?_getD, List.getElem?_eq_getElem (show i < rs.length by omega)] at e'
      have e2 : rs[i]'(by omega) = g := e'
      exact (hrows _ (hat i hi)).2.1 (by rw [e2]; rfl)
    · show B ≤ rs.getD i 0
      rw [List.getD_eq_getElem?_getD, List.getElem?_eq_getElem (by omega)]
      exact (hrows _ (hat i hi)).1

end Go.Proofs.Ytmndgoapkmhglab
