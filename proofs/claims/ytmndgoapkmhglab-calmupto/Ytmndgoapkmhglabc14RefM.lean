import Derived.Test.Ytmndgoapkmhglabc11RefHa
import Derived.Test.Ytmndgoapkmhglabc13RefI
namespace Go.Proofs.Ytmndgoapkmhglab
def numL (k : Nat) : List UInt8 → Option Nat
  | [] => none
  | c :: r => if W 2 c then some (k + (r.takeWhile (W 2)).length) else numL (k + 1) r
def mkL : Nat → Nat → List UInt8 → List Nat
  | 0, _, _ => []
  | _ + 1, _, [] => []
  | f + 1, k, c :: r =>
    if W 1 c then (if c :: r.takeWhile (W 1) = kAt then (numL (k + 1 + (r.takeWhile (W 1)).length) (r.dropWhile (W 1))).toList else []) ++ mkL f (k + 1 + (r.takeWhile (W 1)).length) (r.dropWhile (W 1))
    else mkL f (k + 1) r
def isDig (t : Tk) : Bool := (t.l.head?).any (W 2)
def lastD (t : Tk) : Nat := t.pos + t.l.length - 1
def numT (r : List Tk) : Option Nat := (r.find? isDig).map lastD
def marksT : List Tk → List Nat
  | [] => []
  | t :: r => (if t.l = kAt then (numT r).toList else []) ++ marksT r
theorem numL_over {cl : Nat} (hcl : cl ≠ 2) : ∀ (r : List UInt8) (k : Nat), numL (k + (r.takeWhile (W cl)).length) (r.dropWhile (W cl)) = numL k r := by
  intro r
  induction r with
  | nil => intro k; rfl
  | cons c r ih =>
    intro k
    rw [List.takeWhile_cons, List.dropWhile_cons]
    cases h : W cl c with
    | false => simp
    | true =>
      have h2 : W 2 c = false := by
        have := W_cls h
        cases h' : W 2 c with
        | false => rfl
        | true => exact absurd ((W_cls h').symm.trans this).symm hcl
      simp only [if_true, List.length_cons]
      rw [show k + ((r.takeWhile (W cl)).length + 1) = (k + 1) + (r.takeWhile (W cl)).length by omega, ih (k + 1)]
      show numL (k + 1) r = if W 2 c then _ else numL (k + 1) r
      rw [h2]; rfl
theorem mkL_fuel : ∀ f g k (l : List UInt8), l.length ≤ f → l.length ≤ g → mkL f k l = mkL g k l := by
  intro f
  induction f with
  | zero =>
    intro g k l h1 h2
    cases l with
    | nil => cases g <;> rfl
    | cons c r => simp at h1
  | succ f ih =>
    intro g k l h1 h2
    cases l with
    | nil => cases g <;> rfl
    | cons c r =>
      cases g with
      | zero => simp at h2
      | succ g =>
        simp at h1 h2
        have := drop_le (W 1) r
        simp only [mkL]
        rw [ih g (k + 1) r h1 h2, ih g _ (r.dropWhile (W 1)) (by omega) (by omega)]
theorem mkL_over {cl : Nat} (hcl : cl ≠ 1) : ∀ (r : List UInt8) (f k : Nat), r.length ≤ f → mkL f (k + (r.takeWhile (W cl)).length) (r.dropWhile (W cl)) = mkL f k r := by
  intro r
  induction r with
  | nil => intro f k _; rfl
  | cons c r ih =>
    intro f k hf
    rw [List.takeWhile_cons, List.dropWhile_cons]
    cases h : W cl c with
    | false => simp
    | true =>
      have h2 : W 1 c = false := by
        have := W_cls h
        cases h' : W 1 c with
        | false => rfl
        | true => exact absurd ((W_cls h').symm.trans this).symm hcl
      obtain ⟨f, rfl⟩ : ∃ g, f = g + 1 := ⟨f - 1, by simp at hf; omega⟩
      simp at hf
      have hd := drop_le (W cl) r
      simp only [if_true, List.length_cons]
      rw [show k + ((r.takeWhile (W cl)).length + 1) = (k + 1) + (r.takeWhile (W cl)).length by omega, mkL_fuel (f + 1) f _ _ (by omega) (by omega), ih f (k + 1) hf]
      show mkL f (k + 1) r = if W 1 c then _ else mkL f (k + 1) r
      rw [h2]; rfl
theorem tokW_l (k : Nat) (w : List UInt8) (cl : Nat) : (tokW k w cl).l = w := by simp [tokW, Tk.l]
theorem num_tk : ∀ n k (l : List UInt8), l.length = n → numL k l = numT (tk k l) := by
  intro n
  induction n using Nat.strongRecOn with
  | _ n ih =>
    intro k l hn
    cases l with
    | nil => rfl
    | cons c r =>
      simp only [List.length_cons] at hn
      by_cases h0 : cls c.toNat = 0
      · rw [tk_blank h0, ← ih r.length (by omega) (k + 1) r rfl]
        show (if W 2 c then _ else _) = _
        rw [if_neg (by unfold W; rw [h0]; decide)]
      · by_cases h2 : cls c.toNat = 2
        · rw [tk_word (.inr h2)]
          show (if W 2 c then _ else _) = _
          rw [if_pos (by unfold W; rw [h2]; rfl)]
          unfold numT
          rw [List.find?_cons_of_pos (by unfold isDig; rw [tokW_l]; unfold W; simp [h2])]
          simp only [Option.map_some, lastD, tokW_l, List.length_cons, h2]
          show _ = some (k + _ - 1)
          congr 1
        · have hne : W 2 c = false := by unfold W; simpa using h2
          have hno : ∀ (w : List UInt8) cl, isDig (tokW k (c :: w) cl) = false := fun w cl => by unfold isDig; rw [tokW_l]; simpa using hne
          by_cases h1 : cls c.toNat = 1
          · rw [tk_word (.inl h1)]
            have hl := take_drop_len (W (cls c.toNat)) r
            unfold numT
            rw [List.find?_cons_of_neg (by rw [hno]; decide)]
            rw [← numT, ← ih _ (by omega) _ _ rfl, numL_over (by omega)]
            show (if W 2 c then _ else _) = _
            rw [hne]; rfl
          · have := cls_le c.toNat
            rw [tk_one (by omega)]
            unfold numT
            rw [List.find?_cons_of_neg (by rw [hno]; decide)]
            rw [← numT, ← ih _ (by omega) _ _ rfl]
            show (if W 2 c then _ else _) = _
            rw [hne]; rfl
theorem marks_tk : ∀ n f k (l : List UInt8), l.length = n → n ≤ f → mkL f k l = marksT (tk k l) := by
  intro n
  induction n using Nat.strongRecOn with
  | _ n ih =>
    intro f k l hn hf
    cases l with
    | nil => cases f <;> rfl
    | cons c r =>
      simp only [List.length_cons] at hn
      obtain ⟨f, rfl⟩ : ∃ g, f = g + 1 := ⟨f - 1, by omega⟩
      by_cases h0 : cls c.toNat = 0
      · rw [tk_blank h0, ← ih r.length (by omega) f (k + 1) r rfl (by omega)]
        show (if W 1 c then _ else _) = _
        rw [if_neg (by unfold W; rw [h0]; decide)]
      · have hl := take_drop_len (W (cls c.toNat)) r
        by_cases h1 : cls c.toNat = 1
        · rw [tk_word (.inl h1)]
          rw [h1] at hl
          show (if W 1 c then _ else _) = _
          rw [if_pos (by unfold W; rw [h1]; rfl), h1]
          unfold marksT
          rw [tokW_l, num_tk _ _ _ rfl, ih _ (by omega) f _ _ rfl (by omega)]
        · have hne : W 1 c = false := by unfold W; simpa using h1
          have hat : ∀ w : List UInt8, c :: w ≠ kAt := fun w e => by
            have hc : c = 97 := by unfold kAt at e; simp at e; exact e.1
            rw [hc] at h1; exact h1 (by decide)
          by_cases h2 : cls c.toNat = 2
          · rw [tk_word (.inr h2)]
            unfold marksT
            rw [tokW_l, if_neg (hat _), List.nil_append, ← ih _ (by omega) f _ _ rfl (by omega), mkL_over (by omega) r f (k + 1) (by omega)]
            show (if W 1 c then _ else _) = _
            rw [hne]; rfl
          · have := cls_le c.toNat
            rw [tk_one (by omega)]
            unfold marksT
            rw [tokW_l, if_neg (hat _), List.nil_append, ← ih _ (by omega) f _ _ rfl (by omega)]
            show (if W 1 c then _ else _) = _
            rw [hne]; rfl
theorem marksT_end (e : Tk) (he : e.l = []) : ∀ r : List Tk, marksT (r ++ [e]) = marksT r := by
  have hnum : ∀ r : List Tk, numT (r ++ [e]) = numT r := by
    intro r
    unfold numT
    have hd : isDig e = false := by unfold isDig; rw [he]; rfl
    rw [List.find?_append]
    simp [hd]
  intro r
  induction r with
  | nil => show (if e.l = kAt then _ else _) ++ [] = []; rw [he]; rfl
  | cons t r ih =>
    show (if t.l = kAt then (numT (r ++ [e])).toList else []) ++ marksT (r ++ [e]) = _
    rw [hnum, ih]; rfl
theorem drop_tk {ts : List Tk} {i : Nat} (h : i < ts.length) : ts.drop i = tkAt ts i :: ts.drop (i + 1) := by
  rw [List.drop_eq_getElem_cons h]
  congr 1
  unfold tkAt
  simp [List.getD_eq_getElem?_getD, List.getElem?_eq_getElem h]
theorem marks_step {ts : List Tk} {i : Nat} (h : i < ts.length) (hn : lAt ts i ≠ kAt) : marksT (ts.drop i) = marksT (ts.drop (i + 1)) := by
  rw [drop_tk h]
  show (if (tkAt ts i).l = kAt then _ else _) ++ _ = _
  rw [if_neg hn]; rfl
section
variable {ts : List Tk} (hF : ∀ i, TkF (tkAt ts i))
include hF
theorem leaf_at {i : Nat} (h : leafT (tkAt ts i) = true) : lAt ts i ≠ kAt := leaf_ne hF h (by decide) (by decide) (by decide)
omit hF in
theorem lit_leaf {i : Nat} (h : litT (tkAt ts i) = true) : leafT (tkAt ts i) = true := by unfold leafT; rw [h]; rfl
theorem marks_sp : ∀ (t : Ast) (i : Nat), Sp ts t i → i + t.len ≤ ts.length → marksT (ts.drop i) = marksT (ts.drop (i + t.len)) := by
  have kw : ∀ {i : Nat} {l : List UInt8}, lAt ts i = l → l ≠ kAt → lAt ts i ≠ kAt := fun h hn e => hn (h.symm.trans e)
  intro t
  induction t with
  | leaf => intro i hs hl; exact marks_step (by simp [Ast.len] at hl; omega) (leaf_at hF hs.1)
  | neg a iha =>
    intro i hs hl
    obtain ⟨h1, h2, h3, h4⟩ := hs
    simp only [Ast.len] at hl ⊢
    rw [marks_step (by omega) (kw h1 (by decide)), marks_step (by omega) (kw h2 (by decide)), iha (i + 2) h3 (by omega), marks_step (by omega) (kw h4 (by decide))]
    congr 2; omega
  | ite a b c iha ihb ihc =>
    intro i hs hl
    obtain ⟨h1, h2, h3, h4, h5, h6⟩ := hs
    simp only [Ast.len] at hl ⊢
    rw [marks_step (by omega) (kw h1 (by decide)), marks_step (by omega) (kw h2 (by decide)), iha (i + 2) h3 (by omega), ihb _ h4 (by omega), ihc _ h5 (by omega), marks_step (by omega) (kw h6 (by decide))]
    congr 2; omega
  | dly b ihb =>
    intro i hs hl
    obtain ⟨h1, h2, h3, h4, h5⟩ := hs
    simp only [Ast.len] at hl ⊢
    rw [marks_step (by omega) (kw h1 (by decide)), marks_step (by omega) (leaf_at hF (lit_leaf h2)), marks_step (by omega) (kw h3 (by decide)), ihb (i + 3) h4 (by omega), marks_step (by omega) (kw h5 (by decide))]
    congr 2; omega
  | bin a b iha ihb =>
    intro i hs hl
    obtain ⟨h1, h2, h3, h4, h5⟩ := hs
    simp only [Ast.len] at hl ⊢
    have hop : lAt ts (i + 1 + a.len) ≠ kAt := fun e => by rw [e] at h3; revert h3; decide
    rw [marks_step (by omega) (kw h1 (by decide)), iha (i + 1) h2 (by omega), marks_step (by omega) hop, show i + 1 + a.len + 1 = i + 2 + a.len by omega, ihb _ h4 (by omega), marks_step (by omega) (kw h5 (by decide))]
    congr 2; omega
theorem name_at {i : Nat} (h : (tkAt ts i).kind = 1) : lAt ts i ≠ kAt := fun e => by
  have := (hF i).k1 h
  rw [show (tkAt ts i).l = kAt from e] at this
  revert this; decide
theorem marks_spell (hE : ∀ i, (tkAt ts i).kind = 0 → ts.length ≤ i + 1) (hD : ∀ i, (tkAt ts i).kind = 3 → isDig (tkAt ts i) = true) : ∀ (L : List Dl) (i : Nat), Spell ts L i → marksT (ts.drop i) = (eqL L).map fun x => lastD (tkAt ts (x.i + 3)) := by
  have kw : ∀ {i : Nat} {l : List UInt8}, lAt ts i = l → l ≠ kAt → lAt ts i ≠ kAt := fun h hn e => hn (h.symm.trans e)
  intro L
  induction L with
  | nil =>
    intro i h
    obtain ⟨h1, h2⟩ := h
    rw [marks_step h1 (fun e => by have := (hF i).k0 h2; rw [show (tkAt ts i).l = kAt from e] at this; revert this; decide)]
    rw [List.drop_eq_nil_of_le (hE i h2)]; rfl
  | cons x r ih =>
    intro i h
    obtain ⟨rfl, h1, h2, h3⟩ := h
    rcases h2 with ⟨hk, a1, a2, a3⟩ | ⟨hk, a2, a3, a4, a5, a6, a7⟩
    · have hl : x.len = 3 := by unfold Dl.len; rw [if_pos hk]
      rw [marks_step (by omega) (kw a1 (by decide)), marks_step (by omega) (name_at hF a2), marks_step (by omega) (kw a3 (by decide)), ← show x.i + x.len = x.i + 1 + 1 + 1 by omega, ih _ h3]
      simp [eqL, hk]
    · have hk0 : x.kind ≠ 0 := by omega
      have hl : x.len = x.t.len + 6 := by unfold Dl.len; rw [if_neg hk0]
      have h0 : lAt ts x.i ≠ kAt := by rcases hk with ⟨_, h⟩ | ⟨_, h⟩ <;> exact kw h (by decide)
      have h3k : lAt ts (x.i + 3) ≠ kAt := fun e => by
        have := (hF (x.i + 3)).k3 a4.1
        rw [show (tkAt ts (x.i + 3)).l = kAt from e] at this
        revert this; decide
      rw [marks_step (by omega) h0, marks_step (by omega) (name_at hF a2), drop_tk (by omega : x.i + 1 + 1 < ts.length)]
      show (if (tkAt ts (x.i + 2)).l = kAt then _ else _) ++ _ = _
      rw [if_pos a3, drop_tk (by omega : x.i + 1 + 1 + 1 < ts.length), numT, List.find?_cons_of_pos (hD (x.i + 3) a4.1)]
      rw [← drop_tk (by omega : x.i + 1 + 1 + 1 < ts.length), marks_step (by omega) h3k, marks_step (by omega) (kw a5 (by decide)), marks_sp hF x.t (x.i + 5) a6 (by omega), marks_step (by omega) (kw a7 (by decide)), ← show x.i + x.len = x.i + 5 + x.t.len + 1 by omega, ih _ h3]
      simp [eqL, hk0]
end
theorem slot_at {N : List LnF} (hA : Apart N) (V : Int → Nat → List Int) {sc : List OpF} (hS : ActsOk sc) : ∀ (x : Int) (l : Nat), l < N.length → didF (runG N V [] sc) (lnAt N l).dst 1 x false ≤ takenF x l false (runG N V [] sc) + lateN N l := by
  refine (run_ind hA V (p := fun P => ∀ (x : Int) (l : Nat), l < N.length → didF P (lnAt N l).dst 1 x false ≤ takenF x l false P + lateN N l) (fun P a hO hI _ ih x l hl => ?_) sc [] hS.nn (by simpa using hS.gap) (fun t _ => past_start N t) (inv_start N) (fun x l _ => by simp [didF])).1
  rw [did_app, takenF_app]
  by_cases hx : x < a.a
  · have h1 : ∀ y ∈ [(a, wakeF N V P a)], x < y.2.a := fun y hy => by rw [List.mem_singleton] at hy; subst hy; exact hx
    rw [did_none h1, taken_none l h1]
    have := ih x l hl
    omega
  · have hOx := hO.mono (Int.not_lt.1 hx)
    have hn := (inv_next (V := V) hA hO hI).slot l hl
    have h1 : didF [(a, wakeF N V P a)] (lnAt N l).dst 1 x false = cntF [(a, wakeF N V P a)] (lnAt N l).dst 1 := by
      unfold didF cntF
      congr 1
      apply List.filter_congr
      intro y hy
      rw [List.mem_singleton] at hy
      subst hy
      have : decide ((wakeF N V P a).a + (if false = true then a.c else 0) ≤ x) = true := by
        simp only [Bool.false_eq_true, if_false, decide_eq_true_eq]
        show a.a + 0 ≤ x
        omega
      rw [this, Bool.and_true]
    have h2 : takenF x l false [(a, wakeF N V P a)] = tkF l [(a, wakeF N V P a)] := by
      simp only [takenF, tkF]
      rw [if_pos (by simp only [Bool.false_eq_true, if_false]; show a.a + 0 ≤ x; omega)]
    rw [did_all hOx, taken_all l hOx, h1, h2, ← cnt_app, ← tkF_app]
    exact hn.1
structure Bound (N : List LnF) (sc : List OpF) (Q : Int → Prop) (dep : Int → Nat) (Tm Dm h : Int) : Prop where
  ok : ActsOk sc
  dly : ∀ a ∈ sc, a.b ≤ Dm ∧ a.c ≤ Dm
  d0 : 0 ≤ Dm
  t1 : 1 ≤ Tm
  ends : ∀ l, l < N.length → Q (lnAt N l).src ∧ Q (lnAt N l).dst
  first : ∀ q, Q q → Tm ≤ h → ∃ a ∈ sc, a.k = q ∧ a.a ≤ Tm
  act : ∀ q, Q q → ∀ x, 0 ≤ x → x + Tm ≤ h → ∃ a ∈ sc, a.k = q ∧ x < a.a ∧ a.a ≤ x + Tm
  dep : ∀ l, l < N.length → lateN N l = 0 → dep (lnAt N l).src < dep (lnAt N l).dst
structure Reach (N : List LnF) (R : PastF) (Q : Int → Prop) (dep : Int → Nat) (k : Nat) (u : Int) : Prop where
  pub : ∀ q, Q q → k ≤ didF R q 2 u false
  tak : ∀ l, l < N.length → k ≤ takenF u l false R
  stp : ∀ q, Q q → k ≤ didF R q 1 u false
  low : ∀ q, Q q → dep q = 0 → k + 1 ≤ didF R q 1 u false
section
variable {N : List LnF} (hA : Apart N) (V : Int → Nat → List Int) {sc : List OpF} {Q : Int → Prop} {dep : Int → Nat} {Tm Dm h : Int} (hB : Bound N sc Q dep Tm Dm h)
include hA hB
theorem publish_by {k : Nat} {u y : Int} (hu : 0 ≤ u) (huy : u ≤ y) (htk : ∀ l, l < N.length → k ≤ takenF u l false (runG N V [] sc)) {q : Int} (hq : Q q) (hst : k + 1 ≤ didF (runG N V [] sc) q 1 y false) (hh : y + Dm + Tm ≤ h) : k + 1 ≤ didF (runG N V [] sc) q 2 (y + Dm + Tm) false := by
  have hd := hB.d0
  obtain ⟨a, ha, rfl, h1, h2⟩ := hB.act q hq (y + Dm) (by omega) hh
  obtain ⟨P, hP⟩ := at_act hA V hB.ok ha
  have h3 := go_publish (V := V) hP.ok hP.inv (k := k) (Nat.le_trans hst (hP.did0 y (by omega) _ _)) (fun l hl _ => by
    have g1 := htk l hl
    have g2 := hP.tk0 u (by omega) l
    refine ⟨by omega, fun g3 => ?_⟩
    have := known_le (Dm := Dm) (y := u) (by omega) l P (fun x hx => (hB.dly x.1 (hP.mem x hx)).1) (by rw [hP.tkP u (by omega) l]; omega)
    omega)
  exact Nat.le_trans h3 (Nat.le_trans (hP.did1 _ _) (did_mono h2 _ _))
theorem depth_by {k : Nat} {u : Int} (hu : 0 ≤ u) (hR : Reach N (runG N V [] sc) Q dep k u) : ∀ (d : Nat) (q : Int), Q q → dep q ≤ d → u + (d : Int) * (2 * (Tm + Dm)) ≤ h → k + 1 ≤ didF (runG N V [] sc) q 1 (u + (d : Int) * (2 * (Tm + Dm))) false := by
  have hd := hB.d0
  have ht := hB.t1
  intro d
  induction d with
  | zero =>
    intro q hq hdq hh
    have := hR.low q hq (by omega)
    simpa using this
  | succ d ih =>
    intro q hq hdq hh
    have e : ((d + 1 : Nat) : Int) * (2 * (Tm + Dm)) = (d : Int) * (2 * (Tm + Dm)) + 2 * (Tm + Dm) := by
      rw [Int.natCast_add, Int.add_mul]; simp
    rw [e] at hh ⊢
    have hp : 0 ≤ (d : Int) * (2 * (Tm + Dm)) := Int.mul_nonneg (by omega) (by omega)
    generalize (d : Int) * (2 * (Tm + Dm)) = z at *
    obtain ⟨a, ha, rfl, h1, h2⟩ := hB.act q hq (u + z + (Dm + Tm) + Dm) (by omega) (by omega)
    obtain ⟨P, hP⟩ := at_act hA V hB.ok ha
    have key := go_step (V := V) hP.ok hP.inv (k := k) (Nat.le_trans (hR.pub _ hq) (hP.did0 u (by omega) _ _)) (fun l hl hdst => by
      have g1 := hR.tak l hl
      have g2 := hP.tk0 u (by omega) l
      by_cases hlt : lateN N l = 0
      · have hdp := hB.dep l hl hlt
        rw [hdst] at hdp
        have hqs := (hB.ends l hl).1
        have s1 := ih _ hqs (by omega) (by omega)
        have s2 := publish_by hA V hB hu (show u ≤ u + z by omega) hR.tak hqs s1 (by omega)
        rw [show u + z + Dm + Tm = u + z + (Dm + Tm) by omega] at s2
        have s3 := go_take hP.ok hP.inv (m := k + 1) hl hdst (Nat.le_trans s2 (hP.did0 _ (by omega) _ _)) (fun g3 => by
          have := comes_le (Dm := Dm) (y := u + z + (Dm + Tm)) (by omega) (lnAt N l).src P (fun x hx => (hB.dly x.1 (hP.mem x hx)).2) (by rw [hP.didP _ (by omega)]; omega)
          omega) (by have := Nat.le_trans (hR.stp _ hq) (hP.did0 u (by omega) _ 1); omega)
        omega
      · have := lateN_le N l
        omega)
    exact Nat.le_trans key (Nat.le_trans (hP.did1 _ _) (did_mono (by omega) _ _))
theorem reach_next {k : Nat} {t : Int} (ht0 : 0 ≤ t) (hst : ∀ q, Q q → k + 1 ≤ didF (runG N V [] sc) q 1 t false) (hh : t + 2 * (Tm + Dm) ≤ h) : Reach N (runG N V [] sc) Q dep (k + 1) (t + 2 * (Tm + Dm)) := by
  have hd := hB.d0
  have ht := hB.t1
  have hslot := slot_at hA V hB.ok
  have tk0 : ∀ l, l < N.length → k ≤ takenF t l false (runG N V [] sc) := fun l hl => by
    have h1 := hslot t l hl
    have h2 := hst _ (hB.ends l hl).2
    have := lateN_le N l
    omega
  have pub : ∀ q, Q q → k + 1 ≤ didF (runG N V [] sc) q 2 (t + Dm + Tm) false := fun q hq => publish_by hA V hB ht0 (Int.le_refl _) tk0 hq (hst q hq) (by omega)
  have take : ∀ q, Q q → ∃ (a : OpF) (P : PastF), a.k = q ∧ a.a ≤ t + 2 * (Tm + Dm) ∧ AtAct N V sc (runG N V [] sc) a P ∧ k + 1 ≤ cntF P a.k 2 ∧ ∀ l, l < N.length → (lnAt N l).dst = a.k → k + 1 ≤ tkF l P + (if canF N P a l = true then 1 else 0) := fun q hq => by
    obtain ⟨a, ha, rfl, h1, h2⟩ := hB.act q hq (t + Dm + Tm + Dm) (by omega) (by omega)
    obtain ⟨P, hP⟩ := at_act hA V hB.ok ha
    refine ⟨a, P, rfl, by omega, hP, Nat.le_trans (pub _ hq) (hP.did0 _ (by omega) _ _), fun l hl hdst => ?_⟩
    by_cases hlt : lateN N l = 0
    · have g1 := hslot t l hl
      have g2 := hst _ (hB.ends l hl).2
      have g3 := hP.tk0 t (by omega) l
      omega
    · have hl1 : lateN N l = 1 := by have := lateN_le N l; omega
      have hqs := (hB.ends l hl).1
      exact go_take hP.ok hP.inv (m := k + 1) hl hdst (Nat.le_trans (pub _ hqs) (hP.did0 _ (by omega) _ _)) (fun g3 => by
        have g4 := pub _ hqs
        have := comes_le (Dm := Dm) (y := t + Dm + Tm) (by omega) (lnAt N l).src P (fun x hx => (hB.dly x.1 (hP.mem x hx)).2) (by rw [hP.didP _ (by omega)]; omega)
        omega) (by have := Nat.le_trans (hst _ hq) (hP.did0 t (by omega) _ 1); omega)
  refine ⟨fun q hq => Nat.le_trans (pub q hq) (did_mono (by omega) _ _), fun l hl => ?_, fun q hq => Nat.le_trans (hst q hq) (did_mono (by omega) _ _), fun q hq h0 => ?_⟩
  · obtain ⟨a, P, e, h2, hP, _, h4⟩ := take _ (hB.ends l hl).2
    exact Nat.le_trans (h4 l hl e.symm) (Nat.le_trans (hP.tk1 l hl) (taken_mono h2 l _))
  · obtain ⟨a, P, rfl, h2, hP, h3, h4⟩ := take q hq
    have key := go_step (V := V) hP.ok hP.inv (k := k + 1) h3 (fun l hl hdst => by
      have g1 := h4 l hl hdst
      by_cases hlt : lateN N l = 0
      · have := hB.dep l hl hlt
        rw [hdst] at this
        omega
      · have := lateN_le N l
        omega)
    exact Nat.le_trans key (Nat.le_trans (hP.did1 _ _) (did_mono h2 _ _))
theorem reach_zero (hh : Tm ≤ h) : Reach N (runG N V [] sc) Q dep 0 Tm := by
  refine ⟨fun _ _ => Nat.zero_le _, fun _ _ => Nat.zero_le _, fun _ _ => Nat.zero_le _, fun q hq h0 => ?_⟩
  obtain ⟨a, ha, rfl, h1⟩ := hB.first q hq hh
  obtain ⟨P, hP⟩ := at_act hA V hB.ok ha
  have key := go_step (V := V) hP.ok hP.inv (k := 0) (Nat.zero_le _) (fun l hl hdst => by
    by_cases hlt : lateN N l = 0
    · have := hB.dep l hl hlt
      rw [hdst] at this
      omega
    · omega)
  exact Nat.le_trans key (Nat.le_trans (hP.did1 _ _) (did_mono h1 _ _))
def reachT (Tm Dm : Int) (D : Nat) : Nat → Int
  | 0 => Tm
  | k + 1 => reachT Tm Dm D k + (D : Int) * (2 * (Tm + Dm)) + 2 * (Tm + Dm)
omit hA hB in
theorem reachT_nn {Tm Dm : Int} (ht : 1 ≤ Tm) (hd : 0 ≤ Dm) (D : Nat) : ∀ k, 0 ≤ reachT Tm Dm D k := by
  intro k
  induction k with
  | zero => show 0 ≤ Tm; omega
  | succ k ih =>
    show 0 ≤ reachT Tm Dm D k + (D : Int) * (2 * (Tm + Dm)) + 2 * (Tm + Dm)
    have : 0 ≤ (D : Int) * (2 * (Tm + Dm)) := Int.mul_nonneg (by omega) (by omega)
    omega
theorem steps_by {D : Nat} (hD : ∀ q, Q q → dep q ≤ D) : ∀ k, (reachT Tm Dm D k ≤ h → Reach N (runG N V [] sc) Q dep k (reachT Tm Dm D k)) ∧ (reachT Tm Dm D k + (D : Int) * (2 * (Tm + Dm)) ≤ h → ∀ q, Q q → k + 1 ≤ didF (runG N V [] sc) q 1 (reachT Tm Dm D k + (D : Int) * (2 * (Tm + Dm))) false) := by
  have hd := hB.d0
  have ht := hB.t1
  have hz : 0 ≤ (D : Int) * (2 * (Tm + Dm)) := Int.mul_nonneg (by omega) (by omega)
  intro k
  induction k with
  | zero =>
    have h0 := reach_zero hA V hB
    refine ⟨h0, fun hh q hq => ?_⟩
    exact depth_by hA V hB (by show 0 ≤ Tm; omega) (h0 (by show Tm ≤ h; have : reachT Tm Dm D 0 = Tm := rfl; omega)) D q hq (hD q hq) hh
  | succ k ih =>
    have hn := reachT_nn ht hd D k
    have hr : reachT Tm Dm D (k + 1) ≤ h → Reach N (runG N V [] sc) Q dep (k + 1) (reachT Tm Dm D (k + 1)) := fun hh => by
      have e : reachT Tm Dm D (k + 1) = reachT Tm Dm D k + (D : Int) * (2 * (Tm + Dm)) + 2 * (Tm + Dm) := rfl
      rw [e] at hh ⊢
      exact reach_next hA V hB (by omega) (ih.2 (by omega)) hh
    refine ⟨hr, fun hh q hq => ?_⟩
    exact depth_by hA V hB (reachT_nn ht hd D (k + 1)) (hr (by omega)) D q hq (hD q hq) hh
omit hA hB in
theorem reachT_eq (Tm Dm : Int) (D k : Nat) : reachT Tm Dm D k = Tm + (k : Int) * (((D : Int) + 1) * (2 * (Tm + Dm))) := by
  induction k with
  | zero => show Tm = _; simp
  | succ k ih =>
    show reachT Tm Dm D k + (D : Int) * (2 * (Tm + Dm)) + 2 * (Tm + Dm) = _
    have e : ((D : Int) + 1) * (2 * (Tm + Dm)) = (D : Int) * (2 * (Tm + Dm)) + 2 * (Tm + Dm) := by rw [Int.add_mul, Int.one_mul]
    rw [ih, e]
    generalize (D : Int) * (2 * (Tm + Dm)) = A
    generalize 2 * (Tm + Dm) = B
    have e2 : ((k + 1 : Nat) : Int) * (A + B) = (k : Int) * (A + B) + (A + B) := by rw [Int.natCast_add, Int.add_mul]; simp
    rw [e2]
    omega
end
end Go.Proofs.Ytmndgoapkmhglab
namespace Go.Proofs.Ytmndgoapkmhglab
open Go.RowKit
attribute [local go_sem ↓] Go.wp_at_zero Go.wp_at_succ




end Go.Proofs.Ytmndgoapkmhglab
