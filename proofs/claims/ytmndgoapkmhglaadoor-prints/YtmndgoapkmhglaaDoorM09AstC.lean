import Derived.Test.YtmndgoapkmhglaaDoorM08AstA
/- Plain mathematics: the parts of a text as the two readers find them. -/
namespace Go.Proofs.YtmndgoapkmhglaaDoor

/-- an expression: a token alone, or what stands in brackets. -/
inductive Ast where
  | leaf
  | neg (a : Ast)
  | ite (a b c : Ast)
  | dly (b : Ast)
  | bin (a b : Ast)

/-- how many tokens. -/
def Ast.len : Ast → Nat
  | .leaf => 1
  | .neg a => a.len + 3
  | .ite a b c => a.len + b.len + c.len + 3
  | .dly b => b.len + 4
  | .bin a b => a.len + b.len + 3
/-- how many nodes. -/
def Ast.size : Ast → Nat
  | .leaf => 1
  | .neg a => a.size + 1
  | .ite a b c => a.size + b.size + c.size + 1
  | .dly b => b.size + 2
  | .bin a b => a.size + b.size + 1

def leafT (t : Tk) : Bool := litT t || t.kind == 1

abbrev lAt (ts : List Tk) (i : Nat) : List UInt8 := (tkAt ts i).l

/-- an expression stands at token i. -/
def Sp (ts : List Tk) : Ast → Nat → Prop
  | .leaf, i => leafT (tkAt ts i) = true ∧ lAt ts i ≠ [40]
  | .neg a, i => lAt ts i = [40] ∧ lAt ts (i + 1) = kNot ∧ Sp ts a (i + 2) ∧ lAt ts (i + 2 + a.len) = [41]
  | .ite a b c, i => lAt ts i = [40] ∧ lAt ts (i + 1) = kIf ∧ Sp ts a (i + 2) ∧ Sp ts b (i + 2 + a.len) ∧ Sp ts c (i + 2 + a.len + b.len) ∧ lAt ts (i + 2 + a.len + b.len + c.len) = [41]
  | .dly b, i => lAt ts i = [40] ∧ litT (tkAt ts (i + 1)) = true ∧ lAt ts (i + 2) = kFby ∧ Sp ts b (i + 3) ∧ lAt ts (i + 3 + b.len) = [41]
  | .bin a b, i => lAt ts i = [40] ∧ Sp ts a (i + 1) ∧ (opOf (lAt ts (i + 1 + a.len))).isSome = true ∧ Sp ts b (i + 2 + a.len) ∧ lAt ts (i + 2 + a.len + b.len) = [41]

def mkN (ts : List Tk) (i dl : Nat) (n : Nd) : Nd :=
  { n with pos := (tkAt ts i).pos, delayed := decide (0 < dl), behind := decide (0 < i) && ((tkAt ts (i - 1)).l == kFby) }

def leafN0 (t : Tk) : Nd :=
  if t.l = kTrue then { ndZero with kind := 1, value := 1 } else if t.l = kFalse then { ndZero with kind := 1 }
  else if t.kind = 3 then { ndZero with kind := 0, value := valOf t.l } else { ndZero with kind := 2, name := t.text }

/-- the nodes of an expression at token i, behind so many delays, the first of them number off. -/
def flat (ts : List Tk) : Ast → Nat → Nat → Nat → List Nd
  | .leaf, i, dl, _ => [mkN ts i dl (leafN0 (tkAt ts i))]
  | .neg a, i, dl, off => mkN ts i dl { ndZero with kind := 3, a := off + 1 } :: flat ts a (i + 2) dl (off + 1)
  | .ite a b c, i, dl, off => mkN ts i dl { ndZero with kind := 4, a := off + 1, b := off + 1 + a.size, c := off + 1 + a.size + b.size } ::
      (flat ts a (i + 2) dl (off + 1) ++ (flat ts b (i + 2 + a.len) dl (off + 1 + a.size) ++ flat ts c (i + 2 + a.len + b.len) dl (off + 1 + a.size + b.size)))
  | .dly b, i, dl, off => mkN ts i dl { ndZero with kind := 5, a := off + 1, b := off + 2 } :: mkN ts (i + 1) dl (leafN0 (tkAt ts (i + 1))) :: flat ts b (i + 3) (dl + 1) (off + 2)
  | .bin a b, i, dl, off => mkN ts i dl { ndZero with kind := 6, op := (opOf (lAt ts (i + 1 + a.len))).getD 0, a := off + 1, b := off + 1 + a.size } ::
      (flat ts a (i + 1) dl (off + 1) ++ flat ts b (i + 2 + a.len) dl (off + 1 + a.size))

theorem flat_len (ts : List Tk) : ∀ (t : Ast) i dl off, (flat ts t i dl off).length = t.size := by
  intro t
  induction t with
  | leaf => intro i dl off; rfl
  | neg a iha => intro i dl off; simp [flat, Ast.size, iha]
  | ite a b c iha ihb ihc => intro i dl off; simp [flat, Ast.size, iha, ihb, ihc]; omega
  | dly b ihb => intro i dl off; simp [flat, Ast.size, ihb]
  | bin a b iha ihb => intro i dl off; simp [flat, Ast.size, iha, ihb]

/-- the reader with a list of what may still come (its next one first): what it answers, in at most n steps. -/
inductive Ans (ts : List Tk) : Nat → List UInt8 → Int → Nat → Int → Prop
  | done (n : Nat) (X : List UInt8) (d : Int) (i : Nat) (hi : i < ts.length) (hX : X.length ≤ 99) (hk : (tkAt ts i).kind = 0) : Ans ts n (80 :: X) d i (-1)
  | fail (n : Nat) (x : UInt8) (X : List UInt8) (d : Int) (i : Nat) (hi : i < ts.length) (hX : X.length ≤ 99) (h80 : ¬ (x = 80 ∧ (tkAt ts i).kind = 0)) (hr : (ruleF x.toNat (rtok (tkAt ts i)) d).2.2 = false) : Ans ts n (x :: X) d i ((tkAt ts i).pos : Int)
  | step (n : Nat) (x : UInt8) (X : List UInt8) (d : Int) (i : Nat) (r : Int) (m : List UInt8) (u : Bool) (hi : i < ts.length) (hX : X.length ≤ 99) (h80 : ¬ (x = 80 ∧ (tkAt ts i).kind = 0))
      (hr : ruleF x.toNat (rtok (tkAt ts i)) d = (m, u, true))
      (hn : Ans ts n (m ++ X) (if u = true ∧ lAt ts i = [40] then d + 1 else if u = true ∧ lAt ts i = [41] then d - 1 else d) (if u = true then i + 1 else i) r) : Ans ts (n + 1) (x :: X) d i r

section
variable {ts : List Tk} (hF : ∀ i, TkF (tkAt ts i))
include hF

omit hF in
/-- a token is used up that is no bracket. -/
theorem Ans.use {n : Nat} {x : UInt8} {X m : List UInt8} {d : Int} {i : Nat} {r : Int} (hi : i < ts.length) (hX : X.length ≤ 99) (h80 : x ≠ 80)
    (hr : ruleF x.toNat (rtok (tkAt ts i)) d = (m, true, true)) (h1 : lAt ts i ≠ [40]) (h2 : lAt ts i ≠ [41])
    (hn : Ans ts n (m ++ X) d (i + 1) r) : Ans ts (n + 1) (x :: X) d i r := by
  refine Ans.step n x X d i r m true hi hX (fun h => h80 h.1) hr ?_
  rw [if_neg (fun h => h1 h.2), if_neg (fun h => h2 h.2), if_pos rfl]
  exact hn

theorem Ans.sign {n : Nat} {X : List UInt8} {d : Int} {i : Nat} {r : Int} (x : Nat) (hx : x = 59 ∨ x = 61) (hi : i < ts.length) (hX : X.length ≤ 99) (h : lAt ts i = [UInt8.ofNat x])
    (hn : Ans ts n X d (i + 1) r) : Ans ts (n + 1) (UInt8.ofNat x :: X) d i r := by
  have hs := (hF i).sg x (by omega)
  have hk := hs.1 h
  refine Ans.use hi hX (by rcases hx with rfl | rfl <;> decide) (m := []) ?_ (by rw [h]; rcases hx with rfl | rfl <;> decide) (by rw [h]; rcases hx with rfl | rfl <;> decide) hn
  have hl : (rtok (tkAt ts i)).l = lAt ts i := (hF i).kw _ (by rw [h]; rcases hx with rfl | rfl <;> decide) |>.2 rfl
  have hc := c115 (tkAt ts i)
  rw [hk.1] at hc
  rcases hx with rfl | rfl
  all_goals
    unfold ruleF
    rw [if_neg (by decide), if_neg (by decide), if_neg (by decide), if_neg (by decide), if_neg (by decide), if_neg (by decide), if_neg (by decide), if_neg (by decide), hc, hl, hk.2]
    rfl

theorem Ans.close {n : Nat} {X : List UInt8} {d : Int} {i : Nat} {r : Int} (hi : i < ts.length) (hX : X.length ≤ 99) (h : lAt ts i = [41])
    (hn : Ans ts n X (d - 1) (i + 1) r) : Ans ts (n + 1) (41 :: X) d i r := by
  have hs := (hF i).sg 41 (by omega)
  have hk := hs.1 h
  have hl : (rtok (tkAt ts i)).l = lAt ts i := (hF i).kw _ (by rw [h]; decide) |>.2 rfl
  have hc := c115 (tkAt ts i)
  rw [hk.1] at hc
  refine Ans.step n 41 X d i r [] true hi hX (fun h => absurd h.1 (by decide)) ?_ ?_
  · unfold ruleF
    rw [if_neg (by decide), if_neg (by decide), if_neg (by decide), if_neg (by decide), if_neg (by decide), if_neg (by decide), if_neg (by decide), if_neg (by decide), hc, hl, hk.2]
    rfl
  · rw [if_neg (by rw [h]; decide), if_pos ⟨rfl, h⟩, if_pos rfl]
    exact hn

theorem Ans.nosign {X : List UInt8} {d : Int} {i : Nat} (x : Nat) (hx : x = 59 ∨ x = 61 ∨ x = 41) (hi : i < ts.length) (hX : X.length ≤ 99) (h : lAt ts i ≠ [UInt8.ofNat x]) :
    Ans ts 0 (UInt8.ofNat x :: X) d i ((tkAt ts i).pos : Int) := by
  have hs := (hF i).sg x hx
  refine Ans.fail 0 _ X d i hi hX (fun h => absurd h.1 (by rcases hx with rfl | rfl | rfl <;> decide)) ?_
  have hc := c115 (tkAt ts i)
  have key : ((rtok (tkAt ts i)).c == 115 && (((rtok (tkAt ts i)).l.getD 0 0).toNat == x)) = false := by
    rw [hc]
    by_cases h4 : (tkAt ts i).kind = 4
    · have hl : (rtok (tkAt ts i)).l = lAt ts i := by rw [rtok_l, if_pos (.inr (.inr h4))]
      rw [hl]
      have : (((lAt ts i).getD 0 0).toNat == x) = false := by rw [beq_eq_false_iff_ne]; exact fun e => h (hs.2 ⟨h4, e⟩)
      rw [this, Bool.and_false]
    · simp [h4]
  rcases hx with rfl | rfl | rfl
  all_goals
    unfold ruleF
    rw [if_neg (by decide), if_neg (by decide), if_neg (by decide), if_neg (by decide), if_neg (by decide), if_neg (by decide), if_neg (by decide), if_neg (by decide)]
    exact key

end

end Go.Proofs.YtmndgoapkmhglaaDoor

/- Plain mathematics: both readers find the same expression, or the same first token that cannot stand. -/
namespace Go.Proofs.YtmndgoapkmhglaaDoor

section
variable {ts : List Tk} (hF : ∀ i, TkF (tkAt ts i))
include hF

theorem leaf_kw {i : Nat} (h : leafT (tkAt ts i) = true) : kwL.contains (lAt ts i) = false ∨ lAt ts i = kTrue ∨ lAt ts i = kFalse := by
  unfold leafT litT at h
  simp only [Bool.or_eq_true, beq_iff_eq] at h
  rcases h with ((h | h) | h) | h
  · exact .inl ((hF i).k3 h)
  · exact .inr (.inl h)
  · exact .inr (.inr h)
  · exact .inl ((hF i).k1 h)

theorem leaf_ne {i : Nat} (h : leafT (tkAt ts i) = true) {l : List UInt8} (hl : kwL.contains l = true) (h1 : l ≠ kTrue) (h2 : l ≠ kFalse) : lAt ts i ≠ l := by
  intro e
  rcases leaf_kw hF h with h | h | h
  · rw [e, hl] at h; cases h
  · exact h1 (e.symm.trans h)
  · exact h2 (e.symm.trans h)

theorem kw_leaf {i : Nat} (h : kwL.contains (lAt ts i) = true) (h1 : lAt ts i ≠ kTrue) (h2 : lAt ts i ≠ kFalse) : leafT (tkAt ts i) = false := by
  cases e : leafT (tkAt ts i) with
  | false => rfl
  | true => exact absurd rfl (leaf_ne hF e h h1 h2)

theorem leafT_eq (i : Nat) : (rlit (rtok (tkAt ts i)) || (rtok (tkAt ts i)).c == 97) = leafT (tkAt ts i) := by
  rw [(hF i).lit, c97]; rfl

theorem rule69 (i : Nat) (d : Int) : ruleF 69 (rtok (tkAt ts i)) d = if lAt ts i = [40] then ([73, 41], true, decide (d < 16)) else ([], true, leafT (tkAt ts i)) := by
  unfold ruleF
  rw [if_neg (by decide), if_neg (by decide), if_neg (by decide), if_neg (by decide), if_pos rfl, (hF i).if (by decide), leafT_eq hF]

theorem Ans.leaf {n : Nat} {X : List UInt8} {d : Int} {i : Nat} {r : Int} (hi : i < ts.length) (hX : X.length ≤ 99) (h : leafT (tkAt ts i) = true) (h40 : lAt ts i ≠ [40]) (hn : Ans ts n X d (i + 1) r) : Ans ts (n + 1) (69 :: X) d i r :=
  Ans.use hi hX (by decide) (m := []) (by
    have := rule69 hF i d
    rw [if_neg h40, h] at this
    exact this) h40 (leaf_ne hF h (by decide) (by decide) (by decide)) hn

theorem Ans.noleaf {X : List UInt8} {d : Int} {i : Nat} (hi : i < ts.length) (hX : X.length ≤ 99) (h : leafT (tkAt ts i) = false) (h40 : lAt ts i ≠ [40]) : Ans ts 0 (69 :: X) d i ((tkAt ts i).pos : Int) :=
  Ans.fail 0 _ X d i hi hX (fun h => absurd h.1 (by decide)) (by
    have := rule69 hF i d
    rw [if_neg h40, h] at this
    show (ruleF 69 (rtok (tkAt ts i)) d).2.2 = false
    rw [this])

theorem Ans.opens {n : Nat} {X : List UInt8} {d : Int} {i : Nat} {r : Int} (hi : i < ts.length) (hX : X.length ≤ 99) (h40 : lAt ts i = [40]) (hd : d < 16) (hn : Ans ts n (73 :: 41 :: X) (d + 1) (i + 1) r) : Ans ts (n + 1) (69 :: X) d i r := by
  refine Ans.step n 69 X d i r [73, 41] true hi hX (fun h => absurd h.1 (by decide)) ?_ ?_
  · have := rule69 hF i d
    rw [if_pos h40] at this
    show ruleF 69 (rtok (tkAt ts i)) d = _
    rw [this]; simp [hd]
  · rw [if_pos ⟨rfl, h40⟩, if_pos rfl]; exact hn

theorem Ans.deep {X : List UInt8} {d : Int} {i : Nat} (hi : i < ts.length) (hX : X.length ≤ 99) (h40 : lAt ts i = [40]) (hd : ¬ d < 16) : Ans ts 0 (69 :: X) d i ((tkAt ts i).pos : Int) :=
  Ans.fail 0 _ X d i hi hX (fun h => absurd h.1 (by decide)) (by
    have := rule69 hF i d
    rw [if_pos h40] at this
    show (ruleF 69 (rtok (tkAt ts i)) d).2.2 = false
    rw [this]; simp; omega)

theorem rule73 (i : Nat) (d : Int) : ruleF 73 (rtok (tkAt ts i)) d = if lAt ts i = kNot then ([69], true, true) else if lAt ts i = kIf then ([69, 69, 69], true, true) else if litT (tkAt ts i) = true then ([76], true, true) else if (tkAt ts i).kind = 1 then ([79], true, true) else ([69, 79], false, lAt ts i == [40]) := by
  unfold ruleF
  rw [if_neg (by decide), if_neg (by decide), if_neg (by decide), if_neg (by decide), if_neg (by decide), if_pos rfl]
  unfold insF
  rw [(hF i).if (by decide), (hF i).if (by decide), (hF i).lit, (hF i).eq (by decide)]
  have : ((rtok (tkAt ts i)).c = 97) = ((tkAt ts i).kind = 1) := by
    have := c97 (tkAt ts i)
    rw [Bool.eq_iff_iff, beq_iff_eq, beq_iff_eq] at this
    exact propext this
  have e : ∀ x y : List UInt8 × Bool × Bool, (if (rtok (tkAt ts i)).c = 97 then x else y) = if (tkAt ts i).kind = 1 then x else y := fun x y => by
    by_cases h : (tkAt ts i).kind = 1
    · rw [if_pos h, if_pos (this.symm ▸ h)]
    · rw [if_neg h, if_neg (this.symm ▸ h)]
  rw [e]

theorem Ans.isNot {n : Nat} {X : List UInt8} {d : Int} {i : Nat} {r : Int} (hi : i < ts.length) (hX : X.length ≤ 99) (h : lAt ts i = kNot) (hn : Ans ts n (69 :: X) d (i + 1) r) : Ans ts (n + 1) (73 :: X) d i r :=
  Ans.use hi hX (by decide) (m := [69]) (by
    have := rule73 hF i d
    rw [if_pos h] at this
    exact this) (by rw [h]; decide) (by rw [h]; decide) hn
theorem Ans.isIf {n : Nat} {X : List UInt8} {d : Int} {i : Nat} {r : Int} (hi : i < ts.length) (hX : X.length ≤ 99) (h : lAt ts i = kIf) (hn : Ans ts n (69 :: 69 :: 69 :: X) d (i + 1) r) : Ans ts (n + 1) (73 :: X) d i r :=
  Ans.use hi hX (by decide) (m := [69, 69, 69]) (by
    have := rule73 hF i d
    rw [if_neg (by rw [h]; decide), if_pos h] at this
    exact this) (by rw [h]; decide) (by rw [h]; decide) hn
theorem leaf_ne2 {i : Nat} (h : leafT (tkAt ts i) = true) : lAt ts i ≠ kNot ∧ lAt ts i ≠ kIf ∧ lAt ts i ≠ [40] ∧ lAt ts i ≠ [41] :=
  ⟨leaf_ne hF h (by decide) (by decide) (by decide), leaf_ne hF h (by decide) (by decide) (by decide), leaf_ne hF h (by decide) (by decide) (by decide), leaf_ne hF h (by decide) (by decide) (by decide)⟩
theorem Ans.isLit {n : Nat} {X : List UInt8} {d : Int} {i : Nat} {r : Int} (hi : i < ts.length) (hX : X.length ≤ 99) (h : litT (tkAt ts i) = true) (hn : Ans ts n (76 :: X) d (i + 1) r) : Ans ts (n + 1) (73 :: X) d i r := by
  obtain ⟨a, b, c, e⟩ := leaf_ne2 hF (i := i) (by unfold leafT; rw [h]; rfl)
  exact Ans.use hi hX (by decide) (m := [76]) (by
    have := rule73 hF i d
    rw [if_neg a, if_neg b, if_pos h] at this
    exact this) c e hn
theorem Ans.isName {n : Nat} {X : List UInt8} {d : Int} {i : Nat} {r : Int} (hi : i < ts.length) (hX : X.length ≤ 99) (h : leafT (tkAt ts i) = true) (hl : ¬ litT (tkAt ts i) = true) (hn : Ans ts n (79 :: X) d (i + 1) r) : Ans ts (n + 1) (73 :: X) d i r := by
  obtain ⟨a, b, c, e⟩ := leaf_ne2 hF h
  have hk : (tkAt ts i).kind = 1 := by
    unfold leafT at h
    simpa [hl] using h
  exact Ans.use hi hX (by decide) (m := [79]) (by
    have := rule73 hF i d
    rw [if_neg a, if_neg b, if_neg hl, if_pos hk] at this
    exact this) c e hn
theorem Ans.isOpen {n : Nat} {X : List UInt8} {d : Int} {i : Nat} {r : Int} (hi : i < ts.length) (hX : X.length ≤ 99) (h : lAt ts i = [40]) (hn : Ans ts n (69 :: 79 :: X) d i r) : Ans ts (n + 1) (73 :: X) d i r := by
  have hlf := kw_leaf hF (i := i) (by rw [h]; decide) (by rw [h]; decide) (by rw [h]; decide)
  unfold leafT at hlf
  simp only [Bool.or_eq_false_iff, beq_eq_false_iff_ne] at hlf
  refine Ans.step n 73 X d i r [69, 79] false hi hX (fun h => absurd h.1 (by decide)) ?_ ?_
  · have := rule73 hF i d
    rw [if_neg (by rw [h]; decide), if_neg (by rw [h]; decide), if_neg (by rw [hlf.1]; decide), if_neg hlf.2] at this
    show ruleF 73 (rtok (tkAt ts i)) d = _
    rw [this, h]; rfl
  · rw [if_neg (by simp), if_neg (by simp), if_neg (by simp)]; exact hn
theorem Ans.isNone {X : List UInt8} {d : Int} {i : Nat} (hi : i < ts.length) (hX : X.length ≤ 99) (h1 : lAt ts i ≠ kNot) (h2 : lAt ts i ≠ kIf) (h3 : leafT (tkAt ts i) = false) (h4 : lAt ts i ≠ [40]) : Ans ts 0 (73 :: X) d i ((tkAt ts i).pos : Int) := by
  unfold leafT at h3
  simp only [Bool.or_eq_false_iff, beq_eq_false_iff_ne] at h3
  refine Ans.fail 0 _ X d i hi hX (fun h => absurd h.1 (by decide)) ?_
  have := rule73 hF i d
  rw [if_neg h1, if_neg h2, if_neg (by rw [h3.1]; decide), if_neg h3.2] at this
  show (ruleF 73 (rtok (tkAt ts i)) d).2.2 = false
  rw [this]; simp [h4]

theorem rule76 (i : Nat) (d : Int) : ruleF 76 (rtok (tkAt ts i)) d = ([69], true, (opOf (lAt ts i)).isSome || lAt ts i == kFby) := by
  unfold ruleF
  rw [if_neg (by decide), if_neg (by decide), if_neg (by decide), if_neg (by decide), if_neg (by decide), if_neg (by decide), if_pos rfl, (hF i).rl, (hF i).eq (by decide)]
theorem rule79 (i : Nat) (d : Int) : ruleF 79 (rtok (tkAt ts i)) d = ([69], true, (opOf (lAt ts i)).isSome) := by
  unfold ruleF
  rw [if_neg (by decide), if_neg (by decide), if_neg (by decide), if_neg (by decide), if_neg (by decide), if_neg (by decide), if_neg (by decide), if_pos rfl, (hF i).rl]

omit hF in
theorem op_ne {l : List UInt8} (h : (opOf l).isSome = true) : l ≠ [40] ∧ l ≠ [41] ∧ l ≠ [] ∧ l ≠ kFby := by
  refine ⟨?_, ?_, ?_, ?_⟩ <;> (rintro rfl; revert h; decide)

/-- what follows a first part: an operator, or (behind a literal) the delay. -/
theorem Ans.isOp {n : Nat} {X : List UInt8} {d : Int} {i : Nat} {r : Int} (x : UInt8) (hx : x = 76 ∨ x = 79) (hi : i < ts.length) (hX : X.length ≤ 99) (h : (opOf (lAt ts i)).isSome = true) (hn : Ans ts n (69 :: X) d (i + 1) r) : Ans ts (n + 1) (x :: X) d i r := by
  obtain ⟨a, b, _, _⟩ := op_ne h
  rcases hx with rfl | rfl
  · exact Ans.use hi hX (by decide) (m := [69]) (by
      have := rule76 hF i d
      rw [h] at this
      exact this) a b hn
  · exact Ans.use hi hX (by decide) (m := [69]) (by
      have := rule79 hF i d
      rw [h] at this
      exact this) a b hn
theorem Ans.isFby {n : Nat} {X : List UInt8} {d : Int} {i : Nat} {r : Int} (hi : i < ts.length) (hX : X.length ≤ 99) (h : lAt ts i = kFby) (hn : Ans ts n (69 :: X) d (i + 1) r) : Ans ts (n + 1) (76 :: X) d i r :=
  Ans.use hi hX (by decide) (m := [69]) (by
      have := rule76 hF i d
      rw [h] at this
      exact this) (by rw [h]; decide) (by rw [h]; decide) hn
theorem Ans.noOp {X : List UInt8} {d : Int} {i : Nat} (x : UInt8) (hx : x = 76 ∧ lAt ts i ≠ kFby ∨ x = 79) (hi : i < ts.length) (hX : X.length ≤ 99) (h : opOf (lAt ts i) = none) : Ans ts 0 (x :: X) d i ((tkAt ts i).pos : Int) := by
  rcases hx with ⟨rfl, hf⟩ | rfl
  · refine Ans.fail 0 _ X d i hi hX (fun h => absurd h.1 (by decide)) ?_
    show (ruleF 76 (rtok (tkAt ts i)) d).2.2 = false
    rw [rule76 hF, h]; simp [hf]
  · refine Ans.fail 0 _ X d i hi hX (fun h => absurd h.1 (by decide)) ?_
    show (ruleF 79 (rtok (tkAt ts i)) d).2.2 = false
    rw [rule79 hF, h]; rfl

end

/-- what a reader of expressions, with d brackets open, has to do with the list's reader. -/
structure ExA (ts : List Tk) (d : Nat) (ex : Ex) : Prop where
  ok : ∀ p r p', p.next < ts.length → ex p = .ok (r, p') → p.depth = d → ∃ t : Ast, Sp ts t p.next ∧ p.next + t.len < ts.length ∧ r = p.nodes.length ∧
    p' = { p with next := p.next + t.len, nodes := p.nodes ++ flat ts t p.next p.delays p.nodes.length } ∧
    ∀ X n r, X.length ≤ 4 + 3 * d → Ans ts n X d (p.next + t.len) r → ∃ n', Ans ts n' (69 :: X) d p.next r
  bad : ∀ p k, p.next < ts.length → ex p = .error k → p.depth = d → k < ts.length ∧ ∀ X, X.length ≤ 4 + 3 * d → ∃ n, Ans ts n (69 :: X) d p.next ((tkAt ts k).pos : Int)
  one : ∀ p k, ex p = .error k → lAt ts p.next ≠ [40] → k = p.next ∧ leafT (tkAt ts p.next) = false

/-- the same within brackets. -/
def InA (ts : List Tk) (d i dl off : Nat) (p : PS) (x : Except Nat (Nd × PS)) : Prop :=
  match x with
  | .ok (n', p') => ∃ (t : Ast) (m : Nat) (rest : List Nd), t.len = m + 2 ∧ (lAt ts i = [40] → lAt ts (i + m + 1) = [41] → Sp ts t i) ∧ i + m + 1 < ts.length ∧
      flat ts t i dl off = n' :: rest ∧ p' = { p with next := i + m + 1, nodes := p.nodes ++ rest } ∧
      ∀ Y n r, Y.length ≤ 5 + 3 * d → Ans ts n Y ((d : Int) + 1) (i + m + 1) r → ∃ n', Ans ts n' (73 :: Y) ((d : Int) + 1) (i + 1) r
  | .error k => k < ts.length ∧ ∀ Y, Y.length ≤ 5 + 3 * d → ∃ n, Ans ts n (73 :: Y) ((d : Int) + 1) (i + 1) ((tkAt ts k).pos : Int)

theorem isLit_flat {ts : List Tk} (t : Ast) (i dl off : Nat) (hs : Sp ts t i) : isLit ((flat ts t i dl off).getD 0 ndZero) = true ↔ (t = .leaf ∧ litT (tkAt ts i) = true) := by
  cases t with
  | leaf =>
    have h := hs.1
    unfold leafT litT at h
    simp only [Bool.or_eq_true, beq_iff_eq] at h
    simp only [flat, List.getD_cons_zero, mkN, isLit, leafN0, litT, true_and, Bool.or_eq_true, beq_iff_eq]
    split
    · rename_i e; simp [e]
    split
    · rename_i e; simp [e]
    split
    · rename_i e; simp [e]
    · rename_i h1 h2 h3; simp [h1, h2, h3]
  | neg a => simp [flat, mkN, isLit]
  | ite a b c => simp [flat, mkN, isLit]
  | dly b => simp [flat, mkN, isLit]
  | bin a b => simp [flat, mkN, isLit]

theorem Ast.len_pos (t : Ast) : 0 < t.len := by cases t <;> simp [Ast.len]
theorem Ast.size_pos (t : Ast) : 0 < t.size := by cases t <;> simp [Ast.size]

end Go.Proofs.YtmndgoapkmhglaaDoor
