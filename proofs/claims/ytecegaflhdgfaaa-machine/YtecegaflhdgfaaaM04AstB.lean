import Derived.Test.YtecegaflhdgfaaaM01Tkl
import Derived.Test.YtecegaflhdgfaaaM03Tko
/- Plain mathematics: tokens as the document's own reader has them, and the parts of a text. -/
namespace Go.Proofs.Ytecegaflhdgfaaa

theorem kw_cases {l : List UInt8} (h : kwL.contains l = true) : (∃ c, l = [c] ∧ cls c.toNat = 3) ∨ (keptL.contains l = true ∧ ∃ c, c ∈ l ∧ cls c.toNat = 1) := by
  have h' : l ∈ kwL := by simpa using h
  simp only [kwL, List.mem_cons, List.not_mem_nil, or_false] at h'
  rcases h' with rfl | rfl | rfl | rfl | rfl | rfl | rfl | rfl | rfl | rfl | rfl | rfl | rfl | rfl | rfl | rfl | rfl | rfl | rfl | rfl
  all_goals first | exact .inl ⟨_, rfl, by decide⟩ | exact .inr ⟨by decide, 105, by decide, by decide⟩ | exact .inr ⟨by decide, 98, by decide, by decide⟩ | exact .inr ⟨by decide, 97, by decide, by decide⟩ | exact .inr ⟨by decide, 110, by decide, by decide⟩ | exact .inr ⟨by decide, 116, by decide, by decide⟩

/-- what the two readers of tokens have in common. -/
structure TkF (t : Tk) : Prop where
  kw : ∀ l, kwL.contains l = true → ((rtok t).l = l ↔ t.l = l)
  k0 : t.kind = 0 → kwL.contains t.l = false
  k1 : t.kind = 1 → kwL.contains t.l = false
  k3 : t.kind = 3 → kwL.contains t.l = false
  sg : ∀ x : Nat, x = 59 ∨ x = 61 ∨ x = 41 → (t.l = [UInt8.ofNat x] ↔ (t.kind = 4 ∧ (t.l.getD 0 0).toNat = x))
  pos : t.kind ≠ 0 → t.l ≠ []

theorem rtok_l (t : Tk) : (rtok t).l = if t.kind = 1 ∨ t.kind = 2 ∨ t.kind = 4 then t.l else [] := by
  unfold rtok RTk.l Tk.l
  simp only
  split <;> rfl

theorem kwL_nil : kwL.contains ([] : List UInt8) = false := by decide

theorem TkF.ofEnd (k : Nat) : TkF ⟨0, k, ⟨#[]⟩⟩ := by
  refine ⟨fun l hl => ?_, fun _ => kwL_nil, fun h => (by cases h), fun h => (by cases h), fun x hx => ?_, fun h => absurd rfl h⟩
  · rw [rtok_l]
    simp only [Tk.l]
    exact Iff.rfl
  · constructor
    · intro h; simp [Tk.l] at h
    · rintro ⟨h, _⟩; cases h

theorem TkF.ofFine {t : Tk} (h : Fine t) : TkF t := by
  rcases h with ⟨cl, hcl, hne, hall, hk⟩ | ⟨c, hc, h3, hk⟩
  · have hno : kwL.contains t.l = true → cl = 1 ∧ keptL.contains t.l = true := by
      intro hkw
      rcases kw_cases hkw with ⟨c, hc, h3⟩ | ⟨hkp, c, hc, h1⟩
      · have := W_cls (hall c (by rw [hc]; simp)); omega
      · have := W_cls (hall c hc); exact ⟨by omega, hkp⟩
    have hsg : ∀ c : UInt8, cls c.toNat = 3 → t.l ≠ [c] := by
      intro c h3 e
      have := W_cls (hall c (by rw [e]; simp)); omega
    have hkind : (t.kind = 2 ∧ keptL.contains t.l = true ∧ cl = 1) ∨ (t.kind = 5 ∧ ¬ (cl = 1 ∧ keptL.contains t.l = true)) ∨ (t.kind = 1 ∧ keptL.contains t.l = false) ∨ (t.kind = 3 ∧ cl = 2) := by
      rcases hcl with rfl | rfl
      · unfold kindK wordK at hk
        rw [if_pos rfl] at hk
        split at hk
        · exact .inl ⟨hk, by assumption, rfl⟩
        · rename_i hn
          split at hk
          · exact .inr (.inl ⟨hk, fun h => hn h.2⟩)
          · exact .inr (.inr (.inl ⟨hk, by simpa using hn⟩))
      · unfold kindK numK at hk
        rw [if_neg (by decide), if_pos rfl] at hk
        split at hk
        · exact .inr (.inl ⟨hk, fun h => by omega⟩)
        · exact .inr (.inr (.inr ⟨hk, rfl⟩))
    refine ⟨fun l hl => ?_, fun h => by omega, fun h => ?_, fun h => ?_, fun x hx => ?_, fun _ => hne⟩
    · rw [rtok_l]
      by_cases h12 : t.kind = 1 ∨ t.kind = 2 ∨ t.kind = 4
      · rw [if_pos h12]
      · rw [if_neg h12]
        constructor
        · intro e; rw [← e] at hl; cases hl
        · intro e
          have := hno (by rw [e]; exact hl)
          rcases hkind with ⟨h, _⟩ | ⟨h, h'⟩ | ⟨h, _⟩ | ⟨h, h'⟩
          · omega
          · exact absurd this h'
          · omega
          · omega
    · cases hkw : kwL.contains t.l with
      | false => rfl
      | true =>
        have := hno hkw
        rcases hkind with ⟨h', _⟩ | ⟨h', _⟩ | ⟨_, h'⟩ | ⟨h', _⟩
        · omega
        · omega
        · rw [h'] at this; cases this.2
        · omega
    · cases hkw : kwL.contains t.l with
      | false => rfl
      | true =>
        have := hno hkw
        rcases hkind with ⟨h', _⟩ | ⟨h', _⟩ | ⟨h', _⟩ | ⟨_, h'⟩ <;> omega
    · constructor
      · intro e
        exact absurd e (hsg _ (by rcases hx with rfl | rfl | rfl <;> decide))
      · rintro ⟨h, _⟩; omega
  · have hc4 := cls_le c.toNat
    have hk' : (t.kind = 4 ∧ cls c.toNat = 3) ∨ (t.kind = 5 ∧ cls c.toNat = 4) := by
      unfold kindK at hk
      rw [if_neg (by omega), if_neg (by omega)] at hk
      by_cases e : cls c.toNat = 3
      · rw [if_pos e] at hk; exact .inl ⟨hk, e⟩
      · rw [if_neg e] at hk; exact .inr ⟨hk, by omega⟩
    have hno : kwL.contains t.l = true → cls c.toNat = 3 := by
      intro hkw
      rcases kw_cases hkw with ⟨d, hd, h3'⟩ | ⟨hkp, d, hd, h1⟩
      · rw [hc] at hd; simp at hd; rw [hd]; exact h3'
      · rw [hc] at hd; simp at hd; rw [hd] at h1; omega
    refine ⟨fun l hl => ?_, fun h => by omega, fun h => by omega, fun h => by omega, fun x hx => ?_, fun _ => by rw [hc]; simp⟩
    · rw [rtok_l]
      rcases hk' with ⟨h, _⟩ | ⟨h, h'⟩
      · rw [if_pos (.inr (.inr h))]
      · rw [if_neg (by omega)]
        constructor
        · intro e; rw [← e] at hl; cases hl
        · intro e
          have := hno (by rw [e]; exact hl)
          omega
    · rw [hc]
      constructor
      · intro e
        have ec : c = UInt8.ofNat x := by simpa using e
        have h3' : cls c.toNat = 3 := by rw [ec]; rcases hx with rfl | rfl | rfl <;> decide
        refine ⟨by omega, ?_⟩
        rw [ec]; rcases hx with rfl | rfl | rfl <;> rfl
      · rintro ⟨_, e⟩
        have e' : c.toNat = x := e
        rw [← e']; simp

/-- the tokens of a text, each as bytes make it. -/
theorem toks_F (s : ByteArray) (i : Nat) : TkF (tkAt (toks s) i) := by
  rw [toks_list]
  by_cases h : i < (tk 0 s.data.toList).length
  · rw [tkAt_left h]; exact TkF.ofFine (tk_fine _ _ _ rfl _ (tkAt_mem h))
  · by_cases e : i = (tk 0 s.data.toList).length
    · rw [e, tkAt_mid]; exact TkF.ofEnd _
    · have : tkAt (tk 0 s.data.toList ++ [⟨0, s.size, ⟨#[]⟩⟩]) i = tkEnd := by
        unfold tkAt
        rw [List.getD_eq_getElem?_getD, List.getElem?_eq_none (by simp; omega)]
        rfl
      rw [this]; exact TkF.ofEnd 0

section
variable {t : Tk} (h : TkF t)
include h
theorem TkF.not0 (hk : kwL.contains t.l = true) : t.kind ≠ 0 := fun e => by rw [h.k0 e] at hk; cases hk
theorem TkF.not1 (hk : kwL.contains t.l = true) : t.kind ≠ 1 := fun e => by rw [h.k1 e] at hk; cases hk
theorem TkF.not3 (hk : kwL.contains t.l = true) : t.kind ≠ 3 := fun e => by rw [h.k3 e] at hk; cases hk
theorem TkF.op : opOf (rtok t).l = opOf t.l := by
  have e : ∀ (l : List UInt8), kwL.contains l = true → ∀ (x y : Option Nat), (if (rtok t).l = l then x else y) = if t.l = l then x else y := fun l hl x y => by
    by_cases e : t.l = l
    · rw [if_pos e, if_pos ((h.kw l hl).2 e)]
    · rw [if_neg e, if_neg (fun e' => e ((h.kw l hl).1 e'))]
  unfold opOf
  rw [e [43] (by decide), e [45] (by decide), e [42] (by decide), e [47] (by decide), e [60] (by decide), e [61] (by decide), e [38] (by decide), e [124] (by decide)]
theorem TkF.rl : rop (rtok t).l = (opOf t.l).isSome := by unfold rop; rw [h.op]
theorem TkF.eq {l : List UInt8} (hl : kwL.contains l = true) : ((rtok t).l == l) = (t.l == l) := by
  rw [Bool.eq_iff_iff, beq_iff_eq, beq_iff_eq]; exact h.kw l hl
theorem TkF.if {α : Type} {l : List UInt8} (hl : kwL.contains l = true) (x y : α) : (if (rtok t).l = l then x else y) = if t.l = l then x else y := by
  by_cases e : t.l = l
  · rw [if_pos e, if_pos ((h.kw l hl).2 e)]
  · rw [if_neg e, if_neg (fun e' => e ((h.kw l hl).1 e'))]
end

theorem c97 (t : Tk) : ((rtok t).c == 97) = (t.kind == 1) := by
  unfold rtok; simp only; rw [Bool.eq_iff_iff, beq_iff_eq, beq_iff_eq]
  constructor
  · intro h; split at h; omega; split at h; assumption; split at h; omega; split at h; omega; split at h <;> omega
  · intro h; rw [h]; rfl
theorem c110 (t : Tk) : ((rtok t).c == 110) = (t.kind == 3) := by
  unfold rtok; simp only; rw [Bool.eq_iff_iff, beq_iff_eq, beq_iff_eq]
  constructor
  · intro h; split at h; omega; split at h; omega; split at h; omega; split at h; assumption; split at h <;> omega
  · intro h; rw [h]; rfl
theorem c101 (t : Tk) : ((rtok t).c == 101) = (t.kind == 0) := by
  unfold rtok; simp only; rw [Bool.eq_iff_iff, beq_iff_eq, beq_iff_eq]
  constructor
  · intro h; split at h; assumption; split at h; omega; split at h; omega; split at h; omega; split at h <;> omega
  · intro h; rw [h]; rfl
theorem c115 (t : Tk) : ((rtok t).c == 115) = (t.kind == 4) := by
  unfold rtok; simp only; rw [Bool.eq_iff_iff, beq_iff_eq, beq_iff_eq]
  constructor
  · intro h; split at h; omega; split at h; omega; split at h; omega; split at h; omega; split at h <;> omega
  · intro h; rw [h]; rfl
theorem rn3 {t : Tk} (h : t.kind = 3) : (rtok t).n = valOf t.l := by unfold rtok; simp only; rw [if_pos h]; rfl

/-- a literal token. -/
def litT (t : Tk) : Bool := t.kind == 3 || t.l == kTrue || t.l == kFalse
theorem TkF.lit {t : Tk} (h : TkF t) : rlit (rtok t) = litT t := by
  unfold rlit litT; rw [c110, h.eq (by decide), h.eq (by decide)]

end Go.Proofs.Ytecegaflhdgfaaa

/- Plain mathematics: the parts of a text as the two readers find them. -/
namespace Go.Proofs.Ytecegaflhdgfaaa

/-- an expression: a token alone, or what stands in brackets. -/
inductive Ast where
  | leaf
  | neg (a : Ast)
  | ite (a b c : Ast)
  | dly (b : Ast)
  | bin (a b : Ast)

/-- how many tokens. -/
def Ast.len : Ast → Nat
  | .leaf => 1
  | .neg a => a.len + 3
  | .ite a b c => a.len + b.len + c.len + 3
  | .dly b => b.len + 4
  | .bin a b => a.len + b.len + 3
/-- how many nodes. -/
def Ast.size : Ast → Nat
  | .leaf => 1
  | .neg a => a.size + 1
  | .ite a b c => a.size + b.size + c.size + 1
  | .dly b => b.size + 2
  | .bin a b => a.size + b.size + 1

def leafT (t : Tk) : Bool := litT t || t.kind == 1

abbrev lAt (ts : List Tk) (i : Nat) : List UInt8 := (tkAt ts i).l

/-- an expression stands at token i. -/
def Sp (ts : List Tk) : Ast → Nat → Prop
  | .leaf, i => leafT (tkAt ts i) = true ∧ lAt ts i ≠ [40]
  | .neg a, i => lAt ts i = [40] ∧ lAt ts (i + 1) = kNot ∧ Sp ts a (i + 2) ∧ lAt ts (i + 2 + a.len) = [41]
  | .ite a b c, i => lAt ts i = [40] ∧ lAt ts (i + 1) = kIf ∧ Sp ts a (i + 2) ∧ Sp ts b (i + 2 + a.len) ∧ Sp ts c (i + 2 + a.len + b.len) ∧ lAt ts (i + 2 + a.len + b.len + c.len) = [41]
  | .dly b, i => lAt ts i = [40] ∧ litT (tkAt ts (i + 1)) = true ∧ lAt ts (i + 2) = kFby ∧ Sp ts b (i + 3) ∧ lAt ts (i + 3 + b.len) = [41]
  | .bin a b, i => lAt ts i = [40] ∧ Sp ts a (i + 1) ∧ (opOf (lAt ts (i + 1 + a.len))).isSome = true ∧ Sp ts b (i + 2 + a.len) ∧ lAt ts (i + 2 + a.len + b.len) = [41]

def mkN (ts : List Tk) (i dl : Nat) (n : Nd) : Nd :=
  { n with pos := (tkAt ts i).pos, delayed := decide (0 < dl), behind := decide (0 < i) && ((tkAt ts (i - 1)).l == kFby) }

def leafN0 (t : Tk) : Nd :=
  if t.l = kTrue then { ndZero with kind := 1, value := 1 } else if t.l = kFalse then { ndZero with kind := 1 }
  else if t.kind = 3 then { ndZero with kind := 0, value := valOf t.l } else { ndZero with kind := 2, name := t.text }

/-- the nodes of an expression at token i, behind so many delays, the first of them number off. -/
def flat (ts : List Tk) : Ast → Nat → Nat → Nat → List Nd
  | .leaf, i, dl, _ => [mkN ts i dl (leafN0 (tkAt ts i))]
  | .neg a, i, dl, off => mkN ts i dl { ndZero with kind := 3, a := off + 1 } :: flat ts a (i + 2) dl (off + 1)
  | .ite a b c, i, dl, off => mkN ts i dl { ndZero with kind := 4, a := off + 1, b := off + 1 + a.size, c := off + 1 + a.size + b.size } ::
      (flat ts a (i + 2) dl (off + 1) ++ (flat ts b (i + 2 + a.len) dl (off + 1 + a.size) ++ flat ts c (i + 2 + a.len + b.len) dl (off + 1 + a.size + b.size)))
  | .dly b, i, dl, off => mkN ts i dl { ndZero with kind := 5, a := off + 1, b := off + 2 } :: mkN ts (i + 1) dl (leafN0 (tkAt ts (i + 1))) :: flat ts b (i + 3) (dl + 1) (off + 2)
  | .bin a b, i, dl, off => mkN ts i dl { ndZero with kind := 6, op := (opOf (lAt ts (i + 1 + a.len))).getD 0, a := off + 1, b := off + 1 + a.size } ::
      (flat ts a (i + 1) dl (off + 1) ++ flat ts b (i + 2 + a.len) dl (off + 1 + a.size))

theorem flat_len (ts : List Tk) : ∀ (t : Ast) i dl off, (flat ts t i dl off).length = t.size := by
  intro t
  induction t with
  | leaf => intro i dl off; rfl
  | neg a iha => intro i dl off; simp [flat, Ast.size, iha]
  | ite a b c iha ihb ihc => intro i dl off; simp [flat, Ast.size, iha, ihb, ihc]; omega
  | dly b ihb => intro i dl off; simp [flat, Ast.size, ihb]
  | bin a b iha ihb => intro i dl off; simp [flat, Ast.size, iha, ihb]

/-- the reader with a list of what may still come (its next one first): what it answers, in at most n steps. -/
inductive Ans (ts : List Tk) : Nat → List UInt8 → Int → Nat → Int → Prop
  | done (n : Nat) (X : List UInt8) (d : Int) (i : Nat) (hi : i < ts.length) (hX : X.length ≤ 99) (hk : (tkAt ts i).kind = 0) : Ans ts n (80 :: X) d i (-1)
  | fail (n : Nat) (x : UInt8) (X : List UInt8) (d : Int) (i : Nat) (hi : i < ts.length) (hX : X.length ≤ 99) (h80 : ¬ (x = 80 ∧ (tkAt ts i).kind = 0)) (hr : (ruleF x.toNat (rtok (tkAt ts i)) d).2.2 = false) : Ans ts n (x :: X) d i ((tkAt ts i).pos : Int)
  | step (n : Nat) (x : UInt8) (X : List UInt8) (d : Int) (i : Nat) (r : Int) (m : List UInt8) (u : Bool) (hi : i < ts.length) (hX : X.length ≤ 99) (h80 : ¬ (x = 80 ∧ (tkAt ts i).kind = 0))
      (hr : ruleF x.toNat (rtok (tkAt ts i)) d = (m, u, true))
      (hn : Ans ts n (m ++ X) (if u = true ∧ lAt ts i = [40] then d + 1 else if u = true ∧ lAt ts i = [41] then d - 1 else d) (if u = true then i + 1 else i) r) : Ans ts (n + 1) (x :: X) d i r

section
variable {ts : List Tk} (hF : ∀ i, TkF (tkAt ts i))
include hF

omit hF in
/-- a token is used up that is no bracket. -/
theorem Ans.use {n : Nat} {x : UInt8} {X m : List UInt8} {d : Int} {i : Nat} {r : Int} (hi : i < ts.length) (hX : X.length ≤ 99) (h80 : x ≠ 80)
    (hr : ruleF x.toNat (rtok (tkAt ts i)) d = (m, true, true)) (h1 : lAt ts i ≠ [40]) (h2 : lAt ts i ≠ [41])
    (hn : Ans ts n (m ++ X) d (i + 1) r) : Ans ts (n + 1) (x :: X) d i r := by
  refine Ans.step n x X d i r m true hi hX (fun h => h80 h.1) hr ?_
  rw [if_neg (fun h => h1 h.2), if_neg (fun h => h2 h.2), if_pos rfl]
  exact hn

theorem Ans.sign {n : Nat} {X : List UInt8} {d : Int} {i : Nat} {r : Int} (x : Nat) (hx : x = 59 ∨ x = 61) (hi : i < ts.length) (hX : X.length ≤ 99) (h : lAt ts i = [UInt8.ofNat x])
    (hn : Ans ts n X d (i + 1) r) : Ans ts (n + 1) (UInt8.ofNat x :: X) d i r := by
  have hs := (hF i).sg x (by omega)
  have hk := hs.1 h
  refine Ans.use hi hX (by rcases hx with rfl | rfl <;> decide) (m := []) ?_ (by rw [h]; rcases hx with rfl | rfl <;> decide) (by rw [h]; rcases hx with rfl | rfl <;> decide) hn
  have hl : (rtok (tkAt ts i)).l = lAt ts i := (hF i).kw _ (by rw [h]; rcases hx with rfl | rfl <;> decide) |>.2 rfl
  have hc := c115 (tkAt ts i)
  rw [hk.1] at hc
  rcases hx with rfl | rfl
  all_goals
    unfold ruleF
    rw [if_neg (by decide), if_neg (by decide), if_neg (by decide), if_neg (by decide), if_neg (by decide), if_neg (by decide), if_neg (by decide), if_neg (by decide), hc, hl, hk.2]
    rfl

theorem Ans.close {n : Nat} {X : List UInt8} {d : Int} {i : Nat} {r : Int} (hi : i < ts.length) (hX : X.length ≤ 99) (h : lAt ts i = [41])
    (hn : Ans ts n X (d - 1) (i + 1) r) : Ans ts (n + 1) (41 :: X) d i r := by
  have hs := (hF i).sg 41 (by omega)
  have hk := hs.1 h
  have hl : (rtok (tkAt ts i)).l = lAt ts i := (hF i).kw _ (by rw [h]; decide) |>.2 rfl
  have hc := c115 (tkAt ts i)
  rw [hk.1] at hc
  refine Ans.step n 41 X d i r [] true hi hX (fun h => absurd h.1 (by decide)) ?_ ?_
  · unfold ruleF
    rw [if_neg (by decide), if_neg (by decide), if_neg (by decide), if_neg (by decide), if_neg (by decide), if_neg (by decide), if_neg (by decide), if_neg (by decide), hc, hl, hk.2]
    rfl
  · rw [if_neg (by rw [h]; decide), if_pos ⟨rfl, h⟩, if_pos rfl]
    exact hn

theorem Ans.nosign {X : List UInt8} {d : Int} {i : Nat} (x : Nat) (hx : x = 59 ∨ x = 61 ∨ x = 41) (hi : i < ts.length) (hX : X.length ≤ 99) (h : lAt ts i ≠ [UInt8.ofNat x]) :
    Ans ts 0 (UInt8.ofNat x :: X) d i ((tkAt ts i).pos : Int) := by
  have hs := (hF i).sg x hx
  refine Ans.fail 0 _ X d i hi hX (fun h => absurd h.1 (by rcases hx with rfl | rfl | rfl <;> decide)) ?_
  have hc := c115 (tkAt ts i)
  have key : ((rtok (tkAt ts i)).c == 115 && (((rtok (tkAt ts i)).l.getD 0 0).toNat == x)) = false := by
    rw [hc]
    by_cases h4 : (tkAt ts i).kind = 4
    · have hl : (rtok (tkAt ts i)).l = lAt ts i := by rw [rtok_l, if_pos (.inr (.inr h4))]
      rw [hl]
      have : (((lAt ts i).getD 0 0).toNat == x) = false := by rw [beq_eq_false_iff_ne]; exact fun e => h (hs.2 ⟨h4, e⟩)
      rw [this, Bool.and_false]
    · simp [h4]
  rcases hx with rfl | rfl | rfl
  all_goals
    unfold ruleF
    rw [if_neg (by decide), if_neg (by decide), if_neg (by decide), if_neg (by decide), if_neg (by decide), if_neg (by decide), if_neg (by decide), if_neg (by decide)]
    exact key

end

end Go.Proofs.Ytecegaflhdgfaaa
