import Derived.Test.Ytmndgoapkmhglabo02BoxC
import Derived.Test.Ytmndgoapkmhglabo03EvBx
namespace Go.Proofs.Ytmndgoapkmhglab
theorem size_list (s : ByteArray) : s.size = s.data.toList.length := Array.length_toList.symm
theorem tkAt_left {a b : List Tk} {i : Nat} (h : i < a.length) : tkAt (a ++ b) i = tkAt a i := by
  unfold tkAt; rw [List.getD_eq_getElem?_getD, List.getD_eq_getElem?_getD, List.getElem?_append_left h]
theorem tkAt_mid {a b : List Tk} {t : Tk} : tkAt (a ++ t :: b) a.length = t := by
  unfold tkAt; rw [List.getD_eq_getElem?_getD, List.getElem?_append_right (Nat.le_refl _)]; simp
theorem tkAt_mem {a : List Tk} {i : Nat} (h : i < a.length) : tkAt a i ∈ a := by
  unfold tkAt; rw [List.getD_eq_getElem?_getD, List.getElem?_eq_getElem h]; exact List.getElem_mem h
def Fine (t : Tk) : Prop :=
  (∃ cl, (cl = 1 ∨ cl = 2) ∧ t.l ≠ [] ∧ (∀ c ∈ t.l, W cl c = true) ∧ t.kind = kindK t.l cl) ∨ (∃ c, t.l = [c] ∧ 3 ≤ cls c.toNat ∧ t.kind = kindK [c] (cls c.toNat))
theorem tw_all (p : UInt8 → Bool) : ∀ r : List UInt8, ∀ c ∈ r.takeWhile p, p c = true := by
  intro r
  induction r with
  | nil => intro c hc; simp at hc
  | cons d r ih =>
    intro c hc
    rw [List.takeWhile_cons] at hc
    split at hc
    · rename_i hd
      rcases List.mem_cons.1 hc with rfl | hc
      · exact hd
      · exact ih c hc
    · simp at hc
theorem tk_fine : ∀ n k (l : List UInt8), l.length = n → ∀ t ∈ tk k l, Fine t := by
  intro n
  induction n using Nat.strongRecOn with
  | _ n ih =>
    intro k l hn t ht
    cases l with
    | nil => rw [tk_nil] at ht; simp at ht
    | cons c r =>
      simp only [List.length_cons] at hn
      by_cases h0 : cls c.toNat = 0
      · rw [tk_blank h0] at ht
        exact ih r.length (by omega) (k + 1) r rfl t ht
      · by_cases h12 : cls c.toNat = 1 ∨ cls c.toNat = 2
        · rw [tk_word h12] at ht
          rcases List.mem_cons.1 ht with rfl | ht
          · refine .inl ⟨cls c.toNat, h12, by simp [Tk.l, tokW], ?_, by simp [Tk.l, tokW]⟩
            intro d hd
            have hd' : d ∈ c :: r.takeWhile (W (cls c.toNat)) := by simpa [Tk.l, tokW] using hd
            rcases List.mem_cons.1 hd' with rfl | hd'
            · exact W_self d
            · exact tw_all _ r d hd'
          · have hl := take_drop_len (W (cls c.toNat)) r
            exact ih _ (by omega) _ _ rfl t ht
        · rw [tk_one (by omega)] at ht
          rcases List.mem_cons.1 ht with rfl | ht
          · exact .inr ⟨c, by simp [Tk.l, tokW], by omega, by simp [tokW]⟩
          · exact ih r.length (by omega) (k + 1) r rfl t ht
theorem W_cls {cl : Nat} {c : UInt8} (h : W cl c = true) : cls c.toNat = cl := by unfold W at h; simpa using h
theorem kind3_cls {w : List UInt8} {cl : Nat} (h : kindK w cl = 3) : cl = 2 ∧ w.length ≤ 18 := by
  unfold kindK at h
  split at h
  · unfold wordK at h
    split at h
    · cases h
    split at h <;> cases h
  split at h
  · rename_i hc
    unfold numK at h
    split at h
    · cases h
    · exact ⟨hc, by omega⟩
  split at h <;> cases h
theorem kw_cases {l : List UInt8} (h : kwL.contains l = true) : (∃ c, l = [c] ∧ cls c.toNat = 3) ∨ (keptL.contains l = true ∧ ∃ c, c ∈ l ∧ cls c.toNat = 1) := by
  have h' : l ∈ kwL := by simpa using h
  simp only [kwL, List.mem_cons, List.not_mem_nil, or_false] at h'
  rcases h' with rfl | rfl | rfl | rfl | rfl | rfl | rfl | rfl | rfl | rfl | rfl | rfl | rfl | rfl | rfl | rfl | rfl | rfl | rfl | rfl
  all_goals first | exact .inl ⟨_, rfl, by decide⟩ | exact .inr ⟨by decide, 105, by decide, by decide⟩ | exact .inr ⟨by decide, 98, by decide, by decide⟩ | exact .inr ⟨by decide, 97, by decide, by decide⟩ | exact .inr ⟨by decide, 110, by decide, by decide⟩ | exact .inr ⟨by decide, 116, by decide, by decide⟩
structure TkF (t : Tk) : Prop where
  kw : ∀ l, kwL.contains l = true → ((rtok t).l = l ↔ t.l = l)
  k0 : t.kind = 0 → kwL.contains t.l = false
  k1 : t.kind = 1 → kwL.contains t.l = false
  k3 : t.kind = 3 → kwL.contains t.l = false
  sg : ∀ x : Nat, x = 59 ∨ x = 61 ∨ x = 41 → (t.l = [UInt8.ofNat x] ↔ (t.kind = 4 ∧ (t.l.getD 0 0).toNat = x))
  pos : t.kind ≠ 0 → t.l ≠ []
theorem rtok_l (t : Tk) : (rtok t).l = if t.kind = 1 ∨ t.kind = 2 ∨ t.kind = 4 then t.l else [] := by
  unfold rtok RTk.l Tk.l
  simp only
  split <;> rfl
theorem kwL_nil : kwL.contains ([] : List UInt8) = false := by decide
theorem TkF.ofEnd (k : Nat) : TkF ⟨0, k, ⟨#[]⟩⟩ := by
  refine ⟨fun l hl => ?_, fun _ => kwL_nil, fun h => (by cases h), fun h => (by cases h), fun x hx => ?_, fun h => absurd rfl h⟩
  · rw [rtok_l]
    simp only [Tk.l]
    exact Iff.rfl
  · constructor
    · intro h; simp [Tk.l] at h
    · rintro ⟨h, _⟩; cases h
theorem TkF.ofFine {t : Tk} (h : Fine t) : TkF t := by
  rcases h with ⟨cl, hcl, hne, hall, hk⟩ | ⟨c, hc, h3, hk⟩
  · have hno : kwL.contains t.l = true → cl = 1 ∧ keptL.contains t.l = true := by
      intro hkw
      rcases kw_cases hkw with ⟨c, hc, h3⟩ | ⟨hkp, c, hc, h1⟩
      · have := W_cls (hall c (by rw [hc]; simp)); omega
      · have := W_cls (hall c hc); exact ⟨by omega, hkp⟩
    have hsg : ∀ c : UInt8, cls c.toNat = 3 → t.l ≠ [c] := by
      intro c h3 e
      have := W_cls (hall c (by rw [e]; simp)); omega
    have hkind : (t.kind = 2 ∧ keptL.contains t.l = true ∧ cl = 1) ∨ (t.kind = 5 ∧ ¬ (cl = 1 ∧ keptL.contains t.l = true)) ∨ (t.kind = 1 ∧ keptL.contains t.l = false) ∨ (t.kind = 3 ∧ cl = 2) := by
      rcases hcl with rfl | rfl
      · unfold kindK wordK at hk
        rw [if_pos rfl] at hk
        split at hk
        · exact .inl ⟨hk, by assumption, rfl⟩
        · rename_i hn
          split at hk
          · exact .inr (.inl ⟨hk, fun h => hn h.2⟩)
          · exact .inr (.inr (.inl ⟨hk, by simpa using hn⟩))
      · unfold kindK numK at hk
        rw [if_neg (by decide), if_pos rfl] at hk
        split at hk
        · exact .inr (.inl ⟨hk, fun h => by omega⟩)
        · exact .inr (.inr (.inr ⟨hk, rfl⟩))
    refine ⟨fun l hl => ?_, fun h => by omega, fun h => ?_, fun h => ?_, fun x hx => ?_, fun _ => hne⟩
    · rw [rtok_l]
      by_cases h12 : t.kind = 1 ∨ t.kind = 2 ∨ t.kind = 4
      · rw [if_pos h12]
      · rw [if_neg h12]
        constructor
        · intro e; rw [← e] at hl; cases hl
        · intro e
          have := hno (by rw [e]; exact hl)
          rcases hkind with ⟨h, _⟩ | ⟨h, h'⟩ | ⟨h, _⟩ | ⟨h, h'⟩
          · omega
          · exact absurd this h'
          · omega
          · omega
    · cases hkw : kwL.contains t.l with
      | false => rfl
      | true =>
        have := hno hkw
        rcases hkind with ⟨h', _⟩ | ⟨h', _⟩ | ⟨_, h'⟩ | ⟨h', _⟩
        · omega
        · omega
        · rw [h'] at this; cases this.2
        · omega
    · cases hkw : kwL.contains t.l with
      | false => rfl
      | true =>
        have := hno hkw
        rcases hkind with ⟨h', _⟩ | ⟨h', _⟩ | ⟨h', _⟩ | ⟨_, h'⟩ <;> omega
    · constructor
      · intro e
        exact absurd e (hsg _ (by rcases hx with rfl | rfl | rfl <;> decide))
      · rintro ⟨h, _⟩; omega
  · have hc4 := cls_le c.toNat
    have hk' : (t.kind = 4 ∧ cls c.toNat = 3) ∨ (t.kind = 5 ∧ cls c.toNat = 4) := by
      unfold kindK at hk
      rw [if_neg (by omega), if_neg (by omega)] at hk
      by_cases e : cls c.toNat = 3
      · rw [if_pos e] at hk; exact .inl ⟨hk, e⟩
      · rw [if_neg e] at hk; exact .inr ⟨hk, by omega⟩
    have hno : kwL.contains t.l = true → cls c.toNat = 3 := by
      intro hkw
      rcases kw_cases hkw with ⟨d, hd, h3'⟩ | ⟨hkp, d, hd, h1⟩
      · rw [hc] at hd; simp at hd; rw [hd]; exact h3'
      · rw [hc] at hd; simp at hd; rw [hd] at h1; omega
    refine ⟨fun l hl => ?_, fun h => by omega, fun h => by omega, fun h => by omega, fun x hx => ?_, fun _ => by rw [hc]; simp⟩
    · rw [rtok_l]
      rcases hk' with ⟨h, _⟩ | ⟨h, h'⟩
      · rw [if_pos (.inr (.inr h))]
      · rw [if_neg (by omega)]
        constructor
        · intro e; rw [← e] at hl; cases hl
        · intro e
          have := hno (by rw [e]; exact hl)
          omega
    · rw [hc]
      constructor
      · intro e
        have ec : c = UInt8.ofNat x := by simpa using e
        have h3' : cls c.toNat = 3 := by rw [ec]; rcases hx with rfl | rfl | rfl <;> decide
        refine ⟨by omega, ?_⟩
        rw [ec]; rcases hx with rfl | rfl | rfl <;> rfl
      · rintro ⟨_, e⟩
        have e' : c.toNat = x := e
        rw [← e']; simp
theorem toks_F (s : ByteArray) (i : Nat) : TkF (tkAt (toks s) i) := by
  rw [toks_list]
  by_cases h : i < (tk 0 s.data.toList).length
  · rw [tkAt_left h]; exact TkF.ofFine (tk_fine _ _ _ rfl _ (tkAt_mem h))
  · by_cases e : i = (tk 0 s.data.toList).length
    · rw [e, tkAt_mid]; exact TkF.ofEnd _
    · have : tkAt (tk 0 s.data.toList ++ [⟨0, s.size, ⟨#[]⟩⟩]) i = tkEnd := by
        unfold tkAt
        rw [List.getD_eq_getElem?_getD, List.getElem?_eq_none (by simp; omega)]
        rfl
      rw [this]; exact TkF.ofEnd 0
section
variable {t : Tk} (h : TkF t)
include h
theorem TkF.not0 (hk : kwL.contains t.l = true) : t.kind ≠ 0 := fun e => by rw [h.k0 e] at hk; cases hk
theorem TkF.not1 (hk : kwL.contains t.l = true) : t.kind ≠ 1 := fun e => by rw [h.k1 e] at hk; cases hk
theorem TkF.not3 (hk : kwL.contains t.l = true) : t.kind ≠ 3 := fun e => by rw [h.k3 e] at hk; cases hk
theorem TkF.op : opOf (rtok t).l = opOf t.l := by
  have e : ∀ (l : List UInt8), kwL.contains l = true → ∀ (x y : Option Nat), (if (rtok t).l = l then x else y) = if t.l = l then x else y := fun l hl x y => by
    by_cases e : t.l = l
    · rw [if_pos e, if_pos ((h.kw l hl).2 e)]
    · rw [if_neg e, if_neg (fun e' => e ((h.kw l hl).1 e'))]
  unfold opOf
  rw [e [43] (by decide), e [45] (by decide), e [42] (by decide), e [47] (by decide), e [60] (by decide), e [61] (by decide), e [38] (by decide), e [124] (by decide)]
theorem TkF.rl : rop (rtok t).l = (opOf t.l).isSome := by unfold rop; rw [h.op]
theorem TkF.eq {l : List UInt8} (hl : kwL.contains l = true) : ((rtok t).l == l) = (t.l == l) := by
  rw [Bool.eq_iff_iff, beq_iff_eq, beq_iff_eq]; exact h.kw l hl
theorem TkF.if {α : Type} {l : List UInt8} (hl : kwL.contains l = true) (x y : α) : (if (rtok t).l = l then x else y) = if t.l = l then x else y := by
  by_cases e : t.l = l
  · rw [if_pos e, if_pos ((h.kw l hl).2 e)]
  · rw [if_neg e, if_neg (fun e' => e ((h.kw l hl).1 e'))]
end
theorem c97 (t : Tk) : ((rtok t).c == 97) = (t.kind == 1) := by
  unfold rtok; simp only; rw [Bool.eq_iff_iff, beq_iff_eq, beq_iff_eq]
  constructor
  · intro h; split at h; omega; split at h; assumption; split at h; omega; split at h; omega; split at h <;> omega
  · intro h; rw [h]; rfl
theorem c110 (t : Tk) : ((rtok t).c == 110) = (t.kind == 3) := by
  unfold rtok; simp only; rw [Bool.eq_iff_iff, beq_iff_eq, beq_iff_eq]
  constructor
  · intro h; split at h; omega; split at h; omega; split at h; omega; split at h; assumption; split at h <;> omega
  · intro h; rw [h]; rfl
theorem c115 (t : Tk) : ((rtok t).c == 115) = (t.kind == 4) := by
  unfold rtok; simp only; rw [Bool.eq_iff_iff, beq_iff_eq, beq_iff_eq]
  constructor
  · intro h; split at h; omega; split at h; omega; split at h; omega; split at h; omega; split at h <;> omega
  · intro h; rw [h]; rfl
theorem rn3 {t : Tk} (h : t.kind = 3) : (rtok t).n = valOf t.l := by unfold rtok; simp only; rw [if_pos h]; rfl
def litT (t : Tk) : Bool := t.kind == 3 || t.l == kTrue || t.l == kFalse
theorem TkF.lit {t : Tk} (h : TkF t) : rlit (rtok t) = litT t := by
  unfold rlit litT; rw [c110, h.eq (by decide), h.eq (by decide)]
inductive Ast where
  | leaf
  | neg (a : Ast)
  | ite (a b c : Ast)
  | dly (b : Ast)
  | bin (a b : Ast)
def Ast.len : Ast → Nat
  | .leaf => 1
  | .neg a => a.len + 3
  | .ite a b c => a.len + b.len + c.len + 3
  | .dly b => b.len + 4
  | .bin a b => a.len + b.len + 3
def Ast.size : Ast → Nat
  | .leaf => 1
  | .neg a => a.size + 1
  | .ite a b c => a.size + b.size + c.size + 1
  | .dly b => b.size + 2
  | .bin a b => a.size + b.size + 1
def leafT (t : Tk) : Bool := litT t || t.kind == 1
abbrev lAt (ts : List Tk) (i : Nat) : List UInt8 := (tkAt ts i).l
def Sp (ts : List Tk) : Ast → Nat → Prop
  | .leaf, i => leafT (tkAt ts i) = true ∧ lAt ts i ≠ [40]
  | .neg a, i => lAt ts i = [40] ∧ lAt ts (i + 1) = kNot ∧ Sp ts a (i + 2) ∧ lAt ts (i + 2 + a.len) = [41]
  | .ite a b c, i => lAt ts i = [40] ∧ lAt ts (i + 1) = kIf ∧ Sp ts a (i + 2) ∧ Sp ts b (i + 2 + a.len) ∧ Sp ts c (i + 2 + a.len + b.len) ∧ lAt ts (i + 2 + a.len + b.len + c.len) = [41]
  | .dly b, i => lAt ts i = [40] ∧ litT (tkAt ts (i + 1)) = true ∧ lAt ts (i + 2) = kFby ∧ Sp ts b (i + 3) ∧ lAt ts (i + 3 + b.len) = [41]
  | .bin a b, i => lAt ts i = [40] ∧ Sp ts a (i + 1) ∧ (opOf (lAt ts (i + 1 + a.len))).isSome = true ∧ Sp ts b (i + 2 + a.len) ∧ lAt ts (i + 2 + a.len + b.len) = [41]
def mkN (ts : List Tk) (i dl : Nat) (n : Nd) : Nd :=
  { n with pos := (tkAt ts i).pos, delayed := decide (0 < dl), behind := decide (0 < i) && ((tkAt ts (i - 1)).l == kFby) }
def leafN0 (t : Tk) : Nd :=
  if t.l = kTrue then { ndZero with kind := 1, value := 1 } else if t.l = kFalse then { ndZero with kind := 1 }
  else if t.kind = 3 then { ndZero with kind := 0, value := valOf t.l } else { ndZero with kind := 2, name := t.text }
def flat (ts : List Tk) : Ast → Nat → Nat → Nat → List Nd
  | .leaf, i, dl, _ => [mkN ts i dl (leafN0 (tkAt ts i))]
  | .neg a, i, dl, off => mkN ts i dl { ndZero with kind := 3, a := off + 1 } :: flat ts a (i + 2) dl (off + 1)
  | .ite a b c, i, dl, off => mkN ts i dl { ndZero with kind := 4, a := off + 1, b := off + 1 + a.size, c := off + 1 + a.size + b.size } ::
      (flat ts a (i + 2) dl (off + 1) ++ (flat ts b (i + 2 + a.len) dl (off + 1 + a.size) ++ flat ts c (i + 2 + a.len + b.len) dl (off + 1 + a.size + b.size)))
  | .dly b, i, dl, off => mkN ts i dl { ndZero with kind := 5, a := off + 1, b := off + 2 } :: mkN ts (i + 1) dl (leafN0 (tkAt ts (i + 1))) :: flat ts b (i + 3) (dl + 1) (off + 2)
  | .bin a b, i, dl, off => mkN ts i dl { ndZero with kind := 6, op := (opOf (lAt ts (i + 1 + a.len))).getD 0, a := off + 1, b := off + 1 + a.size } ::
      (flat ts a (i + 1) dl (off + 1) ++ flat ts b (i + 2 + a.len) dl (off + 1 + a.size))
theorem flat_len (ts : List Tk) : ∀ (t : Ast) i dl off, (flat ts t i dl off).length = t.size := by
  intro t
  induction t with
  | leaf => intro i dl off; rfl
  | neg a iha => intro i dl off; simp [flat, Ast.size, iha]
  | ite a b c iha ihb ihc => intro i dl off; simp [flat, Ast.size, iha, ihb, ihc]; omega
  | dly b ihb => intro i dl off; simp [flat, Ast.size, ihb]
  | bin a b iha ihb => intro i dl off; simp [flat, Ast.size, iha, ihb]
inductive Ans (ts : List Tk) : Nat → List UInt8 → Int → Nat → Int → Prop
  | done (n : Nat) (X : List UInt8) (d : Int) (i : Nat) (hi : i < ts.length) (hX : X.length ≤ 99) (hk : (tkAt ts i).kind = 0) : Ans ts n (80 :: X) d i (-1)
  | fail (n : Nat) (x : UInt8) (X : List UInt8) (d : Int) (i : Nat) (hi : i < ts.length) (hX : X.length ≤ 99) (h80 : ¬ (x = 80 ∧ (tkAt ts i).kind = 0)) (hr : (ruleF x.toNat (rtok (tkAt ts i)) d).2.2 = false) : Ans ts n (x :: X) d i ((tkAt ts i).pos : Int)
  | step (n : Nat) (x : UInt8) (X : List UInt8) (d : Int) (i : Nat) (r : Int) (m : List UInt8) (u : Bool) (hi : i < ts.length) (hX : X.length ≤ 99) (h80 : ¬ (x = 80 ∧ (tkAt ts i).kind = 0))
      (hr : ruleF x.toNat (rtok (tkAt ts i)) d = (m, u, true))
      (hn : Ans ts n (m ++ X) (if u = true ∧ lAt ts i = [40] then d + 1 else if u = true ∧ lAt ts i = [41] then d - 1 else d) (if u = true then i + 1 else i) r) : Ans ts (n + 1) (x :: X) d i r
section
variable {ts : List Tk} (hF : ∀ i, TkF (tkAt ts i))
include hF
omit hF in
theorem Ans.use {n : Nat} {x : UInt8} {X m : List UInt8} {d : Int} {i : Nat} {r : Int} (hi : i < ts.length) (hX : X.length ≤ 99) (h80 : x ≠ 80)
    (hr : ruleF x.toNat (rtok (tkAt ts i)) d = (m, true, true)) (h1 : lAt ts i ≠ [40]) (h2 : lAt ts i ≠ [41])
    (hn : Ans ts n (m ++ X) d (i + 1) r) : Ans ts (n + 1) (x :: X) d i r := by
  refine Ans.step n x X d i r m true hi hX (fun h => h80 h.1) hr ?_
  rw [if_neg (fun h => h1 h.2), if_neg (fun h => h2 h.2), if_pos rfl]
  exact hn
theorem Ans.sign {n : Nat} {X : List UInt8} {d : Int} {i : Nat} {r : Int} (x : Nat) (hx : x = 59 ∨ x = 61) (hi : i < ts.length) (hX : X.length ≤ 99) (h : lAt ts i = [UInt8.ofNat x])
    (hn : Ans ts n X d (i + 1) r) : Ans ts (n + 1) (UInt8.ofNat x :: X) d i r := by
  have hs := (hF i).sg x (by omega)
  have hk := hs.1 h
  refine Ans.use hi hX (by rcases hx with rfl | rfl <;> decide) (m := []) ?_ (by rw [h]; rcases hx with rfl | rfl <;> decide) (by rw [h]; rcases hx with rfl | rfl <;> decide) hn
  have hl : (rtok (tkAt ts i)).l = lAt ts i := (hF i).kw _ (by rw [h]; rcases hx with rfl | rfl <;> decide) |>.2 rfl
  have hc := c115 (tkAt ts i)
  rw [hk.1] at hc
  rcases hx with rfl | rfl
  all_goals
    unfold ruleF
    rw [if_neg (by decide), if_neg (by decide), if_neg (by decide), if_neg (by decide), if_neg (by decide), if_neg (by decide), if_neg (by decide), if_neg (by decide), hc, hl, hk.2]
    rfl
theorem Ans.close {n : Nat} {X : List UInt8} {d : Int} {i : Nat} {r : Int} (hi : i < ts.length) (hX : X.length ≤ 99) (h : lAt ts i = [41])
    (hn : Ans ts n X (d - 1) (i + 1) r) : Ans ts (n + 1) (41 :: X) d i r := by
  have hs := (hF i).sg 41 (by omega)
  have hk := hs.1 h
  have hl : (rtok (tkAt ts i)).l = lAt ts i := (hF i).kw _ (by rw [h]; decide) |>.2 rfl
  have hc := c115 (tkAt ts i)
  rw [hk.1] at hc
  refine Ans.step n 41 X d i r [] true hi hX (fun h => absurd h.1 (by decide)) ?_ ?_
  · unfold ruleF
    rw [if_neg (by decide), if_neg (by decide), if_neg (by decide), if_neg (by decide), if_neg (by decide), if_neg (by decide), if_neg (by decide), if_neg (by decide), hc, hl, hk.2]
    rfl
  · rw [if_neg (by rw [h]; decide), if_pos ⟨rfl, h⟩, if_pos rfl]
    exact hn
theorem Ans.nosign {X : List UInt8} {d : Int} {i : Nat} (x : Nat) (hx : x = 59 ∨ x = 61 ∨ x = 41) (hi : i < ts.length) (hX : X.length ≤ 99) (h : lAt ts i ≠ [UInt8.ofNat x]) :
    Ans ts 0 (UInt8.ofNat x :: X) d i ((tkAt ts i).pos : Int) := by
  have hs := (hF i).sg x hx
  refine Ans.fail 0 _ X d i hi hX (fun h => absurd h.1 (by rcases hx with rfl | rfl | rfl <;> decide)) ?_
  have hc := c115 (tkAt ts i)
  have key : ((rtok (tkAt ts i)).c == 115 && (((rtok (tkAt ts i)).l.getD 0 0).toNat == x)) = false := by
    rw [hc]
    by_cases h4 : (tkAt ts i).kind = 4
    · have hl : (rtok (tkAt ts i)).l = lAt ts i := by rw [rtok_l, if_pos (.inr (.inr h4))]
      rw [hl]
      have : (((lAt ts i).getD 0 0).toNat == x) = false := by rw [beq_eq_false_iff_ne]; exact fun e => h (hs.2 ⟨h4, e⟩)
      rw [this, Bool.and_false]
    · simp [h4]
  rcases hx with rfl | rfl | rfl
  all_goals
    unfold ruleF
    rw [if_neg (by decide), if_neg (by decide), if_neg (by decide), if_neg (by decide), if_neg (by decide), if_neg (by decide), if_neg (by decide), if_neg (by decide)]
    exact key
end
section
variable {ts : List Tk} (hF : ∀ i, TkF (tkAt ts i))
include hF
theorem leaf_kw {i : Nat} (h : leafT (tkAt ts i) = true) : kwL.contains (lAt ts i) = false ∨ lAt ts i = kTrue ∨ lAt ts i = kFalse := by
  unfold leafT litT at h
  simp only [Bool.or_eq_true, beq_iff_eq] at h
  rcases h with ((h | h) | h) | h
  · exact .inl ((hF i).k3 h)
  · exact .inr (.inl h)
  · exact .inr (.inr h)
  · exact .inl ((hF i).k1 h)
theorem leaf_ne {i : Nat} (h : leafT (tkAt ts i) = true) {l : List UInt8} (hl : kwL.contains l = true) (h1 : l ≠ kTrue) (h2 : l ≠ kFalse) : lAt ts i ≠ l := by
  intro e
  rcases leaf_kw hF h with h | h | h
  · rw [e, hl] at h; cases h
  · exact h1 (e.symm.trans h)
  · exact h2 (e.symm.trans h)
theorem kw_leaf {i : Nat} (h : kwL.contains (lAt ts i) = true) (h1 : lAt ts i ≠ kTrue) (h2 : lAt ts i ≠ kFalse) : leafT (tkAt ts i) = false := by
  cases e : leafT (tkAt ts i) with
  | false => rfl
  | true => exact absurd rfl (leaf_ne hF e h h1 h2)
theorem leafT_eq (i : Nat) : (rlit (rtok (tkAt ts i)) || (rtok (tkAt ts i)).c == 97) = leafT (tkAt ts i) := by
  rw [(hF i).lit, c97]; rfl
theorem rule69 (i : Nat) (d : Int) : ruleF 69 (rtok (tkAt ts i)) d = if lAt ts i = [40] then ([73, 41], true, decide (d < 16)) else ([], true, leafT (tkAt ts i)) := by
  unfold ruleF
  rw [if_neg (by decide), if_neg (by decide), if_neg (by decide), if_neg (by decide), if_pos rfl, (hF i).if (by decide), leafT_eq hF]
theorem Ans.leaf {n : Nat} {X : List UInt8} {d : Int} {i : Nat} {r : Int} (hi : i < ts.length) (hX : X.length ≤ 99) (h : leafT (tkAt ts i) = true) (h40 : lAt ts i ≠ [40]) (hn : Ans ts n X d (i + 1) r) : Ans ts (n + 1) (69 :: X) d i r :=
  Ans.use hi hX (by decide) (m := []) (by
    have := rule69 hF i d
    rw [if_neg h40, h] at this
    exact this) h40 (leaf_ne hF h (by decide) (by decide) (by decide)) hn
theorem Ans.noleaf {X : List UInt8} {d : Int} {i : Nat} (hi : i < ts.length) (hX : X.length ≤ 99) (h : leafT (tkAt ts i) = false) (h40 : lAt ts i ≠ [40]) : Ans ts 0 (69 :: X) d i ((tkAt ts i).pos : Int) :=
  Ans.fail 0 _ X d i hi hX (fun h => absurd h.1 (by decide)) (by
    have := rule69 hF i d
    rw [if_neg h40, h] at this
    show (ruleF 69 (rtok (tkAt ts i)) d).2.2 = false
    rw [this])
theorem Ans.opens {n : Nat} {X : List UInt8} {d : Int} {i : Nat} {r : Int} (hi : i < ts.length) (hX : X.length ≤ 99) (h40 : lAt ts i = [40]) (hd : d < 16) (hn : Ans ts n (73 :: 41 :: X) (d + 1) (i + 1) r) : Ans ts (n + 1) (69 :: X) d i r := by
  refine Ans.step n 69 X d i r [73, 41] true hi hX (fun h => absurd h.1 (by decide)) ?_ ?_
  · have := rule69 hF i d
    rw [if_pos h40] at this
    show ruleF 69 (rtok (tkAt ts i)) d = _
    rw [this]; simp [hd]
  · rw [if_pos ⟨rfl, h40⟩, if_pos rfl]; exact hn
theorem Ans.deep {X : List UInt8} {d : Int} {i : Nat} (hi : i < ts.length) (hX : X.length ≤ 99) (h40 : lAt ts i = [40]) (hd : ¬ d < 16) : Ans ts 0 (69 :: X) d i ((tkAt ts i).pos : Int) :=
  Ans.fail 0 _ X d i hi hX (fun h => absurd h.1 (by decide)) (by
    have := rule69 hF i d
    rw [if_pos h40] at this
    show (ruleF 69 (rtok (tkAt ts i)) d).2.2 = false
    rw [this]; simp; omega)
theorem rule73 (i : Nat) (d : Int) : ruleF 73 (rtok (tkAt ts i)) d = if lAt ts i = kNot then ([69], true, true) else if lAt ts i = kIf then ([69, 69, 69], true, true) else if litT (tkAt ts i) = true then ([76], true, true) else if (tkAt ts i).kind = 1 then ([79], true, true) else ([69, 79], false, lAt ts i == [40]) := by
  unfold ruleF
  rw [if_neg (by decide), if_neg (by decide), if_neg (by decide), if_neg (by decide), if_neg (by decide), if_pos rfl]
  unfold insF
  rw [(hF i).if (by decide), (hF i).if (by decide), (hF i).lit, (hF i).eq (by decide)]
  have : ((rtok (tkAt ts i)).c = 97) = ((tkAt ts i).kind = 1) := by
    have := c97 (tkAt ts i)
    rw [Bool.eq_iff_iff, beq_iff_eq, beq_iff_eq] at this
    exact propext this
  have e : ∀ x y : List UInt8 × Bool × Bool, (if (rtok (tkAt ts i)).c = 97 then x else y) = if (tkAt ts i).kind = 1 then x else y := fun x y => by
    by_cases h : (tkAt ts i).kind = 1
    · rw [if_pos h, if_pos (this.symm ▸ h)]
    · rw [if_neg h, if_neg (this.symm ▸ h)]
  rw [e]
theorem Ans.isNot {n : Nat} {X : List UInt8} {d : Int} {i : Nat} {r : Int} (hi : i < ts.length) (hX : X.length ≤ 99) (h : lAt ts i = kNot) (hn : Ans ts n (69 :: X) d (i + 1) r) : Ans ts (n + 1) (73 :: X) d i r :=
  Ans.use hi hX (by decide) (m := [69]) (by
    have := rule73 hF i d
    rw [if_pos h] at this
    exact this) (by rw [h]; decide) (by rw [h]; decide) hn
theorem Ans.isIf {n : Nat} {X : List UInt8} {d : Int} {i : Nat} {r : Int} (hi : i < ts.length) (hX : X.length ≤ 99) (h : lAt ts i = kIf) (hn : Ans ts n (69 :: 69 :: 69 :: X) d (i + 1) r) : Ans ts (n + 1) (73 :: X) d i r :=
  Ans.use hi hX (by decide) (m := [69, 69, 69]) (by
    have := rule73 hF i d
    rw [if_neg (by rw [h]; decide), if_pos h] at this
    exact this) (by rw [h]; decide) (by rw [h]; decide) hn
theorem leaf_ne2 {i : Nat} (h : leafT (tkAt ts i) = true) : lAt ts i ≠ kNot ∧ lAt ts i ≠ kIf ∧ lAt ts i ≠ [40] ∧ lAt ts i ≠ [41] :=
  ⟨leaf_ne hF h (by decide) (by decide) (by decide), leaf_ne hF h (by decide) (by decide) (by decide), leaf_ne hF h (by decide) (by decide) (by decide), leaf_ne hF h (by decide) (by decide) (by decide)⟩
theorem Ans.isLit {n : Nat} {X : List UInt8} {d : Int} {i : Nat} {r : Int} (hi : i < ts.length) (hX : X.length ≤ 99) (h : litT (tkAt ts i) = true) (hn : Ans ts n (76 :: X) d (i + 1) r) : Ans ts (n + 1) (73 :: X) d i r := by
  obtain ⟨a, b, c, e⟩ := leaf_ne2 hF (i := i) (by unfold leafT; rw [h]; rfl)
  exact Ans.use hi hX (by decide) (m := [76]) (by
    have := rule73 hF i d
    rw [if_neg a, if_neg b, if_pos h] at this
    exact this) c e hn
theorem Ans.isName {n : Nat} {X : List UInt8} {d : Int} {i : Nat} {r : Int} (hi : i < ts.length) (hX : X.length ≤ 99) (h : leafT (tkAt ts i) = true) (hl : ¬ litT (tkAt ts i) = true) (hn : Ans ts n (79 :: X) d (i + 1) r) : Ans ts (n + 1) (73 :: X) d i r := by
  obtain ⟨a, b, c, e⟩ := leaf_ne2 hF h
  have hk : (tkAt ts i).kind = 1 := by
    unfold leafT at h
    simpa [hl] using h
  exact Ans.use hi hX (by decide) (m := [79]) (by
    have := rule73 hF i d
    rw [if_neg a, if_neg b, if_neg hl, if_pos hk] at this
    exact this) c e hn
theorem Ans.isOpen {n : Nat} {X : List UInt8} {d : Int} {i : Nat} {r : Int} (hi : i < ts.length) (hX : X.length ≤ 99) (h : lAt ts i = [40]) (hn : Ans ts n (69 :: 79 :: X) d i r) : Ans ts (n + 1) (73 :: X) d i r := by
  have hlf := kw_leaf hF (i := i) (by rw [h]; decide) (by rw [h]; decide) (by rw [h]; decide)
  unfold leafT at hlf
  simp only [Bool.or_eq_false_iff, beq_eq_false_iff_ne] at hlf
  refine Ans.step n 73 X d i r [69, 79] false hi hX (fun h => absurd h.1 (by decide)) ?_ ?_
  · have := rule73 hF i d
    rw [if_neg (by rw [h]; decide), if_neg (by rw [h]; decide), if_neg (by rw [hlf.1]; decide), if_neg hlf.2] at this
    show ruleF 73 (rtok (tkAt ts i)) d = _
    rw [this, h]; rfl
  · rw [if_neg (by simp), if_neg (by simp), if_neg (by simp)]; exact hn
theorem Ans.isNone {X : List UInt8} {d : Int} {i : Nat} (hi : i < ts.length) (hX : X.length ≤ 99) (h1 : lAt ts i ≠ kNot) (h2 : lAt ts i ≠ kIf) (h3 : leafT (tkAt ts i) = false) (h4 : lAt ts i ≠ [40]) : Ans ts 0 (73 :: X) d i ((tkAt ts i).pos : Int) := by
  unfold leafT at h3
  simp only [Bool.or_eq_false_iff, beq_eq_false_iff_ne] at h3
  refine Ans.fail 0 _ X d i hi hX (fun h => absurd h.1 (by decide)) ?_
  have := rule73 hF i d
  rw [if_neg h1, if_neg h2, if_neg (by rw [h3.1]; decide), if_neg h3.2] at this
  show (ruleF 73 (rtok (tkAt ts i)) d).2.2 = false
  rw [this]; simp [h4]
theorem rule76 (i : Nat) (d : Int) : ruleF 76 (rtok (tkAt ts i)) d = ([69], true, (opOf (lAt ts i)).isSome || lAt ts i == kFby) := by
  unfold ruleF
  rw [if_neg (by decide), if_neg (by decide), if_neg (by decide), if_neg (by decide), if_neg (by decide), if_neg (by decide), if_pos rfl, (hF i).rl, (hF i).eq (by decide)]
theorem rule79 (i : Nat) (d : Int) : ruleF 79 (rtok (tkAt ts i)) d = ([69], true, (opOf (lAt ts i)).isSome) := by
  unfold ruleF
  rw [if_neg (by decide), if_neg (by decide), if_neg (by decide), if_neg (by decide), if_neg (by decide), if_neg (by decide), if_neg (by decide), if_pos rfl, (hF i).rl]
omit hF in
theorem op_ne {l : List UInt8} (h : (opOf l).isSome = true) : l ≠ [40] ∧ l ≠ [41] ∧ l ≠ [] ∧ l ≠ kFby := by
  refine ⟨?_, ?_, ?_, ?_⟩ <;> (rintro rfl; revert h; decide)
theorem Ans.isOp {n : Nat} {X : List UInt8} {d : Int} {i : Nat} {r : Int} (x : UInt8) (hx : x = 76 ∨ x = 79) (hi : i < ts.length) (hX : X.length ≤ 99) (h : (opOf (lAt ts i)).isSome = true) (hn : Ans ts n (69 :: X) d (i + 1) r) : Ans ts (n + 1) (x :: X) d i r := by
  obtain ⟨a, b, _, _⟩ := op_ne h
  rcases hx with rfl | rfl
  · exact Ans.use hi hX (by decide) (m := [69]) (by
      have := rule76 hF i d
      rw [h] at this
      exact this) a b hn
  · exact Ans.use hi hX (by decide) (m := [69]) (by
      have := rule79 hF i d
      rw [h] at this
      exact this) a b hn
theorem Ans.isFby {n : Nat} {X : List UInt8} {d : Int} {i : Nat} {r : Int} (hi : i < ts.length) (hX : X.length ≤ 99) (h : lAt ts i = kFby) (hn : Ans ts n (69 :: X) d (i + 1) r) : Ans ts (n + 1) (76 :: X) d i r :=
  Ans.use hi hX (by decide) (m := [69]) (by
      have := rule76 hF i d
      rw [h] at this
      exact this) (by rw [h]; decide) (by rw [h]; decide) hn
theorem Ans.noOp {X : List UInt8} {d : Int} {i : Nat} (x : UInt8) (hx : x = 76 ∧ lAt ts i ≠ kFby ∨ x = 79) (hi : i < ts.length) (hX : X.length ≤ 99) (h : opOf (lAt ts i) = none) : Ans ts 0 (x :: X) d i ((tkAt ts i).pos : Int) := by
  rcases hx with ⟨rfl, hf⟩ | rfl
  · refine Ans.fail 0 _ X d i hi hX (fun h => absurd h.1 (by decide)) ?_
    show (ruleF 76 (rtok (tkAt ts i)) d).2.2 = false
    rw [rule76 hF, h]; simp [hf]
  · refine Ans.fail 0 _ X d i hi hX (fun h => absurd h.1 (by decide)) ?_
    show (ruleF 79 (rtok (tkAt ts i)) d).2.2 = false
    rw [rule79 hF, h]; rfl
end
structure ExA (ts : List Tk) (d : Nat) (ex : Ex) : Prop where
  ok : ∀ p r p', p.next < ts.length → ex p = .ok (r, p') → p.depth = d → ∃ t : Ast, Sp ts t p.next ∧ p.next + t.len < ts.length ∧ r = p.nodes.length ∧
    p' = { p with next := p.next + t.len, nodes := p.nodes ++ flat ts t p.next p.delays p.nodes.length } ∧
    ∀ X n r, X.length ≤ 4 + 3 * d → Ans ts n X d (p.next + t.len) r → ∃ n', Ans ts n' (69 :: X) d p.next r
  bad : ∀ p k, p.next < ts.length → ex p = .error k → p.depth = d → k < ts.length ∧ ∀ X, X.length ≤ 4 + 3 * d → ∃ n, Ans ts n (69 :: X) d p.next ((tkAt ts k).pos : Int)
  one : ∀ p k, ex p = .error k → lAt ts p.next ≠ [40] → k = p.next ∧ leafT (tkAt ts p.next) = false
def InA (ts : List Tk) (d i dl off : Nat) (p : PS) (x : Except Nat (Nd × PS)) : Prop :=
  match x with
  | .ok (n', p') => ∃ (t : Ast) (m : Nat) (rest : List Nd), t.len = m + 2 ∧ (lAt ts i = [40] → lAt ts (i + m + 1) = [41] → Sp ts t i) ∧ i + m + 1 < ts.length ∧
      flat ts t i dl off = n' :: rest ∧ p' = { p with next := i + m + 1, nodes := p.nodes ++ rest } ∧
      ∀ Y n r, Y.length ≤ 5 + 3 * d → Ans ts n Y ((d : Int) + 1) (i + m + 1) r → ∃ n', Ans ts n' (73 :: Y) ((d : Int) + 1) (i + 1) r
  | .error k => k < ts.length ∧ ∀ Y, Y.length ≤ 5 + 3 * d → ∃ n, Ans ts n (73 :: Y) ((d : Int) + 1) (i + 1) ((tkAt ts k).pos : Int)
theorem isLit_flat {ts : List Tk} (t : Ast) (i dl off : Nat) (hs : Sp ts t i) : isLit ((flat ts t i dl off).getD 0 ndZero) = true ↔ (t = .leaf ∧ litT (tkAt ts i) = true) := by
  cases t with
  | leaf =>
    have h := hs.1
    unfold leafT litT at h
    simp only [Bool.or_eq_true, beq_iff_eq] at h
    simp only [flat, List.getD_cons_zero, mkN, isLit, leafN0, litT, true_and, Bool.or_eq_true, beq_iff_eq]
    split
    · rename_i e; simp [e]
    split
    · rename_i e; simp [e]
    split
    · rename_i e; simp [e]
    · rename_i h1 h2 h3; simp [h1, h2, h3]
  | neg a => simp [flat, mkN, isLit]
  | ite a b c => simp [flat, mkN, isLit]
  | dly b => simp [flat, mkN, isLit]
  | bin a b => simp [flat, mkN, isLit]
theorem Ast.size_pos (t : Ast) : 0 < t.size := by cases t <;> simp [Ast.size]
section
variable {ts : List Tk} (ht : TsOk ts) (hF : ∀ i, TkF (tkAt ts i))
include ht hF
omit hF in
theorem adv_kw {p : PS} (h : p.next < ts.length) (hk : lAt ts p.next ≠ []) : p.adv ts = { p with next := p.next + 1 } ∧ p.next + 1 < ts.length :=
  ⟨adv_next ht h (.inr hk), ht.last h (.inr hk)⟩
omit ht in
theorem leaf_nil {i : Nat} (h : leafT (tkAt ts i) = true) : lAt ts i ≠ [] := by
  intro e
  unfold leafT litT at h
  simp only [Bool.or_eq_true, beq_iff_eq] at h
  rcases h with ((h | h) | h) | h
  · exact (hF i).pos (by omega) e
  · have h' : lAt ts i = kTrue := h
    rw [e] at h'; cases h'
  · have h' : lAt ts i = kFalse := h
    rw [e] at h'; cases h'
  · exact (hF i).pos (by omega) e
theorem insideA {d : Nat} {ex : Ex} (hd : d + 1 ≤ 16) (hx : ExA ts (d + 1) ex) {p : PS} {i dl off : Nat} (hp : p.next = i + 1) (hlt : i + 1 < ts.length) (hdep : p.depth = d + 1) (hdl : p.delays = dl) (hoff : p.nodes.length = off + 1) :
    InA ts d i dl off p (insideF ts ex p (mkN ts i dl ndZero)) := by
  have ed : ((d + 1 : Nat) : Int) = (d : Int) + 1 := by omega
  have l0 : p.hd ts = tkAt ts (i + 1) := by unfold PS.hd; rw [hp]
  unfold insideF
  rw [l0]
  split
  ·
    rename_i hn
    have hn' : lAt ts (i + 1) = kNot := hn
    obtain ⟨ea, hl2⟩ := adv_kw ht (p := p) (by rw [hp]; exact hlt) (by rw [hp, hn']; decide)
    rw [hp] at hl2
    unfold notF
    rw [ea, hp]
    cases he : ex { p with next := i + 1 + 1 } with
    | error k =>
      obtain ⟨hk, hA⟩ := hx.bad { p with next := i + 1 + 1 } k hl2 he hdep
      refine ⟨hk, fun Y hY => ?_⟩
      obtain ⟨n, hn2⟩ := hA Y (by omega)
      rw [ed] at hn2
      exact ⟨n + 1, Ans.isNot hF hlt (by omega) hn' hn2⟩
    | ok v =>
      obtain ⟨r, p'⟩ := v
      obtain ⟨t, hs, hl, hr, hp', hA⟩ := hx.ok { p with next := i + 1 + 1 } r p' hl2 he hdep
      simp only at hs hl hr hp' hA
      refine ⟨.neg t, t.len + 1, flat ts t (i + 2) dl (off + 1), rfl, fun h1 h2 => ⟨h1, hn', hs, by rw [← h2]; unfold lAt; congr 2; omega⟩, by omega, ?_, ?_, fun Y n r hY hA2 => ?_⟩
      · simp only [flat]; congr 1; rw [hr, hoff]; rfl
      · rw [hp', hdl, hoff]; congr 1; omega
      · obtain ⟨n', hn2⟩ := hA Y n r (by omega) (by rw [ed, show i + 1 + 1 + t.len = i + (t.len + 1) + 1 by omega]; exact hA2)
        rw [ed] at hn2
        exact ⟨n' + 1, Ans.isNot hF hlt (by omega) hn' hn2⟩
  split
  ·
    rename_i _ hn
    have hn' : lAt ts (i + 1) = kIf := hn
    obtain ⟨ea, hl2⟩ := adv_kw ht (p := p) (by rw [hp]; exact hlt) (by rw [hp, hn']; decide)
    rw [hp] at hl2
    unfold choiceF
    rw [ea, hp]
    cases he : ex { p with next := i + 1 + 1 } with
    | error k =>
      obtain ⟨hk, hA⟩ := hx.bad { p with next := i + 1 + 1 } k hl2 he hdep
      refine ⟨hk, fun Y hY => ?_⟩
      obtain ⟨n, hn2⟩ := hA (69 :: 69 :: Y) (by simp; omega)
      rw [ed] at hn2
      exact ⟨n + 1, Ans.isIf hF hlt (by omega) hn' hn2⟩
    | ok v =>
      obtain ⟨r, p1⟩ := v
      obtain ⟨t, hs, hl, hr, hp1, hA⟩ := hx.ok { p with next := i + 1 + 1 } r p1 hl2 he hdep
      simp only at hs hl hr hp1 hA
      subst hp1
      simp only
      generalize hP1 : ({ next := i + 1 + 1 + t.len, depth := p.depth, delays := p.delays, decls := p.decls, nodes := p.nodes ++ flat ts t (i + 1 + 1) p.delays p.nodes.length } : PS) = p1
      have e1 : p1.next = i + 1 + 1 + t.len := by rw [← hP1]
      cases he2 : ex p1 with
      | error k =>
        obtain ⟨hk, hA3⟩ := hx.bad p1 k (by rw [e1]; exact hl) he2 (by rw [← hP1]; exact hdep)
        refine ⟨hk, fun Y hY => ?_⟩
        obtain ⟨n, hn3⟩ := hA3 (69 :: Y) (by simp; omega)
        rw [e1] at hn3
        obtain ⟨n2, hn2⟩ := hA (69 :: 69 :: Y) n _ (by simp; omega) hn3
        rw [ed] at hn2
        exact ⟨n2 + 1, Ans.isIf hF hlt (by omega) hn' hn2⟩
      | ok v2 =>
        obtain ⟨r2, p2⟩ := v2
        obtain ⟨t2, hs2, hll2, hr2, hp2, hA2⟩ := hx.ok p1 r2 p2 (by rw [e1]; exact hl) he2 (by rw [← hP1]; exact hdep)
        rw [e1] at hs2 hll2 hA2
        have e2 : p2.next = i + 1 + 1 + t.len + t2.len := by rw [hp2, e1]
        have d2 : p2.depth = d + 1 := by rw [hp2, ← hP1]; exact hdep
        simp only
        cases he3 : ex p2 with
        | error k =>
          obtain ⟨hk, hA3⟩ := hx.bad p2 k (by rw [e2]; exact hll2) he3 d2
          refine ⟨hk, fun Y hY => ?_⟩
          obtain ⟨n, hn3⟩ := hA3 Y (by omega)
          rw [e2] at hn3
          obtain ⟨n1, hn1⟩ := hA2 (69 :: Y) n _ (by simp; omega) hn3
          obtain ⟨n2, hn2⟩ := hA (69 :: 69 :: Y) n1 _ (by simp; omega) hn1
          rw [ed] at hn2
          exact ⟨n2 + 1, Ans.isIf hF hlt (by omega) hn' hn2⟩
        | ok v3 =>
          obtain ⟨r3, p3⟩ := v3
          obtain ⟨t3, hs3, hl3, hr3, hp3, hA3⟩ := hx.ok p2 r3 p3 (by rw [e2]; exact hll2) he3 d2
          rw [e2] at hs3 hl3 hA3
          have n1 : p1.nodes.length = off + 1 + t.size := by rw [← hP1]; simp [flat_len, hoff]
          have n2 : p2.nodes.length = off + 1 + t.size + t2.size := by rw [hp2]; simp [flat_len, n1]
          refine ⟨.ite t t2 t3, t.len + t2.len + t3.len + 1, flat ts t (i + 2) dl (off + 1) ++ (flat ts t2 (i + 2 + t.len) dl (off + 1 + t.size) ++ flat ts t3 (i + 2 + t.len + t2.len) dl (off + 1 + t.size + t2.size)), by simp [Ast.len], fun h1 h2 => ⟨h1, hn', hs, hs2, hs3, by rw [← h2]; unfold lAt; congr 2; omega⟩, by omega, ?_, ?_, fun Y n r hY hA9 => ?_⟩
          · simp only [flat]; congr 1; rw [hr, hr2, hr3, n1, n2, hoff]; rfl
          · rw [hp3, hp2, ← hP1]; simp only [hdl, hoff, List.length_append, flat_len]; congr 1
            · omega
            · simp [List.append_assoc]
          · obtain ⟨m3, hm3⟩ := hA3 Y n r (by omega) (by rw [ed, show i + 1 + 1 + t.len + t2.len + t3.len = i + (t.len + t2.len + t3.len + 1) + 1 by omega]; exact hA9)
            obtain ⟨m2, hm2⟩ := hA2 (69 :: Y) m3 r (by simp; omega) hm3
            obtain ⟨m1, hm1⟩ := hA (69 :: 69 :: Y) m2 r (by simp; omega) hm2
            rw [ed] at hm1
            exact ⟨m1 + 1, Ans.isIf hF hlt (by omega) hn' hm1⟩
  ·
    rename_i hno hni
    have hno' : lAt ts (i + 1) ≠ kNot := hno
    have hni' : lAt ts (i + 1) ≠ kIf := hni
    unfold infixF
    cases he : ex p with
    | error k =>
      obtain ⟨hk, hA⟩ := hx.bad p k (by rw [hp]; exact hlt) he hdep
      refine ⟨hk, fun Y hY => ?_⟩
      by_cases h40 : lAt ts (i + 1) = [40]
      · obtain ⟨n, hn2⟩ := hA (79 :: Y) (by simp; omega)
        rw [hp, ed] at hn2
        exact ⟨n + 1, Ans.isOpen hF hlt (by omega) h40 hn2⟩
      · obtain ⟨e1, e2⟩ := hx.one p k he (by rw [hp]; exact h40)
        rw [hp] at e2
        rw [e1, hp]
        exact ⟨0, Ans.isNone hF hlt (by omega) hno' hni' e2 h40⟩
    | ok v =>
      obtain ⟨r, p1⟩ := v
      obtain ⟨t, hs, hl, hr, hp1, hA⟩ := hx.ok p r p1 (by rw [hp]; exact hlt) he hdep
      have e1 : p1.next = i + 1 + t.len := by rw [hp1, hp]
      have d1 : p1.depth = d + 1 := by rw [hp1]; exact hdep
      have dl1 : p1.delays = dl := by rw [hp1]; exact hdl
      have n1 : p1.nodes.length = off + 1 + t.size := by rw [hp1]; simp [flat_len, hoff]
      rw [hp] at hs hl hA
      have hh1 : p1.hd ts = tkAt ts (i + 1 + t.len) := by unfold PS.hd; rw [e1]
      have hcome : ∀ Y n r, Y.length ≤ 5 + 3 * d → (∀ x : UInt8, (x = 76 ∧ t = .leaf ∧ litT (tkAt ts (i + 1)) = true) ∨ (x = 79 ∧ ¬ (t = .leaf ∧ litT (tkAt ts (i + 1)) = true)) → Ans ts n (x :: Y) ((d : Int) + 1) (i + 1 + t.len) r) → ∃ n', Ans ts n' (73 :: Y) ((d : Int) + 1) (i + 1) r := by
        intro Y n r hY hAn
        by_cases hlf : t = .leaf
        · subst hlf
          by_cases hlit : litT (tkAt ts (i + 1)) = true
          · exact ⟨n + 1, Ans.isLit hF hlt (by omega) hlit (hAn 76 (.inl ⟨rfl, rfl, hlit⟩))⟩
          · exact ⟨n + 1, Ans.isName hF hlt (by omega) hs.1 hlit (hAn 79 (.inr ⟨rfl, fun h => hlit h.2⟩))⟩
        · have h40 : lAt ts (i + 1) = [40] := by
            cases t with
            | leaf => exact absurd rfl hlf
            | neg a => exact hs.1
            | ite a b c => exact hs.1
            | dly b => exact hs.1
            | bin a b => exact hs.1
          obtain ⟨n2, hn2⟩ := hA (79 :: Y) n r (by simp; omega) (by rw [ed]; exact hAn 79 (.inr ⟨rfl, fun h => hlf h.1⟩))
          rw [ed] at hn2
          exact ⟨n2 + 1, Ans.isOpen hF hlt (by omega) h40 hn2⟩
      have hnd : p1.nodes.getD r ndZero = (flat ts t (i + 1) dl (off + 1)).getD 0 ndZero := by
        rw [hr, hp1, hdl, hp, hoff]
        simp only
        rw [List.getD_eq_getElem?_getD, List.getD_eq_getElem?_getD, List.getElem?_append_right (by omega), hoff]
        simp
      have hil := isLit_flat t (i + 1) dl (off + 1) hs
      simp only
      rw [hnd]
      split
      ·
        rename_i hc
        obtain ⟨hc1, hc2⟩ := hc
        rw [hh1] at hc2
        have hc2' : lAt ts (i + 1 + t.len) = kFby := hc2
        obtain ⟨rfl, hlit⟩ := hil.1 hc1
        have hc3 : lAt ts (i + 1 + 1) = kFby := hc2'
        obtain ⟨ea, hl2⟩ := adv_kw ht (p := p1) (by rw [e1]; exact hl) (by rw [e1, hc2']; decide)
        rw [e1] at hl2
        have e1' : p1.next = i + 2 := e1
        have hl2' : i + 3 < ts.length := hl2
        unfold delayF
        rw [ea]
        simp only [e1', dl1]
        generalize hQ : ({ next := i + 2 + 1, depth := p1.depth, delays := dl + 1, decls := p1.decls, nodes := p1.nodes } : PS) = q
        have q1 : q.next = i + 3 := by rw [← hQ]
        have q2 : q.depth = d + 1 := by rw [← hQ]; exact d1
        have q3 : q.delays = dl + 1 := by rw [← hQ]
        have q4 : q.nodes = p1.nodes := by rw [← hQ]
        have q5 : q.decls = p1.decls := by rw [← hQ]
        cases he2 : ex q with
        | error k =>
          obtain ⟨hk, hA3⟩ := hx.bad q k (by rw [q1]; exact hl2') he2 q2
          refine ⟨hk, fun Y hY => ?_⟩
          obtain ⟨n, hn3⟩ := hA3 Y (by omega)
          rw [q1, ed] at hn3
          refine hcome Y (n + 1) _ hY (fun x hx => ?_)
          rcases hx with ⟨rfl, _, _⟩ | ⟨_, hx⟩
          · exact Ans.isFby hF hl (by omega) hc2' hn3
          · exact absurd ⟨rfl, hlit⟩ hx
        | ok v2 =>
          obtain ⟨r2, p2⟩ := v2
          obtain ⟨t2, hs2, hll2, hr2, hp2, hA2⟩ := hx.ok q r2 p2 (by rw [q1]; exact hl2') he2 q2
          rw [q1] at hs2 hll2 hA2
          refine ⟨.dly t2, t2.len + 2, mkN ts (i + 1) dl (leafN0 (tkAt ts (i + 1))) :: flat ts t2 (i + 3) (dl + 1) (off + 2), by simp [Ast.len], fun h1 h2 => ⟨h1, hlit, hc3, hs2, by rw [← h2]; unfold lAt; congr 2; omega⟩, by omega, ?_, ?_, fun Y n r hY hA9 => ?_⟩
          · simp only [flat]; congr 1; rw [hr, hr2, q4, n1, hoff]; rfl
          · rw [hp2, q1, q2, q3, q4, q5, hp1, hdl, hp, hoff]
            simp only [List.length_append, hoff, flat]
            rw [← hdl, ← hdep]
            congr 1
            · omega
            · simp
          · obtain ⟨n2, hn2⟩ := hA2 Y n r (by omega) (by rw [ed, show i + 3 + t2.len = i + (t2.len + 2) + 1 by omega]; exact hA9)
            rw [ed] at hn2
            refine hcome Y (n2 + 1) r hY (fun x hx => ?_)
            rcases hx with ⟨rfl, _, _⟩ | ⟨_, hx⟩
            · exact Ans.isFby hF hl (by omega) hc2' hn2
            · exact absurd ⟨rfl, hlit⟩ hx
      ·
        rename_i hc
        have hc' : ¬ ((t = .leaf ∧ litT (tkAt ts (i + 1)) = true) ∧ lAt ts (i + 1 + t.len) = kFby) := fun h => hc ⟨hil.2 h.1, by rw [hh1]; exact h.2⟩
        unfold infixRest
        rw [hh1]
        cases ho : opOf (lAt ts (i + 1 + t.len)) with
        | none =>
          simp only
          rw [e1]
          refine ⟨hl, fun Y hY => hcome Y 0 _ hY (fun x hx => ?_)⟩
          rcases hx with ⟨rfl, h2⟩ | ⟨rfl, h2⟩
          · exact Ans.noOp hF 76 (.inl ⟨rfl, fun h => hc' ⟨h2, h⟩⟩) hl (by omega) ho
          · exact Ans.noOp hF 79 (.inr rfl) hl (by omega) ho
        | some op =>
          simp only
          have hos : (opOf (lAt ts (i + 1 + t.len))).isSome = true := by rw [ho]; rfl
          obtain ⟨ea, hl2⟩ := adv_kw ht (p := p1) (by rw [e1]; exact hl) (by rw [e1]; exact (op_ne hos).2.2.1)
          rw [e1] at hl2 ea
          rw [ea]
          have hstep : ∀ Y n r, Y.length ≤ 5 + 3 * d → Ans ts n (69 :: Y) ((d : Int) + 1) (i + 1 + t.len + 1) r → ∃ n', Ans ts n' (73 :: Y) ((d : Int) + 1) (i + 1) r := fun Y n r hY h => hcome Y (n + 1) r hY (fun x hx => by
            rcases hx with ⟨rfl, _⟩ | ⟨rfl, _⟩
            · exact Ans.isOp hF 76 (.inl rfl) hl (by omega) hos h
            · exact Ans.isOp hF 79 (.inr rfl) hl (by omega) hos h)
          cases he2 : ex { p1 with next := i + 1 + t.len + 1 } with
          | error k =>
            obtain ⟨hk, hA3⟩ := hx.bad { p1 with next := i + 1 + t.len + 1 } k hl2 he2 d1
            refine ⟨hk, fun Y hY => ?_⟩
            obtain ⟨n, hn3⟩ := hA3 Y (by omega)
            rw [ed] at hn3
            exact hstep Y n _ hY hn3
          | ok v2 =>
            obtain ⟨r2, p2⟩ := v2
            obtain ⟨t2, hs2, hll2, hr2, hp2, hA2⟩ := hx.ok { p1 with next := i + 1 + t.len + 1 } r2 p2 hl2 he2 d1
            simp only at hs2 hll2 hr2 hp2 hA2
            have ei : i + 1 + t.len + 1 = i + 2 + t.len := by omega
            rw [ei] at hs2 hll2 hA2
            refine ⟨.bin t t2, t.len + t2.len + 1, flat ts t (i + 1) dl (off + 1) ++ flat ts t2 (i + 2 + t.len) dl (off + 1 + t.size), by simp [Ast.len], fun h1 h2 => ⟨h1, hs, hos, hs2, by rw [← h2]; unfold lAt; congr 2; omega⟩, by omega, ?_, ?_, fun Y n r hY hA9 => ?_⟩
            · simp only [flat]; congr 1; rw [hr, hr2, n1, hoff, ho]; rfl
            · rw [hp2, ei, hp1, hdl, hp, hoff]
              simp only [List.length_append, flat_len, hoff]
              rw [← hdl]
              congr 1
              · omega
              · simp [List.append_assoc]
            · obtain ⟨n2, hn2⟩ := hA2 Y n r (by omega) (by rw [ed, show i + 2 + t.len + t2.len = i + (t.len + t2.len + 1) + 1 by omega]; exact hA9)
              rw [ed, ← ei] at hn2
              exact hstep Y n2 r hY hn2
end
section
variable {ts : List Tk} (ht : TsOk ts) (hF : ∀ i, TkF (tkAt ts i))
include ht hF
theorem bracketA {d : Nat} {ex : Ex} (hd : d + 1 ≤ 16) (hx : ExA ts (d + 1) ex) {p : PS} (hp : p.next < ts.length) (hdep : p.depth = d) (h40 : lAt ts p.next = [40]) :
    (∀ r p', bracketF ts ex p = .ok (r, p') → ∃ t : Ast, Sp ts t p.next ∧ p.next + t.len < ts.length ∧ r = p.nodes.length ∧
      p' = { p with next := p.next + t.len, nodes := p.nodes ++ flat ts t p.next p.delays p.nodes.length } ∧
      ∀ X n r, X.length ≤ 4 + 3 * d → Ans ts n X d (p.next + t.len) r → ∃ n', Ans ts n' (69 :: X) d p.next r) ∧
    (∀ k, bracketF ts ex p = .error k → k < ts.length ∧ ∀ X, X.length ≤ 4 + 3 * d → ∃ n, Ans ts n (69 :: X) d p.next ((tkAt ts k).pos : Int)) := by
  obtain ⟨_, hl1⟩ := adv_kw ht (p := p) hp (by rw [h40]; decide)
  obtain ⟨ea, _⟩ := adv_kw ht (p := p.add ts ndZero) hp (by show lAt ts p.next ≠ []; rw [h40]; decide)
  have hd16 : (d : Int) < 16 := by omega
  have hnd : (p.add ts ndZero).nodes.getD p.nodes.length ndZero = mkN ts p.next p.delays ndZero := by
    simp [PS.add, mkN, PS.hd]
  have hin := insideA ht hF hd hx (p := { (p.add ts ndZero).adv ts with depth := p.depth + 1 }) (i := p.next) (dl := p.delays) (off := p.nodes.length) (by rw [ea]; rfl) hl1 (by show p.depth + 1 = d + 1; rw [hdep]) (by rw [ea]; rfl) (by rw [ea]; simp [PS.add])
  unfold bracketF
  rw [hnd]
  generalize hq : ({ (p.add ts ndZero).adv ts with depth := p.depth + 1 } : PS) = q at hin ⊢
  have qn : q.nodes = p.nodes ++ [mkN ts p.next p.delays ndZero] := by rw [← hq, ea]; rfl
  have qd : q.depth = d + 1 := by rw [← hq]; show p.depth + 1 = _; rw [hdep]
  have ql : q.delays = p.delays := by rw [← hq, ea]; rfl
  have qc : q.decls = p.decls := by rw [← hq, ea]; rfl
  cases he : insideF ts ex q (mkN ts p.next p.delays ndZero) with
  | error k =>
    rw [he] at hin
    obtain ⟨hk, hA⟩ := hin
    refine ⟨fun r p' h => (by cases h), fun k' h => ?_⟩
    cases h
    refine ⟨hk, fun X hX => ?_⟩
    obtain ⟨n, hn⟩ := hA (41 :: X) (by simp; omega)
    exact ⟨n + 1, Ans.opens hF hp (by omega) h40 hd16 hn⟩
  | ok v =>
    obtain ⟨n', p2⟩ := v
    rw [he] at hin
    obtain ⟨t, m, rest, hm, hsp, hl2, hfl, hp2, hA⟩ := hin
    simp only
    have hset : p2.nodes.set p.nodes.length n' = p.nodes ++ flat ts t p.next p.delays p.nodes.length := by
      rw [hp2, hfl]; simp only [qn]; simp
    have h2n : p2.next = p.next + m + 1 := by rw [hp2]
    unfold PS.take
    have hh : (PS.hd ts { p2 with depth := p2.depth - 1, nodes := p2.nodes.set p.nodes.length n' }) = tkAt ts (p.next + m + 1) := by unfold PS.hd; simp only [h2n]
    rw [hh]
    have hdm : (d : Int) + 1 - 1 = (d : Int) := by omega
    by_cases h41 : lAt ts (p.next + m + 1) = [41]
    · rw [if_pos (show (tkAt ts (p.next + m + 1)).l = [41] from h41)]
      simp only
      obtain ⟨ea2, hl3⟩ := adv_kw ht (p := { p2 with depth := p2.depth - 1, nodes := p2.nodes.set p.nodes.length n' }) (by simp only [h2n]; exact hl2) (by simp only [h2n]; rw [h41]; decide)
      simp only [h2n] at hl3
      refine ⟨fun r p' h => ?_, fun k' h => (by cases h)⟩
      rw [ea2] at h
      cases h
      refine ⟨t, hsp h40 h41, by rw [hm]; omega, rfl, ?_, fun X n r hX hAn => ?_⟩
      · rw [hset, h2n, hp2]
        simp only [qd, ql, qc, hm, ← hdep]
        rfl
      · obtain ⟨n2, hn2⟩ := hA (41 :: X) (n + 1) r (by simp; omega) (Ans.close hF hl2 (by omega) h41 (by rw [hdm, show p.next + m + 1 + 1 = p.next + t.len by omega]; exact hAn))
        exact ⟨n2 + 1, Ans.opens hF hp (by omega) h40 hd16 hn2⟩
    · rw [if_neg (show ¬ (tkAt ts (p.next + m + 1)).l = [41] from h41)]
      simp only
      refine ⟨fun r p' h => (by cases h), fun k' h => ?_⟩
      cases h
      rw [h2n]
      refine ⟨hl2, fun X hX => ?_⟩
      obtain ⟨n2, hn2⟩ := hA (41 :: X) 0 ((tkAt ts (p.next + m + 1)).pos : Int) (by simp; omega) (Ans.nosign hF 41 (by omega) hl2 (by omega) h41)
      exact ⟨n2 + 1, Ans.opens hF hp (by omega) h40 hd16 hn2⟩
theorem exprA : ∀ f d, d + f = 16 → ExA ts d (exprF ts f) := by
  have hatom : ∀ (p : PS) (br : Except Nat (Nat × PS)), lAt ts p.next ≠ [40] → atomF ts p br = if leafT (tkAt ts p.next) = true then .ok (leafF ts p (leafN0 (tkAt ts p.next))) else .error p.next := by
    intro p br h40
    unfold atomF
    rw [if_neg (show ¬ (p.hd ts).l = [40] from h40)]
    unfold leafN0 leafT litT PS.hd
    by_cases h1 : (tkAt ts p.next).l = kTrue
    · simp [h1]
    by_cases h2 : (tkAt ts p.next).l = kFalse
    · rw [if_neg h1, if_pos h2, if_neg h1, if_pos h2]; simp [h2]
    by_cases h3 : (tkAt ts p.next).kind = 3
    · simp [h1, h2, h3]
    by_cases h4 : (tkAt ts p.next).kind = 1
    · simp [h1, h2, h4]
    · simp [h1, h2, h3, h4]
  have hleaf : ∀ (d : Nat) (p : PS) (br : Except Nat (Nat × PS)), d ≤ 16 → p.next < ts.length → lAt ts p.next ≠ [40] →
      (∀ r p', atomF ts p br = .ok (r, p') → ∃ t : Ast, Sp ts t p.next ∧ p.next + t.len < ts.length ∧ r = p.nodes.length ∧
        p' = { p with next := p.next + t.len, nodes := p.nodes ++ flat ts t p.next p.delays p.nodes.length } ∧
        ∀ X n r, X.length ≤ 4 + 3 * d → Ans ts n X d (p.next + t.len) r → ∃ n', Ans ts n' (69 :: X) d p.next r) ∧
      (∀ k, atomF ts p br = .error k → k < ts.length ∧ ∀ X, X.length ≤ 4 + 3 * d → ∃ n, Ans ts n (69 :: X) d p.next ((tkAt ts k).pos : Int)) := by
    intro d p br hd hp h40
    rw [hatom p br h40]
    by_cases hl : leafT (tkAt ts p.next) = true
    · rw [if_pos hl]
      obtain ⟨_, hl1⟩ := adv_kw ht (p := p) hp (leaf_nil hF hl)
      refine ⟨fun r p' h => ?_, fun k h => (by cases h)⟩
      cases h
      refine ⟨.leaf, ⟨hl, h40⟩, hl1, rfl, ?_, fun X n r hX hA => ⟨n + 1, ?_⟩⟩
      · obtain ⟨ea, _⟩ := adv_kw ht (p := p.add ts (leafN0 (tkAt ts p.next))) hp (leaf_nil hF hl)
        rw [ea]; rfl
      · exact Ans.leaf hF hp (by omega) hl h40 hA
    · rw [if_neg hl]
      refine ⟨fun r p' h => (by cases h), fun k h => ?_⟩
      cases h
      exact ⟨hp, fun X hX => ⟨0, Ans.noleaf hF hp (by omega) (by simpa using hl) h40⟩⟩
  intro f
  induction f with
  | zero =>
    intro d hd
    refine ⟨fun p r p' hp he hdep => ?_, fun p k hp he hdep => ?_, fun p k he h40 => ?_⟩
    · by_cases h40 : lAt ts p.next = [40]
      · exfalso
        have he' : atomF ts p (.error p.next) = .ok (r, p') := he
        unfold atomF at he'
        rw [if_pos (show (p.hd ts).l = [40] from h40)] at he'
        cases he'
      · exact (hleaf d p _ (by omega) hp h40).1 r p' he
    · by_cases h40 : lAt ts p.next = [40]
      · have he' : atomF ts p (.error p.next) = .error k := he
        unfold atomF at he'
        rw [if_pos (show (p.hd ts).l = [40] from h40)] at he'
        cases he'
        exact ⟨hp, fun X hX => ⟨0, Ans.deep hF hp (by omega) h40 (by omega)⟩⟩
      · exact (hleaf d p _ (by omega) hp h40).2 k he
    · have he' : atomF ts p (.error p.next) = .error k := he
      rw [hatom p _ h40] at he'
      split at he'
      · cases he'
      · rename_i hl; cases he'; exact ⟨rfl, by simpa using hl⟩
  | succ f ih =>
    intro d hd
    have hx := ih (d + 1) (by omega)
    refine ⟨fun p r p' hp he hdep => ?_, fun p k hp he hdep => ?_, fun p k he h40 => ?_⟩
    · have he' : atomF ts p (bracketF ts (exprF ts f) p) = .ok (r, p') := he
      by_cases h40 : lAt ts p.next = [40]
      · unfold atomF at he'
        rw [if_pos (show (p.hd ts).l = [40] from h40)] at he'
        exact (bracketA ht hF (by omega) hx hp hdep h40).1 r p' he'
      · exact (hleaf d p _ (by omega) hp h40).1 r p' he'
    · have he' : atomF ts p (bracketF ts (exprF ts f) p) = .error k := he
      by_cases h40 : lAt ts p.next = [40]
      · unfold atomF at he'
        rw [if_pos (show (p.hd ts).l = [40] from h40)] at he'
        exact (bracketA ht hF (by omega) hx hp hdep h40).2 k he'
      · exact (hleaf d p _ (by omega) hp h40).2 k he'
    · have he' : atomF ts p (bracketF ts (exprF ts f) p) = .error k := he
      rw [hatom p _ h40] at he'
      split at he'
      · cases he'
      · rename_i hl; cases he'; exact ⟨rfl, by simpa using hl⟩
end
structure Dl where
  kind : Nat
  i : Nat
  t : Ast
def Dl.len (x : Dl) : Nat := if x.kind = 0 then 3 else x.t.len + 6
def DlOk (ts : List Tk) (x : Dl) : Prop :=
  (x.kind = 0 ∧ lAt ts x.i = kIn ∧ (tkAt ts (x.i + 1)).kind = 1 ∧ lAt ts (x.i + 2) = [59]) ∨
  (((x.kind = 1 ∧ lAt ts x.i = kInt) ∨ (x.kind = 2 ∧ lAt ts x.i = kBool)) ∧ (tkAt ts (x.i + 1)).kind = 1 ∧ lAt ts (x.i + 2) = kAt ∧ ((tkAt ts (x.i + 3)).kind = 3 ∧ valOf (lAt ts (x.i + 3)) < 4) ∧
    lAt ts (x.i + 4) = [61] ∧ Sp ts x.t (x.i + 5) ∧ lAt ts (x.i + 5 + x.t.len) = [59])
def Spell (ts : List Tk) : List Dl → Nat → Prop
  | [], i => i < ts.length ∧ (tkAt ts i).kind = 0
  | x :: r, i => x.i = i ∧ i + x.len < ts.length ∧ DlOk ts x ∧ Spell ts r (i + x.len)
def nodesD (ts : List Tk) : List Dl → Nat → List Nd
  | [], _ => []
  | x :: r, off => if x.kind = 0 then nodesD ts r off else flat ts x.t (x.i + 5) 0 off ++ nodesD ts r (off + x.t.size)
def dcIn (ts : List Tk) (x : Dl) (a : Nat) : Dc := ⟨0, a, (tkAt ts (x.i + 1)).text, (tkAt ts (x.i + 1)).pos, 0, 0, 0⟩
def dcEq (ts : List Tk) (x : Dl) (b off : Nat) : Dc := ⟨x.kind, b, (tkAt ts (x.i + 1)).text, (tkAt ts (x.i + 1)).pos, valOf (lAt ts (x.i + 3)), off, off + x.t.size⟩
def declsD (ts : List Tk) : List Dl → Nat → Nat → Nat → List Dc
  | [], _, _, _ => []
  | x :: r, off, a, b => if x.kind = 0 then dcIn ts x a :: declsD ts r off (a + 1) b else dcEq ts x b off :: declsD ts r (off + x.t.size) a (b + 1)
def insN (l : List Dc) : Nat := (l.filter fun d => d.kind == 0).length
theorem sameSort_ins (d : Dc) (l : List Dc) (h : d.kind = 0) : sameSort d l = insN l := by
  unfold sameSort insN; rw [h]; congr 1; apply List.filter_congr; intro a _; simp
section
variable {ts : List Tk} (ht : TsOk ts) (hF : ∀ i, TkF (tkAt ts i))
include ht hF
omit ht in
theorem Ans.name {n : Nat} {X : List UInt8} {d : Int} {i : Nat} {r : Int} (hi : i < ts.length) (hX : X.length ≤ 99) (h : (tkAt ts i).kind = 1) (hn : Ans ts n X d (i + 1) r) : Ans ts (n + 1) (97 :: X) d i r := by
  have hl : leafT (tkAt ts i) = true := by unfold leafT; rw [h]; simp
  obtain ⟨_, _, a, b⟩ := leaf_ne2 hF hl
  refine Ans.use hi hX (by decide) (m := []) ?_ a b hn
  have := c97 (tkAt ts i)
  unfold ruleF
  rw [if_neg (by decide), if_pos (by decide), this, h]; rfl
omit ht hF in
theorem Ans.noname {X : List UInt8} {d : Int} {i : Nat} (hi : i < ts.length) (hX : X.length ≤ 99) (h : (tkAt ts i).kind ≠ 1) : Ans ts 0 (97 :: X) d i ((tkAt ts i).pos : Int) := by
  refine Ans.fail 0 _ X d i hi hX (fun h => absurd h.1 (by decide)) ?_
  have := c97 (tkAt ts i)
  unfold ruleF
  rw [if_neg (by decide), if_pos (by decide), this]; simpa using h
omit ht in
theorem rule84 (i : Nat) (d : Int) : ruleF 84 (rtok (tkAt ts i)) d = ([], true, lAt ts i == kAt) := by
  unfold ruleF
  rw [if_neg (by decide), if_neg (by decide), if_pos (by decide), (hF i).eq (by decide)]
omit ht in
theorem Ans.isAt {n : Nat} {X : List UInt8} {d : Int} {i : Nat} {r : Int} (hi : i < ts.length) (hX : X.length ≤ 99) (h : lAt ts i = kAt) (hn : Ans ts n X d (i + 1) r) : Ans ts (n + 1) (84 :: X) d i r :=
  Ans.use hi hX (by decide) (m := []) (by have := rule84 hF i d; rw [h] at this; exact this) (by rw [h]; decide) (by rw [h]; decide) hn
omit ht in
theorem Ans.noAt {X : List UInt8} {d : Int} {i : Nat} (hi : i < ts.length) (hX : X.length ≤ 99) (h : lAt ts i ≠ kAt) : Ans ts 0 (84 :: X) d i ((tkAt ts i).pos : Int) :=
  Ans.fail 0 _ X d i hi hX (fun h => absurd h.1 (by decide)) (by
    show (ruleF 84 (rtok (tkAt ts i)) d).2.2 = false
    rw [rule84 hF]; simpa using h)
omit ht hF in
theorem rule81 (i : Nat) (d : Int) : (ruleF 81 (rtok (tkAt ts i)) d) = ([], true, decide ((tkAt ts i).kind = 3 ∧ valOf (lAt ts i) < 4)) := by
  have := c110 (tkAt ts i)
  unfold ruleF
  rw [if_neg (by decide), if_neg (by decide), if_neg (by decide), if_pos (by decide), this]
  by_cases h : (tkAt ts i).kind = 3
  · rw [rn3 h]; simp [h]
  · simp [h]
omit ht in
theorem Ans.place {n : Nat} {X : List UInt8} {d : Int} {i : Nat} {r : Int} (hi : i < ts.length) (hX : X.length ≤ 99) (h : (tkAt ts i).kind = 3 ∧ valOf (lAt ts i) < 4) (hn : Ans ts n X d (i + 1) r) : Ans ts (n + 1) (81 :: X) d i r := by
  have hl : leafT (tkAt ts i) = true := by unfold leafT litT; rw [h.1]; simp
  obtain ⟨_, _, a, b⟩ := leaf_ne2 hF hl
  exact Ans.use hi hX (by decide) (m := []) (by have := rule81 (ts := ts) i d; rw [decide_eq_true h] at this; exact this) a b hn
omit ht hF in
theorem Ans.noplace {X : List UInt8} {d : Int} {i : Nat} (hi : i < ts.length) (hX : X.length ≤ 99) (h : ¬ ((tkAt ts i).kind = 3 ∧ valOf (lAt ts i) < 4)) : Ans ts 0 (81 :: X) d i ((tkAt ts i).pos : Int) :=
  Ans.fail 0 _ X d i hi hX (fun h => absurd h.1 (by decide)) (by
    show (ruleF 81 (rtok (tkAt ts i)) d).2.2 = false
    rw [rule81]; simp only [decide_eq_false_iff_not]; exact h)
omit ht in
theorem rule80 (i : Nat) (d : Int) : ruleF 80 (rtok (tkAt ts i)) d = if lAt ts i = kIn then ([97, 59, 80], true, true) else ([97, 84, 81, 61, 69, 59, 80], true, lAt ts i == kInt || lAt ts i == kBool) := by
  unfold ruleF
  rw [if_pos (by decide), (hF i).if (by decide), (hF i).eq (by decide), (hF i).eq (by decide)]
omit ht in
theorem Ans.declIn {n : Nat} {i : Nat} {r : Int} (hi : i < ts.length) (h : lAt ts i = kIn) (hn : Ans ts n [97, 59, 80] 0 (i + 1) r) : Ans ts (n + 1) [80] 0 i r := by
  refine Ans.step n 80 [] 0 i r [97, 59, 80] true hi (by simp) (fun hk => (hF i).not0 (by show kwL.contains (lAt ts i) = true; rw [h]; decide) hk.2) ?_ ?_
  · have := rule80 hF i 0
    rw [if_pos h] at this
    exact this
  · rw [if_neg (by rw [h]; decide), if_neg (by rw [h]; decide), if_pos rfl]; exact hn
omit ht in
theorem Ans.declEq {n : Nat} {i : Nat} {r : Int} (hi : i < ts.length) (h : lAt ts i = kInt ∨ lAt ts i = kBool) (hn : Ans ts n [97, 84, 81, 61, 69, 59, 80] 0 (i + 1) r) : Ans ts (n + 1) [80] 0 i r := by
  refine Ans.step n 80 [] 0 i r [97, 84, 81, 61, 69, 59, 80] true hi (by simp) (fun hk => (hF i).not0 (by show kwL.contains (lAt ts i) = true; rcases h with h | h <;> rw [h] <;> decide) hk.2) ?_ ?_
  · have := rule80 hF i 0
    rcases h with h | h
    · rw [if_neg (by rw [h]; decide), h] at this; exact this
    · rw [if_neg (by rw [h]; decide), h] at this; exact this
  · rcases h with h | h
    · rw [if_neg (by rw [h]; decide), if_neg (by rw [h]; decide), if_pos rfl]; exact hn
    · rw [if_neg (by rw [h]; decide), if_neg (by rw [h]; decide), if_pos rfl]; exact hn
omit ht in
theorem Ans.nodecl {i : Nat} (hi : i < ts.length) (h0 : (tkAt ts i).kind ≠ 0) (h1 : lAt ts i ≠ kIn) (h2 : lAt ts i ≠ kInt) (h3 : lAt ts i ≠ kBool) : Ans ts 0 [80] 0 i ((tkAt ts i).pos : Int) := by
  refine Ans.fail 0 80 [] 0 i hi (by simp) (fun hk => h0 hk.2) ?_
  show (ruleF 80 (rtok (tkAt ts i)) 0).2.2 = false
  rw [rule80 hF, if_neg h1]; simp [h2, h3]
end

end Go.Proofs.Ytmndgoapkmhglab
