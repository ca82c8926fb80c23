import Derived.Test.YtghomdecppfonaaM23RefF
/- Plain mathematics: a right text, by both readers. -/
namespace Go.Proofs.Ytghomdecppfonaa

/-- the text's answer, and its parts. -/
theorem text_read (s : ByteArray) (hs : s.size ≤ 1500) :
    (∃ k, k < (toks s).length ∧ textF s = (2, (tkAt (toks s) k).pos) ∧ ∃ n, Ans (toks s) n [80] 0 0 ((tkAt (toks s) k).pos : Int)) ∨
    (∃ L, Spell (toks s) L 0 ∧ (∃ n, Ans (toks s) n [80] 0 0 (-1)) ∧ textF s = readR (toks s) L ∧ ∃ p, parseF s = .ok p ∧ p.decls = declsD (toks s) L 0 0 0 ∧ p.nodes = nodesD (toks s) L 0) := by
  obtain ⟨hok, hbad⟩ := parseA s hs
  unfold textF
  rw [if_neg (by omega)]
  cases hp : parseF s with
  | error k =>
    obtain ⟨h1, h2⟩ := hbad k hp
    exact .inl ⟨k, h1, rfl, h2⟩
  | ok p =>
    obtain ⟨L, h1, h2, h3, h4⟩ := hok p hp
    refine .inr ⟨L, h1, h4, ?_, p, rfl, h2, h3⟩
    show meaningF p.decls (boundN p) = _
    unfold boundN
    rw [h2, h3]
    exact meaning_ref (toks_F s) (toks_pos s) (toks_end s) L h1 (toks_ok s hs).pos

/-- a right text: its parts, and that nothing is wrong with them. -/
structure RGood (s : ByteArray) (L : List Dl) : Prop where
  many : manyR (toks s) L = none
  names : namesR (toks s) L = none
  types : typesR (toks s) L = none
  cyc : cycR (toks s) L = none
  lp : lpR (toks s) L = none
  sp : Spell (toks s) L 0
  parse : ∃ p, parseF s = .ok p ∧ p.decls = declsD (toks s) L 0 0 0 ∧ p.nodes = nodesD (toks s) L 0

theorem spell_lt {ts : List Tk} : ∀ (L : List Dl) (i : Nat), Spell ts L i → L.Pairwise (fun x y => x.i + x.len ≤ y.i) := by
  intro L
  induction L with
  | nil => intro i _; exact List.Pairwise.nil
  | cons x r ih =>
    intro i h
    obtain ⟨_, h2, _, _, _, h6⟩ := spell_mid (L2 := r) [] i h
    exact List.Pairwise.cons h2 (ih _ h6)

end Go.Proofs.Ytghomdecppfonaa
