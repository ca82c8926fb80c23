import Derived.Test.Ytmndgoapkmhglabo04RePure
namespace Go.Proofs.Ytmndgoapkmhglab
section
variable {ts : List Tk} (ht : TsOk ts) (hF : ∀ i, TkF (tkAt ts i))
include ht hF
omit hF in
theorem takeY {p : PS} {l : List UInt8} (hl : l ≠ []) (hp : p.next < ts.length) (h : lAt ts p.next = l) : p.take ts l = .ok { p with next := p.next + 1 } ∧ p.next + 1 < ts.length := by
  obtain ⟨ea, hl1⟩ := adv_kw ht (p := p) hp (by rw [h]; exact hl)
  unfold PS.take
  rw [if_pos (show (p.hd ts).l = l from h), ea]
  exact ⟨rfl, hl1⟩
omit ht hF in
theorem takeN {p : PS} {l : List UInt8} (h : lAt ts p.next ≠ l) : p.take ts l = .error p.next := by
  unfold PS.take
  rw [if_neg (show ¬ (p.hd ts).l = l from h)]
def afterD (ts : List Tk) (p : PS) (x : Dl) : PS :=
  { p with next := p.next + x.len, decls := p.decls ++ [if x.kind = 0 then dcIn ts x (insN p.decls) else dcEq ts x (eqsF p.decls).length p.nodes.length], nodes := p.nodes ++ (if x.kind = 0 then [] else flat ts x.t (x.i + 5) 0 p.nodes.length) }
theorem inputA {p : PS} (hp : p.next < ts.length) (h : lAt ts p.next = kIn) :
    (∀ p', inputF ts p = .ok p' → ∃ x : Dl, x.i = p.next ∧ p.next + x.len < ts.length ∧ DlOk ts x ∧ p' = afterD ts p x ∧ ∀ n r, Ans ts n [80] 0 (p.next + x.len) r → ∃ n', Ans ts n' [80] 0 p.next r) ∧
    (∀ k, inputF ts p = .error k → k < ts.length ∧ ∃ n, Ans ts n [80] 0 p.next ((tkAt ts k).pos : Int)) := by
  obtain ⟨ea, hl1⟩ := adv_kw ht (p := p) hp (by rw [h]; decide)
  unfold inputF
  rw [ea]
  have hh : PS.hd ts { p with next := p.next + 1 } = tkAt ts (p.next + 1) := rfl
  rw [hh]
  by_cases hk : (tkAt ts (p.next + 1)).kind = 1
  · rw [if_pos hk]
    have hne : lAt ts (p.next + 1) ≠ [] := (hF _).pos (by rw [hk]; decide)
    obtain ⟨eb, hl2⟩ := adv_kw ht (p := { p with next := p.next + 1 }) hl1 hne
    rw [eb]
    by_cases hs : lAt ts (p.next + 2) = [59]
    · obtain ⟨e3, hl3⟩ := takeY ht (p := PS.declare { p with next := p.next + 1 + 1 } ⟨0, 0, (tkAt ts (p.next + 1)).text, (tkAt ts (p.next + 1)).pos, 0, 0, 0⟩) (l := [59]) (by decide) hl2 hs
      have hl3' : p.next + 1 + 1 + 1 < ts.length := hl3
      rw [e3]
      refine ⟨fun p' he => ?_, fun k he => (by cases he)⟩
      cases he
      refine ⟨⟨0, p.next, .leaf⟩, rfl, hl3', .inl ⟨rfl, h, hk, hs⟩, ?_, fun n r hA => ⟨n + 1 + 1 + 1, ?_⟩⟩
      · unfold afterD PS.declare
        simp only [Dl.len, if_true, List.append_nil]
        congr 1
        rw [sameSort_ins _ _ rfl, Nat.zero_add]
        rfl
      · exact Ans.declIn hF hp h (Ans.name hF hl1 (by simp) hk (Ans.sign hF 59 (.inl rfl) hl2 (by simp) hs hA))
    · rw [takeN (p := PS.declare { p with next := p.next + 1 + 1 } ⟨0, 0, (tkAt ts (p.next + 1)).text, (tkAt ts (p.next + 1)).pos, 0, 0, 0⟩) (l := [59]) hs]
      refine ⟨fun p' he => (by cases he), fun k he => ?_⟩
      cases he
      exact ⟨hl2, 2, Ans.declIn hF hp h (Ans.name hF hl1 (by simp) hk (Ans.nosign hF 59 (.inl rfl) hl2 (by simp) hs))⟩
  · rw [if_neg hk]
    refine ⟨fun p' he => (by cases he), fun k he => ?_⟩
    cases he
    exact ⟨hl1, 1, Ans.declIn hF hp h (Ans.noname hl1 (by simp) hk)⟩
theorem equationA {p : PS} (kind : Nat) (hp : p.next < ts.length) (hdep : p.depth = 0) (hdl : p.delays = 0) (h : (kind = 1 ∧ lAt ts p.next = kInt) ∨ (kind = 2 ∧ lAt ts p.next = kBool)) :
    (∀ p', equationF ts kind p = .ok p' → ∃ x : Dl, x.i = p.next ∧ p.next + x.len < ts.length ∧ DlOk ts x ∧ p' = afterD ts p x ∧ ∀ n r, Ans ts n [80] 0 (p.next + x.len) r → ∃ n', Ans ts n' [80] 0 p.next r) ∧
    (∀ k, equationF ts kind p = .error k → k < ts.length ∧ ∃ n, Ans ts n [80] 0 p.next ((tkAt ts k).pos : Int)) := by
  have hor : lAt ts p.next = kInt ∨ lAt ts p.next = kBool := h.elim (fun h => .inl h.2) (fun h => .inr h.2)
  have hk0 : kind ≠ 0 := by omega
  obtain ⟨ea, hl1⟩ := adv_kw ht (p := p) hp (by rcases hor with h | h <;> rw [h] <;> decide)
  unfold equationF
  rw [ea]
  have hh : PS.hd ts { p with next := p.next + 1 } = tkAt ts (p.next + 1) := rfl
  rw [hh]
  by_cases hk : (tkAt ts (p.next + 1)).kind = 1
  case neg =>
    rw [if_neg hk]
    refine ⟨fun p' he => (by cases he), fun k he => ?_⟩
    cases he
    exact ⟨hl1, 1, Ans.declEq hF hp hor (Ans.noname hl1 (by simp) hk)⟩
  rw [if_pos hk]
  have hne : lAt ts (p.next + 1) ≠ [] := (hF _).pos (by rw [hk]; decide)
  obtain ⟨eb, hl2⟩ := adv_kw ht (p := { p with next := p.next + 1 }) hl1 hne
  have hl2' : p.next + 2 < ts.length := hl2
  rw [eb]
  by_cases hat : lAt ts (p.next + 2) = kAt
  case neg =>
    rw [takeN (p := { p with next := p.next + 1 + 1 }) (l := kAt) hat]
    refine ⟨fun p' he => (by cases he), fun k he => ?_⟩
    cases he
    exact ⟨hl2, 2, Ans.declEq hF hp hor (Ans.name hF hl1 (by simp) hk (Ans.noAt hF hl2 (by simp) hat))⟩
  obtain ⟨e3, hl3⟩ := takeY ht (p := { p with next := p.next + 1 + 1 }) (l := kAt) (by decide) hl2 hat
  have hl3' : p.next + 3 < ts.length := hl3
  rw [e3]
  simp only
  unfold placeF
  have hh3 : PS.hd ts { p with next := p.next + 1 + 1 + 1 } = tkAt ts (p.next + 3) := rfl
  rw [hh3]
  by_cases hpl : (tkAt ts (p.next + 3)).kind = 3 ∧ valOf (tkAt ts (p.next + 3)).l < 4
  case neg =>
    rw [if_neg hpl]
    refine ⟨fun p' he => (by cases he), fun k he => ?_⟩
    cases he
    exact ⟨hl3, 3, Ans.declEq hF hp hor (Ans.name hF hl1 (by simp) hk (Ans.isAt hF hl2 (by simp) hat (Ans.noplace hl3' (by simp) hpl)))⟩
  rw [if_pos hpl]
  have hne3 : lAt ts (p.next + 3) ≠ [] := (hF _).pos (by rw [hpl.1]; decide)
  obtain ⟨e4, hl4⟩ := adv_kw ht (p := { p with next := p.next + 1 + 1 + 1 }) hl3 hne3
  have hl4' : p.next + 4 < ts.length := hl4
  rw [e4]
  simp only
  by_cases heq : lAt ts (p.next + 4) = [61]
  case neg =>
    rw [takeN (p := { p with next := p.next + 1 + 1 + 1 + 1 }) (l := [61]) heq]
    refine ⟨fun p' he => (by cases he), fun k he => ?_⟩
    cases he
    exact ⟨hl4, 4, Ans.declEq hF hp hor (Ans.name hF hl1 (by simp) hk (Ans.isAt hF hl2 (by simp) hat (Ans.place hF hl3' (by simp) hpl (Ans.nosign hF 61 (.inr (.inl rfl)) hl4' (by simp) heq))))⟩
  obtain ⟨e5, hl5⟩ := takeY ht (p := { p with next := p.next + 1 + 1 + 1 + 1 }) (l := [61]) (by decide) hl4 heq
  have hl5' : p.next + 5 < ts.length := hl5
  rw [e5]
  simp only
  have hx := exprA ht hF 16 0 rfl
  have hcome : ∀ n r, Ans ts n (69 :: [59, 80]) 0 (p.next + 5) r → ∃ n', Ans ts n' [80] 0 p.next r := fun n r hA =>
    ⟨n + 1 + 1 + 1 + 1 + 1, Ans.declEq hF hp hor (Ans.name hF hl1 (by simp) hk (Ans.isAt hF hl2 (by simp) hat (Ans.place hF hl3' (by simp) hpl (Ans.sign hF 61 (.inr rfl) hl4' (by simp) heq hA))))⟩
  generalize hQ : ({ next := p.next + 1 + 1 + 1 + 1 + 1, depth := p.depth, delays := p.delays, decls := p.decls, nodes := p.nodes } : PS) = q
  have q1 : q.next = p.next + 5 := by rw [← hQ]
  have q2 : q.depth = 0 := by rw [← hQ]; exact hdep
  have q3 : q.delays = 0 := by rw [← hQ]; exact hdl
  have q4 : q.nodes = p.nodes := by rw [← hQ]
  have q5 : q.decls = p.decls := by rw [← hQ]
  cases he : exprF ts 16 q with
  | error k =>
    simp only
    obtain ⟨hkl, hA⟩ := hx.bad q k (by rw [q1]; exact hl5') he q2
    refine ⟨fun p' he => (by cases he), fun k he => ?_⟩
    cases he
    obtain ⟨n, hn⟩ := hA [59, 80] (by simp)
    rw [q1] at hn
    exact ⟨hkl, hcome n _ hn⟩
  | ok v =>
    obtain ⟨r0, p4⟩ := v
    simp only
    obtain ⟨t, hs, hl, hr, hp4, hA⟩ := hx.ok q r0 p4 (by rw [q1]; exact hl5') he q2
    rw [q1] at hs hl hA
    have n4 : p4.next = p.next + 5 + t.len := by rw [hp4, q1]
    by_cases hs9 : lAt ts (p.next + 5 + t.len) = [59]
    · obtain ⟨e9, hl9⟩ := takeY ht (p := p4.declare ⟨kind, 0, (tkAt ts (p.next + 1)).text, (tkAt ts (p.next + 1)).pos, valOf (tkAt ts (p.next + 3)).l, r0, p4.nodes.length⟩) (l := [59]) (by decide) (by show p4.next < _; rw [n4]; exact hl) (by show lAt ts p4.next = _; rw [n4]; exact hs9)
      have hl9' : p4.next + 1 < ts.length := hl9
      rw [n4] at hl9'
      rw [e9]
      refine ⟨fun p' he => ?_, fun k he => (by cases he)⟩
      cases he
      refine ⟨⟨kind, p.next, t⟩, rfl, by simp [Dl.len, hk0]; omega, .inr ⟨h, hk, hat, hpl, heq, hs, hs9⟩, ?_, fun n r hA9 => ?_⟩
      · unfold afterD PS.declare
        rw [sameSort_eqs _ _ hk0]
        simp only [Dl.len, if_neg hk0, n4, Nat.zero_add]
        rw [hp4, q2, q3, q4, q5, q1, hr, q4, ← hdep]
        simp only [dcEq, List.length_append, flat_len]
        congr 1
        · omega
        · omega
      · obtain ⟨n2, hn2⟩ := hA [59, 80] (n + 1) r (by simp) (Ans.sign hF 59 (.inl rfl) hl (by simp) hs9 (by
          have e : p.next + 5 + t.len + 1 = p.next + (⟨kind, p.next, t⟩ : Dl).len := by simp [Dl.len, hk0]; omega
          rw [e]; exact hA9))
        exact hcome n2 r hn2
    · rw [takeN (p := p4.declare ⟨kind, 0, (tkAt ts (p.next + 1)).text, (tkAt ts (p.next + 1)).pos, valOf (tkAt ts (p.next + 3)).l, r0, p4.nodes.length⟩) (l := [59]) (by show lAt ts p4.next ≠ _; rw [n4]; exact hs9)]
      refine ⟨fun p' he => (by cases he), fun k he => ?_⟩
      have ek : k = p.next + 5 + t.len := by rw [← n4]; cases he; rfl
      subst ek
      obtain ⟨n2, hn2⟩ := hA [59, 80] 0 ((tkAt ts (p.next + 5 + t.len)).pos : Int) (by simp) (Ans.nosign hF 59 (.inl rfl) hl (by simp) hs9)
      exact ⟨hl, hcome n2 _ hn2⟩
theorem declarationA {p : PS} (hp : p.next < ts.length) (hdep : p.depth = 0) (hdl : p.delays = 0) (h0 : (tkAt ts p.next).kind ≠ 0) :
    (∀ p', declarationF ts p = .ok p' → ∃ x : Dl, x.i = p.next ∧ p.next + x.len < ts.length ∧ DlOk ts x ∧ p' = afterD ts p x ∧ ∀ n r, Ans ts n [80] 0 (p.next + x.len) r → ∃ n', Ans ts n' [80] 0 p.next r) ∧
    (∀ k, declarationF ts p = .error k → k < ts.length ∧ ∃ n, Ans ts n [80] 0 p.next ((tkAt ts k).pos : Int)) := by
  unfold declarationF
  by_cases h1 : lAt ts p.next = kIn
  · rw [if_pos (show (p.hd ts).l = kIn from h1)]; exact inputA ht hF hp h1
  rw [if_neg (show ¬ (p.hd ts).l = kIn from h1)]
  by_cases h2 : lAt ts p.next = kInt
  · rw [if_pos (show (p.hd ts).l = kInt from h2)]; exact equationA ht hF 1 hp hdep hdl (.inl ⟨rfl, h2⟩)
  rw [if_neg (show ¬ (p.hd ts).l = kInt from h2)]
  by_cases h3 : lAt ts p.next = kBool
  · rw [if_pos (show (p.hd ts).l = kBool from h3)]; exact equationA ht hF 2 hp hdep hdl (.inr ⟨rfl, h3⟩)
  rw [if_neg (show ¬ (p.hd ts).l = kBool from h3)]
  refine ⟨fun p' he => (by cases he), fun k he => ?_⟩
  cases he
  exact ⟨hp, 0, Ans.nodecl hF hp h0 h1 h2 h3⟩
theorem declsA : ∀ f (p : PS), ts.length ≤ f + p.next → p.next < ts.length → p.depth = 0 → p.delays = 0 →
    (∀ p', declsF ts f p = .ok p' → ∃ L, Spell ts L p.next ∧ p'.decls = p.decls ++ declsD ts L p.nodes.length (insN p.decls) (eqsF p.decls).length ∧ p'.nodes = p.nodes ++ nodesD ts L p.nodes.length ∧ ∃ n, Ans ts n [80] 0 p.next (-1)) ∧
    (∀ k, declsF ts f p = .error k → k < ts.length ∧ ∃ n, Ans ts n [80] 0 p.next ((tkAt ts k).pos : Int)) := by
  intro f
  induction f with
  | zero => intro p h1 h2; omega
  | succ f ih =>
    intro p hf hp hdep hdl
    unfold declsF
    by_cases h0 : (tkAt ts p.next).kind = 0
    · rw [if_pos (show (p.hd ts).kind = 0 from h0)]
      refine ⟨fun p' he => ?_, fun k he => (by cases he)⟩
      cases he
      exact ⟨[], ⟨hp, h0⟩, by simp [declsD], by simp [nodesD], 0, Ans.done 0 [] 0 p.next hp (by simp) h0⟩
    · rw [if_neg (show ¬ (p.hd ts).kind = 0 from h0)]
      obtain ⟨hok, hbad⟩ := declarationA ht hF hp hdep hdl h0
      cases he : declarationF ts p with
      | error k =>
        refine ⟨fun p' he => (by cases he), fun k' he' => ?_⟩
        cases he'
        exact hbad k he
      | ok q =>
        obtain ⟨x, hxi, hxl, hxo, hq, hA⟩ := hok q he
        simp only
        have hlen : 0 < x.len := by unfold Dl.len; split <;> omega
        have qn : q.next = p.next + x.len := by rw [hq]; rfl
        obtain ⟨ok2, bad2⟩ := ih q (by rw [qn]; omega) (by rw [qn]; exact hxl) (by rw [hq]; exact hdep) (by rw [hq]; exact hdl)
        rw [qn] at ok2 bad2
        refine ⟨fun p' he' => ?_, fun k he' => ?_⟩
        · obtain ⟨L, hL, hd, hn, n, hAn⟩ := ok2 p' he'
          obtain ⟨n2, hn2⟩ := hA n _ hAn
          refine ⟨x :: L, ⟨hxi, hxl, hxo, hL⟩, ?_, ?_, n2, hn2⟩
          · rw [hd, hq]
            simp only [afterD, declsD]
            by_cases hk : x.kind = 0
            · simp only [hk, if_true]
              simp [insN, eqsF, dcIn, List.filter_append]
            · simp only [if_neg hk]
              have hk2 : (x.kind == 0) = false := by simpa using hk
              simp [insN, eqsF, dcEq, List.filter_append, hk, flat_len]
          · rw [hn, hq]
            simp only [afterD, nodesD]
            by_cases hk : x.kind = 0
            · simp only [hk, if_true]; simp
            · simp only [if_neg hk]; simp [flat_len]
        · obtain ⟨hk, n, hAn⟩ := bad2 k he'
          obtain ⟨n2, hn2⟩ := hA n _ hAn
          exact ⟨hk, n2, hn2⟩
end
theorem parseA (s : ByteArray) (hs : s.size ≤ 1500) :
    (∀ p, parseF s = .ok p → ∃ L, Spell (toks s) L 0 ∧ p.decls = declsD (toks s) L 0 0 0 ∧ p.nodes = nodesD (toks s) L 0 ∧ ∃ n, Ans (toks s) n [80] 0 0 (-1)) ∧
    (∀ k, parseF s = .error k → k < (toks s).length ∧ ∃ n, Ans (toks s) n [80] 0 0 ((tkAt (toks s) k).pos : Int)) := by
  have ht := toks_ok s hs
  have h := declsA ht (toks_F s) (toks s).length pZero (by simp) ht.pos rfl rfl
  refine ⟨fun p hp => ?_, fun k hk => h.2 k hk⟩
  obtain ⟨L, h1, h2, h3, h4⟩ := h.1 p hp
  exact ⟨L, h1, by rw [h2]; rfl, by rw [h3]; rfl, h4⟩
def dstep (ts : List Tk) (k : Nat) (d : Int) : Int := if lAt ts k = [40] then d + 1 else if lAt ts k = [41] then d - 1 else d
def bhF (ts : List Tk) : Nat → Nat → Int → Nat
  | 0, _, _ => ts.length
  | f + 1, k, d => if dstep ts k d ≤ 0 then k + 1 else bhF ts f (k + 1) (dstep ts k d)
def behindF (ts : List Tk) (i : Nat) : Nat := bhF ts (ts.length - i) i 0
section
variable {ts : List Tk} (hF : ∀ i, TkF (tkAt ts i))
include hF
omit hF in
theorem bh_pass {f k : Nat} {d : Int} (h1 : lAt ts k ≠ [40]) (h2 : lAt ts k ≠ [41]) (hd : 0 < d) : bhF ts (f + 1) k d = bhF ts f (k + 1) d := by
  have : dstep ts k d = d := by unfold dstep; rw [if_neg h1, if_neg h2]
  simp only [bhF, this]
  rw [if_neg (by omega)]
omit hF in
theorem bh_open {f k : Nat} {d : Int} (h1 : lAt ts k = [40]) (hd : 0 ≤ d) : bhF ts (f + 1) k d = bhF ts f (k + 1) (d + 1) := by
  have : dstep ts k d = d + 1 := by unfold dstep; rw [if_pos h1]
  simp only [bhF, this]
  rw [if_neg (by omega)]
omit hF in
theorem bh_close {f k : Nat} {d : Int} (h1 : lAt ts k = [41]) (hd : 0 < d) : bhF ts (f + 1) k (d + 1) = bhF ts f (k + 1) d := by
  have : dstep ts k (d + 1) = d := by unfold dstep; rw [if_neg (by rw [h1]; decide), if_pos h1]; omega
  simp only [bhF, this]
  rw [if_neg (by omega)]
theorem bh_over : ∀ (t : Ast) (i f : Nat) (d : Int), Sp ts t i → 0 < d → bhF ts (f + t.len) i d = bhF ts f (i + t.len) d := by
  intro t
  induction t with
  | leaf =>
    intro i f d hs hd
    obtain ⟨_, _, a, b⟩ := leaf_ne2 hF hs.1
    exact bh_pass a b hd
  | neg a iha =>
    intro i f d hs hd
    obtain ⟨h1, h2, h3, h4⟩ := hs
    have e : f + (Ast.neg a).len = (f + 1) + a.len + 1 + 1 := by simp [Ast.len]; omega
    rw [e, bh_open h1 (by omega), bh_pass (by rw [h2]; decide) (by rw [h2]; decide) (by omega), iha (i + 1 + 1) (f + 1) _ h3 (by omega), bh_close (by rw [← h4]) hd]
    congr 1; simp [Ast.len]; omega
  | ite a b c iha ihb ihc =>
    intro i f d hs hd
    obtain ⟨h1, h2, h3, h4, h5, h6⟩ := hs
    have e : f + (Ast.ite a b c).len = (f + 1) + c.len + b.len + a.len + 1 + 1 := by simp [Ast.len]; omega
    rw [e, bh_open h1 (by omega), bh_pass (by rw [h2]; decide) (by rw [h2]; decide) (by omega), iha (i + 1 + 1) _ _ h3 (by omega), ihb (i + 1 + 1 + a.len) _ _ h4 (by omega), ihc (i + 1 + 1 + a.len + b.len) _ _ h5 (by omega), bh_close (by rw [← h6]) hd]
    congr 1; simp [Ast.len]; omega
  | dly b ihb =>
    intro i f d hs hd
    obtain ⟨h1, h2, h3, h4, h5⟩ := hs
    obtain ⟨_, _, x, y⟩ := leaf_ne2 hF (i := i + 1) (by unfold leafT; rw [h2]; rfl)
    have e : f + (Ast.dly b).len = (f + 1) + b.len + 1 + 1 + 1 := by simp [Ast.len]; omega
    rw [e, bh_open h1 (by omega), bh_pass x y (by omega), bh_pass (by rw [h3]; decide) (by rw [h3]; decide) (by omega), ihb (i + 1 + 1 + 1) (f + 1) _ h4 (by omega), bh_close (by rw [← h5]) hd]
    congr 1; simp [Ast.len]; omega
  | bin a b iha ihb =>
    intro i f d hs hd
    obtain ⟨h1, h2, h3, h4, h5⟩ := hs
    obtain ⟨x, y, _, _⟩ := op_ne h3
    have e : f + (Ast.bin a b).len = (f + 1) + b.len + 1 + a.len + 1 := by simp [Ast.len]; omega
    have e2 : i + 1 + a.len + 1 = i + 2 + a.len := by omega
    rw [e, bh_open h1 (by omega), iha (i + 1) _ _ h2 (by omega), bh_pass x y (by omega), e2, ihb (i + 2 + a.len) (f + 1) _ h4 (by omega), bh_close (by rw [← h5]) hd]
    congr 1; simp [Ast.len]; omega
theorem behind_sp (t : Ast) (i : Nat) (hs : Sp ts t i) (hi : i + t.len ≤ ts.length) : behindF ts i = i + t.len := by
  have hlast : ∀ f k, lAt ts k = [41] → bhF ts (f + 1) k 1 = k + 1 := by
    intro f k h
    have : dstep ts k 1 = 0 := by unfold dstep; rw [if_neg (by rw [h]; decide), if_pos h]; omega
    simp only [bhF, this]
    rw [if_pos (by omega)]
  unfold behindF
  cases t with
  | leaf =>
    obtain ⟨_, _, a, b⟩ := leaf_ne2 hF hs.1
    have hl : (Ast.leaf).len = 1 := rfl
    rw [hl] at hi ⊢
    have e : ts.length - i = (ts.length - i - 1) + 1 := by omega
    have : dstep ts i 0 = 0 := by unfold dstep; rw [if_neg a, if_neg b]
    rw [e]
    simp only [bhF, this]
    rw [if_pos (by omega)]
  | neg a =>
    obtain ⟨h1, h2, h3, h4⟩ := hs
    have hl : (Ast.neg a).len = a.len + 3 := rfl
    rw [hl] at hi ⊢
    have e : ts.length - i = (ts.length - i - (a.len + 3)) + 1 + a.len + 1 + 1 := by omega
    rw [e, bh_open h1 (by omega), bh_pass (by rw [h2]; decide) (by rw [h2]; decide) (by omega), bh_over hF a (i + 1 + 1) _ _ h3 (by omega)]
    have := hlast (ts.length - i - (a.len + 3)) (i + 1 + 1 + a.len) h4
    rw [show (0 : Int) + 1 = 1 by omega, this]; omega
  | ite a b c =>
    obtain ⟨h1, h2, h3, h4, h5, h6⟩ := hs
    have hl : (Ast.ite a b c).len = a.len + b.len + c.len + 3 := rfl
    rw [hl] at hi ⊢
    have e : ts.length - i = (ts.length - i - (a.len + b.len + c.len + 3)) + 1 + c.len + b.len + a.len + 1 + 1 := by omega
    rw [e, bh_open h1 (by omega), bh_pass (by rw [h2]; decide) (by rw [h2]; decide) (by omega), bh_over hF a (i + 1 + 1) _ _ h3 (by omega), bh_over hF b (i + 1 + 1 + a.len) _ _ h4 (by omega), bh_over hF c (i + 1 + 1 + a.len + b.len) _ _ h5 (by omega)]
    have := hlast (ts.length - i - (a.len + b.len + c.len + 3)) (i + 1 + 1 + a.len + b.len + c.len) h6
    rw [show (0 : Int) + 1 = 1 by omega, this]; omega
  | dly b =>
    obtain ⟨h1, h2, h3, h4, h5⟩ := hs
    obtain ⟨_, _, x, y⟩ := leaf_ne2 hF (i := i + 1) (by unfold leafT; rw [h2]; rfl)
    have hl : (Ast.dly b).len = b.len + 4 := rfl
    rw [hl] at hi ⊢
    have e : ts.length - i = (ts.length - i - (b.len + 4)) + 1 + b.len + 1 + 1 + 1 := by omega
    rw [e, bh_open h1 (by omega), bh_pass x y (by omega), bh_pass (by rw [h3]; decide) (by rw [h3]; decide) (by omega), bh_over hF b (i + 1 + 1 + 1) _ _ h4 (by omega)]
    have := hlast (ts.length - i - (b.len + 4)) (i + 1 + 1 + 1 + b.len) h5
    rw [show (0 : Int) + 1 = 1 by omega, this]; omega
  | bin a b =>
    obtain ⟨h1, h2, h3, h4, h5⟩ := hs
    obtain ⟨x, y, _, _⟩ := op_ne h3
    have hl : (Ast.bin a b).len = a.len + b.len + 3 := rfl
    rw [hl] at hi ⊢
    have e : ts.length - i = (ts.length - i - (a.len + b.len + 3)) + 1 + b.len + 1 + a.len + 1 := by omega
    have e2 : i + 1 + a.len + 1 = i + 2 + a.len := by omega
    rw [e, bh_open h1 (by omega), bh_over hF a (i + 1) _ _ h2 (by omega), bh_pass x y (by omega), e2, bh_over hF b (i + 2 + a.len) _ _ h4 (by omega)]
    have := hlast (ts.length - i - (a.len + b.len + 3)) (i + 2 + a.len + b.len) h5
    rw [show (0 : Int) + 1 = 1 by omega, this]; omega
end
def nmD (ts : List Tk) : Ast → Nat → Bool → List (Nat × Bool)
  | .leaf, i, dl => if (tkAt ts i).kind = 1 then [(i, dl)] else []
  | .neg a, i, dl => nmD ts a (i + 2) dl
  | .ite a b c, i, dl => nmD ts a (i + 2) dl ++ (nmD ts b (i + 2 + a.len) dl ++ nmD ts c (i + 2 + a.len + b.len) dl)
  | .dly b, i, _ => nmD ts b (i + 3) true
  | .bin a b, i, dl => nmD ts a (i + 1) dl ++ nmD ts b (i + 2 + a.len) dl
def isNm (ts : List Tk) (k : Nat) : Bool := (tkAt ts k).kind == 1
section
variable {ts : List Tk} (hF : ∀ i, TkF (tkAt ts i))
include hF
theorem kw_nm {i : Nat} (h : kwL.contains (lAt ts i) = true) : isNm ts i = false := by
  unfold isNm; rw [beq_eq_false_iff_ne]; exact (hF i).not1 h
theorem lit_nm {i : Nat} (h : litT (tkAt ts i) = true) : isNm ts i = false := by
  unfold litT at h
  simp only [Bool.or_eq_true, beq_iff_eq] at h
  rcases h with (h | h) | h
  · unfold isNm; rw [h]; rfl
  · exact kw_nm hF (by show kwL.contains (tkAt ts i).l = true; rw [h]; decide)
  · exact kw_nm hF (by show kwL.contains (tkAt ts i).l = true; rw [h]; decide)
omit hF in
theorem op_kw {l : List UInt8} (h : (opOf l).isSome = true) : kwL.contains l = true := by
  unfold opOf at h
  split at h; · rename_i e; rw [e]; decide
  split at h; · rename_i e; rw [e]; decide
  split at h; · rename_i e; rw [e]; decide
  split at h; · rename_i e; rw [e]; decide
  split at h; · rename_i e; rw [e]; decide
  split at h; · rename_i e; rw [e]; decide
  split at h; · rename_i e; rw [e]; decide
  split at h; · rename_i e; rw [e]; decide
  · cases h
omit hF in
theorem range_split (i a b : Nat) : List.range' i (a + b) = List.range' i a ++ List.range' (i + a) b := by
  rw [← List.range'_append_1]
theorem nm_filter : ∀ (t : Ast) (i : Nat) (dl : Bool), Sp ts t i → (List.range' i t.len).filter (isNm ts) = (nmD ts t i dl).map Prod.fst := by
  have one : ∀ i, isNm ts i = false → (List.range' i 1).filter (isNm ts) = [] := by
    intro i h; simp [List.range', h]
  intro t
  induction t with
  | leaf =>
    intro i dl hs
    simp only [nmD, Ast.len, List.range']
    by_cases h : (tkAt ts i).kind = 1
    · rw [if_pos h]; simp [isNm, h]
    · rw [if_neg h]; simp [isNm, h]
  | neg a iha =>
    intro i dl hs
    obtain ⟨h1, h2, h3, h4⟩ := hs
    have e : (Ast.neg a).len = 1 + (1 + (a.len + 1)) := by simp [Ast.len]; omega
    rw [e, range_split, range_split, range_split, List.filter_append, List.filter_append, List.filter_append, one _ (kw_nm hF (by rw [h1]; decide)), one _ (kw_nm hF (by rw [h2]; decide)), show i + 1 + 1 = i + 2 by omega, iha (i + 2) dl h3, one _ (kw_nm hF (by rw [h4]; decide))]
    simp [nmD]
  | ite a b c iha ihb ihc =>
    intro i dl hs
    obtain ⟨h1, h2, h3, h4, h5, h6⟩ := hs
    have e : (Ast.ite a b c).len = 1 + (1 + (a.len + (b.len + (c.len + 1)))) := by simp [Ast.len]; omega
    rw [e, range_split, range_split, range_split, range_split, range_split, List.filter_append, List.filter_append, List.filter_append, List.filter_append, List.filter_append, one _ (kw_nm hF (by rw [h1]; decide)), one _ (kw_nm hF (by rw [h2]; decide)), show i + 1 + 1 = i + 2 by omega, iha (i + 2) dl h3, ihb _ dl h4, ihc _ dl h5, one _ (kw_nm hF (by rw [h6]; decide))]
    simp [nmD]
  | dly b ihb =>
    intro i dl hs
    obtain ⟨h1, h2, h3, h4, h5⟩ := hs
    have e : (Ast.dly b).len = 1 + (1 + (1 + (b.len + 1))) := by simp [Ast.len]; omega
    rw [e, range_split, range_split, range_split, range_split, List.filter_append, List.filter_append, List.filter_append, List.filter_append, one _ (kw_nm hF (by rw [h1]; decide)), one _ (lit_nm hF h2), show i + 1 + 1 = i + 2 by omega, one _ (kw_nm hF (by rw [h3]; decide)), show i + 2 + 1 = i + 3 by omega, ihb (i + 3) true h4, one _ (kw_nm hF (by rw [h5]; decide))]
    simp [nmD]
  | bin a b iha ihb =>
    intro i dl hs
    obtain ⟨h1, h2, h3, h4, h5⟩ := hs
    have e : (Ast.bin a b).len = 1 + (a.len + (1 + (b.len + 1))) := by simp [Ast.len]; omega
    rw [e, range_split, range_split, range_split, range_split, List.filter_append, List.filter_append, List.filter_append, List.filter_append, one _ (kw_nm hF (by rw [h1]; decide)), iha (i + 1) dl h2, one _ (kw_nm hF (op_kw h3)), show i + 1 + a.len + 1 = i + 2 + a.len by omega, ihb _ dl h4, one _ (kw_nm hF (by rw [h5]; decide))]
    simp [nmD]
def nmNd (ts : List Tk) (x : Nat × Bool) : Nd := { mkN ts x.1 (if x.2 then 1 else 0) { ndZero with kind := 2, name := (tkAt ts x.1).text } with delayed := x.2 }
omit hF in
theorem mkN_kind (i dl : Nat) (n : Nd) : (mkN ts i dl n).kind = n.kind := rfl
omit hF in
theorem leafN0_name {t : Tk} (h : TkF t) (hk : t.kind = 1) : leafN0 t = { ndZero with kind := 2, name := t.text } := by
  have hn : ∀ l, kwL.contains l = true → t.l ≠ l := fun l hl e => by have := h.k1 hk; rw [e, hl] at this; cases this
  unfold leafN0
  rw [if_neg (hn _ (by decide)), if_neg (hn _ (by decide)), if_neg (by rw [hk]; decide)]
omit hF in
theorem leafN0_no {t : Tk} (h : leafT t = true) (hk : t.kind ≠ 1) : (leafN0 t).kind ≠ 2 := by
  unfold leafN0
  split; · simp
  split; · simp
  split; · simp
  · rename_i h1 h2 h3
    unfold leafT litT at h
    simp [h1, h2, h3, hk] at h
theorem flat_names : ∀ (t : Ast) (i dl off : Nat), Sp ts t i → (flat ts t i dl off).filter (fun n => n.kind == 2) = (nmD ts t i (decide (0 < dl))).map (nmNd ts) := by
  intro t
  induction t with
  | leaf =>
    intro i dl off hs
    simp only [flat, nmD]
    by_cases h : (tkAt ts i).kind = 1
    · rw [if_pos h, leafN0_name (hF i) h]
      simp [mkN, nmNd]
    · rw [if_neg h]
      have := leafN0_no hs.1 h
      simp [mkN, this]
  | neg a iha =>
    intro i dl off hs
    obtain ⟨h1, h2, h3, h4⟩ := hs
    simp only [flat, nmD]
    rw [List.filter_cons_of_neg (by simp [mkN]), iha _ _ _ h3]
  | ite a b c iha ihb ihc =>
    intro i dl off hs
    obtain ⟨h1, h2, h3, h4, h5, h6⟩ := hs
    simp only [flat, nmD]
    rw [List.filter_cons_of_neg (by simp [mkN]), List.filter_append, List.filter_append, iha _ _ _ h3, ihb _ _ _ h4, ihc _ _ _ h5, List.map_append, List.map_append]
  | dly b ihb =>
    intro i dl off hs
    obtain ⟨h1, h2, h3, h4, h5⟩ := hs
    have hk : (tkAt ts (i + 1)).kind ≠ 1 := by have := lit_nm hF h2; unfold isNm at this; simpa using this
    have := leafN0_no (t := tkAt ts (i + 1)) (by unfold leafT; rw [h2]; rfl) hk
    simp only [flat, nmD]
    rw [List.filter_cons_of_neg (by simp [mkN]), List.filter_cons_of_neg (by simp [mkN, this]), ihb _ _ _ h4, show decide (0 < dl + 1) = true by simp]
  | bin a b iha ihb =>
    intro i dl off hs
    obtain ⟨h1, h2, h3, h4, h5⟩ := hs
    simp only [flat, nmD]
    rw [List.filter_cons_of_neg (by simp [mkN]), List.filter_append, iha _ _ _ h2, ihb _ _ _ h4, List.map_append]
end
theorem spell_mem {ts : List Tk} : ∀ (L : List Dl) (i : Nat), Spell ts L i → ∀ y ∈ L, i ≤ y.i ∧ y.i + y.len < ts.length ∧ DlOk ts y := by
  intro L
  induction L with
  | nil => intro i _ y hy; simp at hy
  | cons x r ih =>
    intro i h y hy
    obtain ⟨h1, h2, h3, h4⟩ := h
    rcases List.mem_cons.1 hy with rfl | hy
    · exact ⟨by omega, by omega, h3⟩
    · have := ih _ h4 y hy; exact ⟨by omega, this.2⟩
theorem Dl.len_pos (x : Dl) : 3 ≤ x.len := by unfold Dl.len; split <;> omega
theorem spell_mid {ts : List Tk} {x : Dl} {L2 : List Dl} : ∀ (L1 : List Dl) (i : Nat), Spell ts (L1 ++ x :: L2) i → (∀ y ∈ L1, y.i + y.len ≤ x.i) ∧ (∀ y ∈ L2, x.i + x.len ≤ y.i) ∧ i ≤ x.i ∧ x.i + x.len < ts.length ∧ DlOk ts x ∧ Spell ts L2 (x.i + x.len) := by
  intro L1
  induction L1 with
  | nil =>
    intro i h
    obtain ⟨h1, h2, h3, h4⟩ := h
    rw [← h1] at h2 h4
    exact ⟨fun y hy => by simp at hy, fun y hy => (spell_mem _ _ h4 y hy).1, by omega, h2, h3, h4⟩
  | cons z L1 ih =>
    intro i h
    obtain ⟨h1, h2, h3, h4⟩ := h
    obtain ⟨a, b, c, d⟩ := ih _ h4
    refine ⟨fun y hy => ?_, b, by omega, d⟩
    rcases List.mem_cons.1 hy with rfl | hy
    · omega
    · exact a y hy
def eqL (L : List Dl) : List Dl := L.filter fun x => x.kind != 0
def inL (L : List Dl) : List Dl := L.filter fun x => x.kind == 0
def posD (ts : List Tk) (x : Dl) : Nat := (tkAt ts (x.i + 1)).pos
def nameD (ts : List Tk) (x : Dl) : ByteArray := (tkAt ts (x.i + 1)).text
def less : Option Nat → Option Nat → Option Nat
  | none, k => k
  | some a, none => some a
  | some a, some b => some (if b < a then b else a)
def manyR (ts : List Tk) (L : List Dl) : Option Nat := less (((eqL L)[12]?).map (posD ts)) (((inL L)[4]?).map (posD ts))
theorem less_left {a : Nat} {o : Option Nat} (h : ∀ b, o = some b → a < b) : less (some a) o = some a := by
  cases o with
  | none => rfl
  | some b => have := h b rfl; simp only [less]; rw [if_neg (by omega)]
theorem less_right {b : Nat} {o : Option Nat} (h : ∀ a, o = some a → b < a) : less o (some b) = some b := by
  cases o with
  | none => rfl
  | some a => have := h a rfl; simp only [less]; rw [if_pos this]
def PosLt (ts : List Tk) : Prop := ∀ i j, i < j → j < ts.length → (tkAt ts i).pos < (tkAt ts j).pos
theorem many_eq {ts : List Tk} (hP : PosLt ts) : ∀ (L : List Dl) (i off a b : Nat), Spell ts L i → a ≤ 4 → b ≤ 12 →
    tooManyF (declsD ts L off a b) = less (((eqL L)[12 - b]?).map (posD ts)) (((inL L)[4 - a]?).map (posD ts)) := by
  intro L
  induction L with
  | nil => intro i off a b _ _ _; simp [declsD, tooManyF, eqL, inL, less]
  | cons x r ih =>
    intro i off a b h ha hb
    obtain ⟨h1, h2, h3, h4⟩ := h
    have hx := Dl.len_pos x
    have hlt : ∀ (l : List Dl) (k : Nat), (∀ y ∈ l, y ∈ r) → ∀ c, (l[k]?).map (posD ts) = some c → posD ts x < c := by
      intro l k hl c hc
      rw [Option.map_eq_some_iff] at hc
      obtain ⟨y, hy, rfl⟩ := hc
      have hm := spell_mem _ _ h4 y (hl y (List.mem_of_getElem? hy))
      have := Dl.len_pos y
      exact hP _ _ (by omega) (by omega)
    by_cases hk : x.kind = 0
    · have e1 : inL (x :: r) = x :: inL r := by simp [inL, hk]
      have e2 : eqL (x :: r) = eqL r := by simp [eqL, hk]
      simp only [declsD, if_pos hk, tooManyF]
      have em : most (dcIn ts x a) = 4 := by simp [most, dcIn]
      rw [em, e1, e2]
      by_cases h4a : 4 ≤ a
      · have : a = 4 := by omega
        subst this
        rw [if_pos (show 4 ≤ (dcIn ts x 4).number from Nat.le_refl _)]
        rw [show 4 - 4 = 0 by omega, List.getElem?_cons_zero, Option.map_some, less_right (hlt (eqL r) (12 - b) (fun y hy => (List.mem_filter.1 hy).1))]
        rfl
      · rw [if_neg (show ¬ 4 ≤ (dcIn ts x a).number from h4a), ih _ off (a + 1) b h4 (by omega) hb, show 4 - a = (4 - (a + 1)) + 1 by omega, List.getElem?_cons_succ]
    · have e1 : inL (x :: r) = inL r := by simp [inL, hk]
      have e2 : eqL (x :: r) = x :: eqL r := by simp [eqL, hk]
      simp only [declsD, if_neg hk, tooManyF]
      have em : most (dcEq ts x b off) = 12 := by simp [most, dcEq, hk]
      rw [em, e1, e2]
      by_cases h12 : 12 ≤ b
      · have : b = 12 := by omega
        subst this
        rw [if_pos (show 12 ≤ (dcEq ts x 12 off).number from Nat.le_refl _)]
        rw [show 12 - 12 = 0 by omega, List.getElem?_cons_zero, Option.map_some, less_left (hlt (inL r) (4 - a) (fun y hy => (List.mem_filter.1 hy).1))]
        rfl
      · rw [if_neg (show ¬ 12 ≤ (dcEq ts x b off).number from h12), ih _ _ a (b + 1) h4 ha (by omega), show 12 - b = (12 - (b + 1)) + 1 by omega, List.getElem?_cons_succ]
def hereR (L : List Dl) (k : Nat) : Bool := L.any fun x => x.i + 1 == k
def someR (ts : List Tk) (L : List Dl) (k : Nat) : Bool := L.any fun x => (nameD ts x).data.toList == lAt ts k
def aheadR (ts : List Tk) (L : List Dl) (k : Nat) : Bool := L.any fun x => (nameD ts x).data.toList == lAt ts k && decide (x.i + 1 < k)
def qNm (ts : List Tk) (L : List Dl) (k : Nat) : Bool := (hereR L k && aheadR ts L k) || !someR ts L k
def badNm (ts : List Tk) (L : List Dl) (k : Nat) : Bool := isNm ts k && qNm ts L k
def namesR (ts : List Tk) (L : List Dl) : Option Nat := ((List.range' 0 ts.length).find? (badNm ts L)).map fun k => (tkAt ts k).pos
theorem any_congr_mem {α : Type} {p q : α → Bool} : ∀ {l : List α}, (∀ x ∈ l, p x = q x) → l.any p = l.any q := by
  intro l
  induction l with
  | nil => intro _; rfl
  | cons x l ih =>
    intro h
    rw [List.any_cons, List.any_cons, h x (List.mem_cons_self ..), ih (fun y hy => h y (List.mem_cons_of_mem _ hy))]
theorem badNode_find : ∀ l : List Nd, badNodeF l = ((l.filter fun n => n.kind == 2).find? fun n => decide (n.decl < 0)).map Nd.pos := by
  intro l
  induction l with
  | nil => rfl
  | cons n l ih =>
    unfold badNodeF
    by_cases hk : n.kind = 2
    · rw [List.filter_cons_of_pos (by simp [hk])]
      by_cases hd : n.decl < 0
      · rw [if_pos ⟨hk, hd⟩, List.find?_cons_of_pos (by simpa using hd)]; rfl
      · rw [if_neg (fun h => hd h.2), List.find?_cons_of_neg (by simpa using hd), ih]
    · rw [if_neg (fun h => hk h.1), List.filter_cons_of_neg (by simp [hk]), ih]
theorem findF_neg (l : List Dc) (name : ByteArray) : findF l name < 0 ↔ (l.any fun d => d.name.data.toList == name.data.toList) = false := by
  unfold findF
  split
  · rename_i i h
    rw [List.findIdx?_eq_some_iff_getElem] at h
    obtain ⟨h1, h2, _⟩ := h
    constructor
    · intro h; omega
    · intro h
      rw [List.any_eq_false] at h
      exact absurd h2 (h _ (List.getElem_mem h1))
  · rename_i h
    rw [List.findIdx?_eq_none_iff] at h
    constructor
    · intro _
      rw [List.any_eq_false]
      intro d hd
      have := h d hd
      rw [this]; simp
    · intro _; omega
theorem findF_own (l1 : List Dc) (d : Dc) (l2 : List Dc) : findF (l1 ++ d :: l2) d.name ≠ (l1.length : Int) ↔ (l1.any fun e => e.name.data.toList == d.name.data.toList) = true := by
  constructor
  · intro h
    cases ha : (l1.any fun e => e.name.data.toList == d.name.data.toList) with
    | true => rfl
    | false =>
      exfalso
      apply h
      refine findF_hit _ _ l1.length (by simp) ?_ ?_
      · rw [List.getElem_append_right (Nat.le_refl _)]; simp
      · intro j hj
        rw [List.getElem_append_left hj]
        rw [List.any_eq_false] at ha
        have := ha _ (List.getElem_mem hj)
        simpa using this
  · intro h
    rw [List.any_eq_true] at h
    obtain ⟨e, he, h2⟩ := h
    obtain ⟨j, hj, rfl⟩ := List.getElem_of_mem he
    unfold findF
    split
    · rename_i i hi
      rw [List.findIdx?_eq_some_iff_getElem] at hi
      obtain ⟨g1, g2, g3⟩ := hi
      intro e
      have ei : i = l1.length := by omega
      have := g3 j (by omega)
      rw [List.getElem_append_left hj] at this
      exact this h2
    · omega
theorem declsD_names (ts : List Tk) : ∀ (L : List Dl) (off a b : Nat), (declsD ts L off a b).map Dc.name = L.map (nameD ts) := by
  intro L
  induction L with
  | nil => intro off a b; rfl
  | cons x r ih =>
    intro off a b
    simp only [declsD]
    split
    · rw [List.map_cons, ih]; rfl
    · rw [List.map_cons, ih]; rfl
theorem any_names {l : List Dc} {L : List Dl} {ts : List Tk} (h : l.map Dc.name = L.map (nameD ts)) (w : List UInt8) : (l.any fun d => d.name.data.toList == w) = L.any fun x => (nameD ts x).data.toList == w := by
  have e1 : (l.any fun d => d.name.data.toList == w) = (l.map Dc.name).any fun n => n.data.toList == w := by rw [List.any_map]; rfl
  have e2 : (L.any fun x => (nameD ts x).data.toList == w) = (L.map (nameD ts)).any fun n => n.data.toList == w := by rw [List.any_map]; rfl
  rw [e1, e2, h]
theorem find_one {p : Nat → Bool} (k : Nat) (h : p k = false) : (List.range' k 1).find? p = none := by simp [List.range', h]
theorem badNm_no {ts : List Tk} {L : List Dl} {k : Nat} (h : isNm ts k = false) : badNm ts L k = false := by unfold badNm; rw [h]; rfl
theorem find_part {ts : List Tk} (hF : ∀ i, TkF (tkAt ts i)) (L : List Dl) (t : Ast) (i : Nat) (hs : Sp ts t i) :
    (List.range' i t.len).find? (badNm ts L) = ((nmD ts t i false).map Prod.fst).find? (qNm ts L) := by
  rw [← nm_filter hF t i false hs, List.find?_filter]
  congr 1
  funext a
  unfold badNm
  cases isNm ts a <;> cases qNm ts L a <;> rfl
theorem find_nodes {ts : List Tk} (all : List Dc) (L : List Dl) (hn : all.map Dc.name = L.map (nameD ts)) : ∀ (l : List (Nat × Bool)), (∀ x ∈ l, hereR L x.1 = false) →
    (((l.map (nmNd ts)).map (bindF all)).find? fun n => decide (n.decl < 0)).map Nd.pos = ((l.map Prod.fst).find? (qNm ts L)).map fun k => (tkAt ts k).pos := by
  intro l
  induction l with
  | nil => intro _; rfl
  | cons x l ih =>
    intro h
    have hx := h x (List.mem_cons_self ..)
    have hb : bindF all (nmNd ts x) = { nmNd ts x with decl := findF all (tkAt ts x.1).text } := by
      unfold bindF; rw [if_pos (by rfl)]; rfl
    have hq : qNm ts L x.1 = decide ((bindF all (nmNd ts x)).decl < 0) := by
      rw [hb]
      unfold qNm
      rw [hx, Bool.false_and, Bool.false_or, Bool.eq_iff_iff, decide_eq_true_iff]
      show _ ↔ findF all (tkAt ts x.1).text < 0
      rw [findF_neg, any_names hn]
      unfold someR
      simp [Tk.l]
    simp only [List.map_cons]
    by_cases hd : (bindF all (nmNd ts x)).decl < 0
    · rw [List.find?_cons_of_pos (by simpa using hd), List.find?_cons_of_pos (by rw [hq]; simpa using hd)]
      simp only [Option.map_some]
      rw [hb]; rfl
    · rw [List.find?_cons_of_neg (by simpa using hd), List.find?_cons_of_neg (by rw [hq]; simpa using hd)]
      exact ih (fun y hy => h y (List.mem_cons_of_mem _ hy))
theorem nm_in {ts : List Tk} : ∀ (t : Ast) (i : Nat) (dl : Bool), ∀ x ∈ nmD ts t i dl, i ≤ x.1 ∧ x.1 < i + t.len := by
  intro t
  induction t with
  | leaf =>
    intro i dl x hx
    simp only [nmD] at hx
    split at hx
    · simp at hx; subst hx; simp [Ast.len]
    · simp at hx
  | neg a iha => intro i dl x hx; have := iha _ _ x hx; simp only [Ast.len]; omega
  | ite a b c iha ihb ihc =>
    intro i dl x hx
    simp only [nmD, List.mem_append] at hx
    simp only [Ast.len]
    rcases hx with hx | hx | hx
    · have := iha _ _ x hx; omega
    · have := ihb _ _ x hx; omega
    · have := ihc _ _ x hx; omega
  | dly b ihb => intro i dl x hx; have := ihb _ _ x hx; simp only [Ast.len]; omega
  | bin a b iha ihb =>
    intro i dl x hx
    simp only [nmD, List.mem_append] at hx
    simp only [Ast.len]
    rcases hx with hx | hx
    · have := iha _ _ x hx; omega
    · have := ihb _ _ x hx; omega
theorem bind_filter (all : List Dc) (l : List Nd) : ((l.map (bindF all)).filter fun n => n.kind == 2) = (l.filter fun n => n.kind == 2).map (bindF all) := by
  rw [List.filter_map]
  congr 1
  apply List.filter_congr
  intro n _
  simp [Function.comp, (bindF_keep all n).1]
theorem seg_mid {N1 N2 N3 : List Nd} {a b : Nat} (ha : a = N1.length) (hb : b = N1.length + N2.length) : seg (N1 ++ (N2 ++ N3)) a b = N2 := by
  subst ha; subst hb
  unfold seg
  rw [List.drop_left, Nat.add_sub_cancel_left, List.take_left]
theorem names_eq {ts : List Tk} (hF : ∀ i, TkF (tkAt ts i)) (hE : ∀ i, (tkAt ts i).kind = 0 → ts.length ≤ i + 1) (L : List Dl) (hL : Spell ts L 0) (all : List Dc) (hn : all.map Dc.name = L.map (nameD ts)) :
    ∀ (L2 L1 : List Dl) (i off a b : Nat) (D1 : List Dc) (N1 : List Nd), L = L1 ++ L2 → Spell ts L2 i → i ≤ ts.length → all = D1 ++ declsD ts L2 off a b → D1.length = L1.length → N1.length = off →
      badNameF all (N1 ++ (nodesD ts L2 off).map (bindF all)) L1.length (declsD ts L2 off a b) = ((List.range' i (ts.length - i)).find? (badNm ts L)).map fun k => (tkAt ts k).pos := by
  intro L2
  induction L2 with
  | nil =>
    intro L1 i off a b D1 N1 hsplit hsp hi _ _ _
    simp only [declsD, badNameF]
    obtain ⟨h1, h2⟩ := hsp
    have h3 := hE i h2
    have e : ts.length - i = 1 := by omega
    rw [e, find_one i (badNm_no (by unfold isNm; rw [h2]; rfl))]
    rfl
  | cons x r ih =>
    intro L1 i off a b D1 N1 hsplit hsp hi hall hlen hN1
    have hmid := spell_mid L1 0 (by rw [← hsplit]; exact hL)
    obtain ⟨hb1, hb2, _, hxl, hxo, _⟩ := hmid
    obtain ⟨hxi, hl2, hxo', hsp'⟩ := hsp
    have hlx := Dl.len_pos x
    have hd1 : D1.map Dc.name = L1.map (nameD ts) := by
      rw [hall, hsplit, List.map_append, List.map_append, declsD_names] at hn
      exact (List.append_inj' hn (by simp)).1
    have hown : ∀ d : Dc, d.name = nameD ts x → ∀ rest, all = D1 ++ d :: rest → (findF all d.name ≠ (L1.length : Int) ↔ aheadR ts L (x.i + 1) = true) := by
      intro d hd rest ha
      rw [ha, ← hlen, findF_own, any_names hd1]
      unfold aheadR
      rw [hsplit, List.any_append, hd]
      have e1 : (L1.any fun y => (nameD ts y).data.toList == lAt ts (x.i + 1) && decide (y.i + 1 < x.i + 1)) = L1.any fun y => (nameD ts y).data.toList == (nameD ts x).data.toList := by
        apply any_congr_mem
        intro y hy
        have := hb1 y hy
        have := Dl.len_pos y
        rw [decide_eq_true (by omega), Bool.and_true]; rfl
      have e2 : ((x :: r).any fun y => (nameD ts y).data.toList == lAt ts (x.i + 1) && decide (y.i + 1 < x.i + 1)) = false := by
        rw [List.any_eq_false]
        intro y hy
        have : ¬ y.i + 1 < x.i + 1 := by
          rcases List.mem_cons.1 hy with rfl | hy
          · omega
          · have := hb2 y hy; omega
        simp [this]
      rw [e1, e2, Bool.or_false]
    have hnmx : isNm ts (x.i + 1) = true := by
      unfold isNm
      rcases hxo with ⟨_, _, h, _⟩ | ⟨_, h, _⟩ <;> rw [h] <;> rfl
    have hqx : qNm ts L (x.i + 1) = aheadR ts L (x.i + 1) := by
      have h1 : hereR L (x.i + 1) = true := by
        unfold hereR; rw [List.any_eq_true]; exact ⟨x, by rw [hsplit]; simp, by simp⟩
      have h2 : someR ts L (x.i + 1) = true := by
        unfold someR; rw [List.any_eq_true]; exact ⟨x, by rw [hsplit]; simp, by simp [nameD, Tk.l]⟩
      unfold qNm; rw [h1, h2]; simp
    have hbx : badNm ts L (x.i + 1) = aheadR ts L (x.i + 1) := by unfold badNm; rw [hnmx, hqx]; rfl
    by_cases hk : x.kind = 0
    · have hin : lAt ts x.i = kIn ∧ lAt ts (x.i + 2) = [59] := by
        rcases hxo with ⟨_, h1, _, h2⟩ | ⟨h, _⟩
        · exact ⟨h1, h2⟩
        · omega
      have hlen3 : x.len = 3 := by unfold Dl.len; rw [if_pos hk]
      have er : ts.length - i = 1 + (1 + (1 + (ts.length - (i + x.len)))) := by omega
      simp only [declsD, if_pos hk, nodesD] at hall ⊢
      rw [er, range_split, range_split, range_split, List.find?_append, List.find?_append, List.find?_append, find_one i (badNm_no (kw_nm hF (by rw [← hxi, hin.1]; decide))), find_one (i + 1 + 1) (badNm_no (kw_nm hF (by rw [← hxi]; show kwL.contains (lAt ts (x.i + 2)) = true; rw [hin.2]; decide)))]
      simp only [badNameF, Option.none_or]
      have ho := hown (dcIn ts x a) rfl _ hall
      by_cases hah : aheadR ts L (x.i + 1) = true
      · rw [if_pos (ho.2 hah)]
        have : (List.range' (i + 1) 1).find? (badNm ts L) = some (i + 1) := by simp [List.range', ← hxi, hbx, hah]
        rw [this]; simp [dcIn, hxi]
      · rw [if_neg (fun h => hah (ho.1 h))]
        have : (List.range' (i + 1) 1).find? (badNm ts L) = none := find_one _ (by rw [← hxi, hbx]; simpa using hah)
        rw [this, Option.none_or]
        have hseg : seg (N1 ++ (nodesD ts r off).map (bindF all)) (dcIn ts x a).root (dcIn ts x a).fin = [] := by simp [seg, dcIn]
        rw [hseg]
        simp only [badNodeF]
        have := ih (L1 ++ [x]) (i + x.len) off (a + 1) b (D1 ++ [dcIn ts x a]) N1 (by rw [hsplit]; simp) hsp' (by omega) (by rw [hall]; simp) (by simp [hlen]) hN1
        rw [List.length_append, List.length_singleton] at this
        rw [this, show i + 1 + 1 + 1 = i + x.len by omega]
    · have heq : (lAt ts x.i = kInt ∨ lAt ts x.i = kBool) ∧ lAt ts (x.i + 2) = kAt ∧ (tkAt ts (x.i + 3)).kind = 3 ∧ lAt ts (x.i + 4) = [61] ∧ Sp ts x.t (x.i + 5) ∧ lAt ts (x.i + 5 + x.t.len) = [59] := by
        rcases hxo with ⟨h, _⟩ | ⟨h0, _, h2, h3, h4, h5, h6⟩
        · exact absurd h hk
        · exact ⟨h0.elim (fun h => .inl h.2) (fun h => .inr h.2), h2, h3.1, h4, h5, h6⟩
      obtain ⟨k0, k2, k3, k4, k5, k6⟩ := heq
      have hlen6 : x.len = x.t.len + 6 := by unfold Dl.len; rw [if_neg hk]
      have er : ts.length - i = 1 + (1 + (1 + (1 + (1 + (x.t.len + (1 + (ts.length - (i + x.len)))))))) := by omega
      simp only [declsD, if_neg hk, nodesD] at hall ⊢
      have f0 := find_one i (p := badNm ts L) (badNm_no (kw_nm hF (by rw [← hxi]; rcases k0 with h | h <;> rw [h] <;> decide)))
      have f2 := find_one (i + 1 + 1) (p := badNm ts L) (badNm_no (kw_nm hF (by rw [← hxi]; show kwL.contains (lAt ts (x.i + 2)) = true; rw [k2]; decide)))
      have f3 := find_one (i + 1 + 1 + 1) (p := badNm ts L) (badNm_no (by rw [← hxi]; show isNm ts (x.i + 3) = false; unfold isNm; rw [k3]; rfl))
      have f4 := find_one (i + 1 + 1 + 1 + 1) (p := badNm ts L) (badNm_no (kw_nm hF (by rw [← hxi]; show kwL.contains (lAt ts (x.i + 4)) = true; rw [k4]; decide)))
      have f6 := find_one (i + 1 + 1 + 1 + 1 + 1 + x.t.len) (p := badNm ts L) (badNm_no (kw_nm hF (by rw [← hxi]; show kwL.contains (lAt ts (x.i + 5 + x.t.len)) = true; rw [k6]; decide)))
      have f5 := find_part hF L x.t (i + 1 + 1 + 1 + 1 + 1) (by rw [← hxi]; exact k5)
      rw [er, range_split, range_split, range_split, range_split, range_split, range_split, range_split, List.find?_append, List.find?_append, List.find?_append, List.find?_append, List.find?_append, List.find?_append, List.find?_append, f0, f2, f3, f4, f5, f6]
      simp only [badNameF, Option.none_or]
      have ho := hown (dcEq ts x b off) rfl _ hall
      by_cases hah : aheadR ts L (x.i + 1) = true
      · rw [if_pos (ho.2 hah)]
        have : (List.range' (i + 1) 1).find? (badNm ts L) = some (i + 1) := by simp [List.range', ← hxi, hbx, hah]
        rw [this]; simp [dcEq, hxi]
      · rw [if_neg (fun h => hah (ho.1 h))]
        have : (List.range' (i + 1) 1).find? (badNm ts L) = none := find_one _ (by rw [← hxi, hbx]; simpa using hah)
        rw [this, Option.none_or]
        have hseg : seg (N1 ++ (flat ts x.t (x.i + 5) 0 off ++ nodesD ts r (off + x.t.size)).map (bindF all)) (dcEq ts x b off).root (dcEq ts x b off).fin = (flat ts x.t (x.i + 5) 0 off).map (bindF all) := by
          rw [List.map_append]
          exact seg_mid hN1.symm (by simp [dcEq, flat_len, hN1])
        rw [hseg, badNode_find, bind_filter, flat_names hF _ _ _ _ k5]
        have hhere : ∀ y ∈ nmD ts x.t (x.i + 5) false, hereR L y.1 = false := by
          intro y hy
          have hy2 := nm_in _ _ _ y hy
          unfold hereR
          rw [List.any_eq_false]
          intro z hz
          have : z.i + 1 ≠ y.1 := by
            rw [hsplit] at hz
            rcases List.mem_append.1 hz with hz | hz
            · have := hb1 z hz; have := Dl.len_pos z; omega
            · rcases List.mem_cons.1 hz with rfl | hz
              · omega
              · have := hb2 z hz; omega
          simpa using this
        have hfn := find_nodes all L hn (nmD ts x.t (x.i + 5) false) hhere
        rw [show decide (0 < 0) = false by decide, hfn, show i + 1 + 1 + 1 + 1 + 1 = x.i + 5 by omega]
        cases hff : ((nmD ts x.t (x.i + 5) false).map Prod.fst).find? (qNm ts L) with
        | some k => simp
        | none =>
          simp only [Option.map_none, Option.none_or]
          have := ih (L1 ++ [x]) (i + x.len) (off + x.t.size) a (b + 1) (D1 ++ [dcEq ts x b off]) (N1 ++ (flat ts x.t (x.i + 5) 0 off).map (bindF all)) (by rw [hsplit]; simp) hsp' (by omega) (by rw [hall]; simp) (by simp [hlen]) (by simp [flat_len, hN1])
          rw [List.length_append, List.length_singleton, List.append_assoc, ← List.map_append] at this
          rw [this, show x.i + 5 + x.t.len + 1 = i + x.len by omega]
def nameT (ts : List Tk) (L : List Dl) (k : Nat) : Bool := (eqL L).any fun x => (nameD ts x).data.toList == lAt ts k && x.kind == 2
def opR (l : List UInt8) : Nat := if l = kFby then 63 else if l = [43] ∨ l = [45] ∨ l = [42] ∨ l = [47] then 110 else 116
def isR (ts : List Tk) (L : List Dl) (i : Nat) : Nat :=
  if (tkAt ts i).kind = 1 then (if nameT ts L i then 116 else 110)
  else if (tkAt ts i).kind = 3 then 110
  else if lAt ts i ≠ [40] then 116
  else if lAt ts (i + 1) = kNot then 116 else if lAt ts (i + 1) = kIf then 63
  else opR (lAt ts (behindF ts (i + 1)))
def bothR (l : List UInt8) : Nat := if l = [38] ∨ l = [124] then 116 else 110
def badR (ts : List Tk) (L : List Dl) (i w : Nat) : Bool := isR ts L i != 63 && isR ts L i != w
def wrongR (ts : List Tk) (L : List Dl) : Ast → Nat → Nat → Option Nat
  | .leaf, i, w => if badR ts L i w then some (tkAt ts i).pos else none
  | .neg a, i, w => if badR ts L i w then some (tkAt ts i).pos else wrongR ts L a (i + 2) 116
  | .ite a b c, i, w => if badR ts L i w then some (tkAt ts i).pos else (wrongR ts L a (i + 2) 116).or ((wrongR ts L b (i + 2 + a.len) w).or (wrongR ts L c (i + 2 + a.len + b.len) w))
  | .dly b, i, w => if badR ts L i w then some (tkAt ts i).pos else (if badR ts L (i + 1) w then some (tkAt ts (i + 1)).pos else none).or (wrongR ts L b (i + 3) w)
  | .bin a b, i, w => if badR ts L i w then some (tkAt ts i).pos else (wrongR ts L a (i + 1) (bothR (lAt ts (i + 1 + a.len)))).or (wrongR ts L b (i + 2 + a.len) (bothR (lAt ts (i + 1 + a.len))))
def wB (b : Bool) : Nat := if b then 116 else 110
def typesR (ts : List Tk) (L : List Dl) : Option Nat := (eqL L).findSome? fun x => wrongR ts L x.t (x.i + 5) (wB (x.kind == 2))
theorem findF_name (l : List Dc) {a b : ByteArray} (h : a.data.toList = b.data.toList) : findF l a = findF l b := by unfold findF; rw [h]
structure NamesOk (ts : List Tk) (L : List Dl) (ds : List Dc) : Prop where
  own : ∀ j (hj : j < ds.length), findF ds (ds[j]'hj).name = (j : Int)
  two : ds.map (fun d => (d.name, d.kind)) = L.map fun x => (nameD ts x, x.kind)
theorem any_two {ts : List Tk} {ds : List Dc} {L : List Dl} (h : ds.map (fun d => (d.name, d.kind)) = L.map fun x => (nameD ts x, x.kind)) (p : ByteArray × Nat → Bool) : (ds.any fun d => p (d.name, d.kind)) = L.any fun x => p (nameD ts x, x.kind) := by
  have e1 : (ds.any fun d => p (d.name, d.kind)) = (ds.map (fun d => (d.name, d.kind))).any p := by rw [List.any_map]; rfl
  have e2 : (L.any fun x => p (nameD ts x, x.kind)) = (L.map fun x => (nameD ts x, x.kind)).any p := by rw [List.any_map]; rfl
  rw [e1, e2, h]
theorem NamesOk.truth {ts : List Tk} {L : List Dl} {ds : List Dc} (h : NamesOk ts L ds) (k : Nat) (h0 : 0 ≤ findF ds (tkAt ts k).text) : (kindAt ds (findF ds (tkAt ts k).text) == 2) = nameT ts L k := by
  have e1 : nameT ts L k = ds.any fun d => d.name.data.toList == lAt ts k && d.kind == 2 := by
    have := any_two h.two (fun q => q.1.data.toList == lAt ts k && q.2 == 2)
    rw [this]
    unfold nameT eqL
    rw [List.any_filter]
    apply any_congr_mem
    intro x _
    cases hx : (x.kind == 2) with
    | false => simp
    | true =>
      have : x.kind = 2 := by simpa using hx
      simp [this]
  rw [e1, Bool.eq_iff_iff]
  constructor
  · intro hk
    unfold findF at h0 hk
    split at h0
    · rename_i i hi
      rw [hi] at hk
      rw [List.findIdx?_eq_some_iff_getElem] at hi
      obtain ⟨g1, g2, _⟩ := hi
      rw [List.any_eq_true]
      refine ⟨ds[i]'g1, List.getElem_mem g1, ?_⟩
      have hk' : (ds[i]'g1).kind = 2 := by
        unfold kindAt at hk
        simp only [Int.toNat_natCast] at hk
        rw [List.getD_eq_getElem?_getD, List.getElem?_eq_getElem g1] at hk
        simpa using hk
      rw [hk']
      simpa [Tk.l] using g2
    · omega
  · intro ha
    rw [List.any_eq_true] at ha
    obtain ⟨d, hd, h2⟩ := ha
    obtain ⟨j, hj, rfl⟩ := List.getElem_of_mem hd
    rw [Bool.and_eq_true, beq_iff_eq, beq_iff_eq] at h2
    have := h.own j hj
    rw [findF_name ds (b := (tkAt ts k).text) h2.1] at this
    rw [this]
    unfold kindAt
    rw [Int.toNat_natCast, List.getD_eq_getElem?_getD, List.getElem?_eq_getElem hj]
    simpa using h2.2
theorem nm_true {ts : List Tk} : ∀ (t : Ast) (i : Nat), ∀ x ∈ nmD ts t i true, x.2 = true := by
  intro t
  induction t with
  | leaf =>
    intro i x hx
    simp only [nmD] at hx
    split at hx
    · simp at hx; subst hx; rfl
    · simp at hx
  | neg a iha => intro i x hx; exact iha _ x hx
  | ite a b c iha ihb ihc =>
    intro i x hx
    simp only [nmD, List.mem_append] at hx
    rcases hx with hx | hx | hx
    · exact iha _ x hx
    · exact ihb _ x hx
    · exact ihc _ x hx
  | dly b ihb => intro i x hx; exact ihb _ x hx
  | bin a b iha ihb =>
    intro i x hx
    simp only [nmD, List.mem_append] at hx
    rcases hx with hx | hx
    · exact iha _ x hx
    · exact ihb _ x hx
theorem sp_first {ts : List Tk} (hF : ∀ i, TkF (tkAt ts i)) {t : Ast} {i : Nat} (h : Sp ts t i) : lAt ts i ≠ kNot ∧ lAt ts i ≠ kIf := by
  cases t with
  | leaf => exact ⟨(leaf_ne2 hF h.1).1, (leaf_ne2 hF h.1).2.1⟩
  | neg a => rw [h.1]; decide
  | ite a b c => rw [h.1]; decide
  | dly b => rw [h.1]; decide
  | bin a b => rw [h.1]; decide
section
variable {ts : List Tk} (hF : ∀ i, TkF (tkAt ts i)) {L : List Dl}
include hF
theorem isR_open {i : Nat} (h : lAt ts i = [40]) : isR ts L i = if lAt ts (i + 1) = kNot then 116 else if lAt ts (i + 1) = kIf then 63 else opR (lAt ts (behindF ts (i + 1))) := by
  unfold isR
  have h' : kwL.contains (tkAt ts i).l = true := by show kwL.contains (lAt ts i) = true; rw [h]; decide
  rw [if_neg ((hF i).not1 h'), if_neg ((hF i).not3 h'), if_neg (by simp [h])]
omit hF in
theorem bad_any {i w : Nat} (h : isR ts L i = 63) : badR ts L i w = false := by unfold badR; rw [h]; rfl
omit hF in
theorem bad_truth {i : Nat} {b : Bool} (x : Bool) (h : isR ts L i = wB x) : badR ts L i (wB b) = !(b == x) := by
  unfold badR; rw [h]; cases b <;> cases x <;> rfl
theorem fits_first {ds : List Dc} (hN : NamesOk ts L ds) {i : Nat} (hlf : leafT (tkAt ts i) = true) (h40 : lAt ts i ≠ [40]) (hdecl : (tkAt ts i).kind = 1 → 0 ≤ findF ds (tkAt ts i).text) (dl : Nat) (b : Bool) :
    fitsF ds (bindF ds (mkN ts i dl (leafN0 (tkAt ts i)))) b = !badR ts L i (wB b) := by
  by_cases h1 : (tkAt ts i).kind = 1
  · have hi : isR ts L i = wB (nameT ts L i) := by unfold isR; rw [if_pos h1]; rfl
    rw [bad_truth _ hi, leafN0_name (hF i) h1, Bool.not_not, ← hN.truth i (hdecl h1)]
    unfold bindF
    rw [if_pos (by rfl)]
    unfold fitsF
    rw [if_neg (by simp [mkN]), if_neg (by simp [mkN]), if_pos (by simp [mkN])]
    rfl
  · have hb : bindF ds (mkN ts i dl (leafN0 (tkAt ts i))) = mkN ts i dl (leafN0 (tkAt ts i)) := by
      unfold bindF; rw [if_neg (show ¬ (mkN ts i dl (leafN0 (tkAt ts i))).kind = 2 from leafN0_no hlf h1)]
    rw [hb]
    by_cases h3 : (tkAt ts i).kind = 3
    · have hi : isR ts L i = wB false := by unfold isR; rw [if_neg h1, if_pos h3]; rfl
      rw [bad_truth _ hi, Bool.not_not]
      have hl : leafN0 (tkAt ts i) = { ndZero with kind := 0, value := valOf (tkAt ts i).l } := by
        have hn : ∀ l, kwL.contains l = true → (tkAt ts i).l ≠ l := fun l hl e => by have := (hF i).k3 h3; rw [e, hl] at this; cases this
        unfold leafN0; rw [if_neg (hn _ (by decide)), if_neg (hn _ (by decide)), if_pos h3]
      rw [hl]; cases b <;> rfl
    · have hi : isR ts L i = wB true := by unfold isR; rw [if_neg h1, if_neg h3, if_pos h40]; rfl
      rw [bad_truth _ hi, Bool.not_not]
      have hl : (mkN ts i dl (leafN0 (tkAt ts i))).kind = 1 := by
        unfold leafT litT at hlf
        simp only [Bool.or_eq_true, beq_iff_eq, h1, h3, or_false, false_or] at hlf
        rw [mkN_kind]
        unfold leafN0
        rcases hlf with h | h
        · rw [if_pos h]
        · by_cases e : (tkAt ts i).l = kTrue
          · rw [if_pos e]
          · rw [if_neg e, if_pos h]
      unfold fitsF
      rw [if_neg (by rw [hl]; decide), if_pos (.inl hl)]; cases b <;> rfl
omit hF in
theorem badType_cons (ds : List Dc) (i : Nat) (n : Nd) (r : List Nd) (tr : List Bool) : badTypeF ds i (n :: r) tr = if fitsF ds n (tr.getD i false) = true then badTypeF ds (i + 1) r (tell n (tr.getD i false) tr) else some n.pos := rfl
omit hF in
theorem getD_set_ne {l : List Bool} {i j : Nat} {v : Bool} (h : i ≠ j) : (l.set i v).getD j false = l.getD j false := by
  rw [List.getD_eq_getElem?_getD, List.getD_eq_getElem?_getD, List.getElem?_set_ne h]
omit hF in
theorem getD_set_eq {l : List Bool} {i : Nat} {v : Bool} (h : i < l.length) : (l.set i v).getD i false = v := by
  rw [List.getD_eq_getElem?_getD, List.getElem?_set_self h]; rfl
theorem pass_expr {ds : List Dc} (hN : NamesOk ts L ds) : ∀ (t : Ast) (i dl off : Nat) (tr : List Bool) (rest : List Nd), Sp ts t i → i + t.len ≤ ts.length → (∀ x ∈ nmD ts t i false, 0 ≤ findF ds (tkAt ts x.1).text) → off + t.size ≤ tr.length →
    ∃ tr' : List Bool, tr'.length = tr.length ∧ (∀ j, off + t.size ≤ j → tr'.getD j false = tr.getD j false) ∧
      badTypeF ds off ((flat ts t i dl off).map (bindF ds) ++ rest) tr = (wrongR ts L t i (wB (tr.getD off false))).or (badTypeF ds (off + t.size) rest tr') := by
  have other : ∀ (n : Nd) (i dl : Nat), n.kind ≠ 2 → bindF ds (mkN ts i dl n) = mkN ts i dl n := fun n i dl h => by unfold bindF; rw [if_neg (show ¬ (mkN ts i dl n).kind = 2 from h)]
  intro t
  induction t with
  | leaf =>
    intro i dl off tr rest hs hl hd hlen
    refine ⟨tr, rfl, fun _ _ => rfl, ?_⟩
    simp only [flat, List.map_cons, List.map_nil, List.singleton_append]
    rw [badType_cons, fits_first hF hN hs.1 hs.2 (fun hk => hd (i, false) (by simp [nmD, hk])) dl]
    simp only [wrongR, Ast.size]
    have ht : tell (bindF ds (mkN ts i dl (leafN0 (tkAt ts i)))) (tr.getD off false) tr = tr := by
      have hk : (bindF ds (mkN ts i dl (leafN0 (tkAt ts i)))).kind ≤ 2 := by
        rw [(bindF_keep ds _).1, mkN_kind]
        unfold leafN0
        split; · simp
        split; · simp
        split; · simp
        · simp
      unfold tell
      rw [if_neg (by omega), if_neg (by omega), if_neg (by omega), if_neg (by omega)]
    rw [ht]
    have hp : (bindF ds (mkN ts i dl (leafN0 (tkAt ts i)))).pos = (tkAt ts i).pos := by unfold bindF; split <;> rfl
    rw [hp]
    cases badR ts L i (wB (tr.getD off false)) <;> simp
  | neg a iha =>
    intro i dl off tr rest hs hl hd hlen
    obtain ⟨h1, h2, h3, h4⟩ := hs
    have pa := a.size_pos
    simp only [Ast.len, Ast.size] at hl hlen ⊢
    simp only [flat, List.map_cons, List.cons_append]
    rw [other _ _ _ (by simp), badType_cons]
    have hi : isR ts L i = wB true := by rw [isR_open hF h1, if_pos h2]; rfl
    have hf : fitsF ds (mkN ts i dl { ndZero with kind := 3, a := off + 1 }) (tr.getD off false) = !badR ts L i (wB (tr.getD off false)) := by
      rw [bad_truth _ hi]; unfold fitsF; simp [mkN]
    rw [hf]
    simp only [wrongR]
    cases hb : badR ts L i (wB (tr.getD off false)) with
    | true => exact ⟨tr, rfl, fun _ _ => rfl, by simp [mkN]⟩
    | false =>
      have ht : tell (mkN ts i dl { ndZero with kind := 3, a := off + 1 }) (tr.getD off false) tr = tr.set (off + 1) true := by unfold tell; simp [mkN]
      rw [ht]
      obtain ⟨tr', e1, e2, e3⟩ := iha (i + 2) dl (off + 1) (tr.set (off + 1) true) rest h3 (by omega) hd (by simp; omega)
      refine ⟨tr', by rw [e1]; simp, fun j hj => by rw [e2 j (by omega), getD_set_ne (by omega)], ?_⟩
      rw [if_pos (by simp), e3, getD_set_eq (by omega)]
      simp only [Bool.false_eq_true, if_false]
      rw [show off + 1 + a.size = off + (a.size + 1) by omega]
      rfl
  | ite a b c iha ihb ihc =>
    intro i dl off tr rest hs hl hd hlen
    obtain ⟨h1, h2, h3, h4, h5, h6⟩ := hs
    have pa := a.size_pos
    have pb := b.size_pos
    have pc := c.size_pos
    simp only [Ast.len, Ast.size] at hl hlen ⊢
    simp only [flat, List.map_cons, List.cons_append, List.map_append, List.append_assoc]
    rw [other _ _ _ (by simp), badType_cons]
    have hi : isR ts L i = 63 := by rw [isR_open hF h1, if_neg (by rw [h2]; decide), if_pos h2]
    have hf : fitsF ds (mkN ts i dl { ndZero with kind := 4, a := off + 1, b := off + 1 + a.size, c := off + 1 + a.size + b.size }) (tr.getD off false) = true := by
      unfold fitsF; simp [mkN]
    rw [hf, if_pos rfl]
    simp only [wrongR]
    rw [bad_any hi]
    have ht : tell (mkN ts i dl { ndZero with kind := 4, a := off + 1, b := off + 1 + a.size, c := off + 1 + a.size + b.size }) (tr.getD off false) tr = ((tr.set (off + 1) true).set (off + 1 + a.size) (tr.getD off false)).set (off + 1 + a.size + b.size) (tr.getD off false) := by unfold tell; simp [mkN]
    rw [ht]
    generalize hv : tr.getD off false = v
    generalize htr : ((tr.set (off + 1) true).set (off + 1 + a.size) v).set (off + 1 + a.size + b.size) v = tr0
    have l0 : tr0.length = tr.length := by rw [← htr]; simp
    have ga : tr0.getD (off + 1) false = true := by rw [← htr, getD_set_ne (by omega), getD_set_ne (by omega), getD_set_eq (by omega)]
    have gb : tr0.getD (off + 1 + a.size) false = v := by rw [← htr, getD_set_ne (by omega), getD_set_eq (by simp; omega)]
    have gc : tr0.getD (off + 1 + a.size + b.size) false = v := by rw [← htr, getD_set_eq (by simp; omega)]
    have go : ∀ j, off + (a.size + b.size + c.size + 1) ≤ j → tr0.getD j false = tr.getD j false := fun j hj => by rw [← htr, getD_set_ne (by omega), getD_set_ne (by omega), getD_set_ne (by omega)]
    obtain ⟨t1, x1, y1, z1⟩ := iha (i + 2) dl (off + 1) tr0 ((flat ts b (i + 2 + a.len) dl (off + 1 + a.size)).map (bindF ds) ++ ((flat ts c (i + 2 + a.len + b.len) dl (off + 1 + a.size + b.size)).map (bindF ds) ++ rest)) h3 (by omega) (fun x hx => hd x (by simp only [nmD, List.mem_append]; exact .inl hx)) (by omega)
    obtain ⟨t2, x2, y2, z2⟩ := ihb (i + 2 + a.len) dl (off + 1 + a.size) t1 ((flat ts c (i + 2 + a.len + b.len) dl (off + 1 + a.size + b.size)).map (bindF ds) ++ rest) h4 (by omega) (fun x hx => hd x (by simp only [nmD, List.mem_append]; exact .inr (.inl hx))) (by omega)
    obtain ⟨t3, x3, y3, z3⟩ := ihc (i + 2 + a.len + b.len) dl (off + 1 + a.size + b.size) t2 rest h5 (by omega) (fun x hx => hd x (by simp only [nmD, List.mem_append]; exact .inr (.inr hx))) (by omega)
    refine ⟨t3, by omega, fun j hj => by rw [y3 j (by omega), y2 j (by omega), y1 j (by omega), go j hj], ?_⟩
    rw [z1, z2, z3, ga, y1 _ (by omega), gb, y2 _ (by omega), y1 _ (by omega), gc]
    simp only [Bool.false_eq_true, if_false]
    rw [show off + 1 + a.size + b.size + c.size = off + (a.size + b.size + c.size + 1) by omega, Option.or_assoc, Option.or_assoc]
    rfl
  | dly b ihb =>
    intro i dl off tr rest hs hl hd hlen
    obtain ⟨h1, h2, h3, h4, h5⟩ := hs
    have hlf : leafT (tkAt ts (i + 1)) = true := by unfold leafT; rw [h2]; rfl
    obtain ⟨n1, n2, n3, _⟩ := leaf_ne2 hF hlf
    have pb := b.size_pos
    simp only [Ast.len, Ast.size] at hl hlen ⊢
    simp only [flat, List.map_cons, List.cons_append]
    rw [other _ _ _ (by simp), badType_cons]
    have hbh : behindF ts (i + 1) = i + 2 := behind_sp hF .leaf (i + 1) ⟨hlf, n3⟩ (by simp only [Ast.len]; omega)
    have hi : isR ts L i = 63 := by rw [isR_open hF h1, if_neg n1, if_neg n2, hbh]; unfold opR; rw [if_pos h3]
    have hf : fitsF ds (mkN ts i dl { ndZero with kind := 5, a := off + 1, b := off + 2 }) (tr.getD off false) = true := by
      unfold fitsF; simp [mkN]
    rw [hf, if_pos rfl]
    simp only [wrongR]
    rw [bad_any hi]
    have ht : tell (mkN ts i dl { ndZero with kind := 5, a := off + 1, b := off + 2 }) (tr.getD off false) tr = (tr.set (off + 1) (tr.getD off false)).set (off + 2) (tr.getD off false) := by unfold tell; simp [mkN]
    rw [ht]
    generalize hv : tr.getD off false = v
    generalize htr : (tr.set (off + 1) v).set (off + 2) v = tr0
    have l0 : tr0.length = tr.length := by rw [← htr]; simp
    have ga : tr0.getD (off + 1) false = v := by rw [← htr, getD_set_ne (by omega), getD_set_eq (by omega)]
    have gb : tr0.getD (off + 2) false = v := by rw [← htr, getD_set_eq (by simp; omega)]
    have go : ∀ j, off + (b.size + 2) ≤ j → tr0.getD j false = tr.getD j false := fun j hj => by rw [← htr, getD_set_ne (by omega), getD_set_ne (by omega)]
    have hk1 : (tkAt ts (i + 1)).kind ≠ 1 := by have := lit_nm hF h2; unfold isNm at this; simpa using this
    rw [badType_cons, ga, fits_first hF hN hlf n3 (fun hk => absurd hk hk1) dl]
    have ht2 : tell (bindF ds (mkN ts (i + 1) dl (leafN0 (tkAt ts (i + 1))))) v tr0 = tr0 := by
      have hk : (bindF ds (mkN ts (i + 1) dl (leafN0 (tkAt ts (i + 1))))).kind ≤ 2 := by
        rw [(bindF_keep ds _).1, mkN_kind]
        unfold leafN0
        split; · simp
        split; · simp
        split; · simp
        · simp
      unfold tell
      rw [if_neg (by omega), if_neg (by omega), if_neg (by omega), if_neg (by omega)]
    have hp : (bindF ds (mkN ts (i + 1) dl (leafN0 (tkAt ts (i + 1))))).pos = (tkAt ts (i + 1)).pos := by unfold bindF; split <;> rfl
    rw [ht2, hp]
    cases hb : badR ts L (i + 1) (wB v) with
    | true => exact ⟨tr, rfl, fun _ _ => rfl, by simp⟩
    | false =>
      obtain ⟨t1, x1, y1, z1⟩ := ihb (i + 3) (dl + 1) (off + 2) tr0 rest h4 (by omega) (fun x hx => by
        have := hd
        simp only [nmD] at this
        have hmem : (x.1, true) ∈ nmD ts b (i + 3) true := by
          have hx1 : x.1 ∈ (nmD ts b (i + 3) false).map Prod.fst := List.mem_map.2 ⟨x, hx, rfl⟩
          rw [← nm_filter hF b (i + 3) false h4, nm_filter hF b (i + 3) true h4] at hx1
          obtain ⟨y, hy, he⟩ := List.mem_map.1 hx1
          have hyt : y.2 = true := nm_true b (i + 3) y hy
          have e : y = (x.1, true) := Prod.ext he hyt
          rw [← e]; exact hy
        exact this (x.1, true) hmem) (by omega)
      refine ⟨t1, by omega, fun j hj => by rw [y1 j (by omega), go j (by omega)], ?_⟩
      rw [if_pos (by simp), z1, gb]
      simp only [Bool.false_eq_true, if_false, Option.none_or]
      rw [show off + 2 + b.size = off + (b.size + 2) by omega]
  | bin a b iha ihb =>
    intro i dl off tr rest hs hl hd hlen
    obtain ⟨h1, h2, h3, h4, h5⟩ := hs
    obtain ⟨n1, n2⟩ := sp_first hF h2
    have pa := a.size_pos
    have pb := b.size_pos
    simp only [Ast.len, Ast.size] at hl hlen ⊢
    simp only [flat, List.map_cons, List.cons_append, List.map_append, List.append_assoc]
    rw [other _ _ _ (by simp), badType_cons]
    have hbh : behindF ts (i + 1) = i + 1 + a.len := behind_sp hF a (i + 1) h2 (by omega)
    generalize ho : lAt ts (i + 1 + a.len) = o at h3 ⊢
    have hcs : (opR o = wB (makesT ((opOf o).getD 0))) ∧ bothR o = wB (takesT ((opOf o).getD 0)) := by
      revert h3
      unfold opOf
      split; · rename_i e; subst e; intro _; decide
      split; · rename_i e; subst e; intro _; decide
      split; · rename_i e; subst e; intro _; decide
      split; · rename_i e; subst e; intro _; decide
      split; · rename_i e; subst e; intro _; decide
      split; · rename_i e; subst e; intro _; decide
      split; · rename_i e; subst e; intro _; decide
      split; · rename_i e; subst e; intro _; decide
      · intro h; cases h
    have hi : isR ts L i = wB (makesT ((opOf o).getD 0)) := by rw [isR_open hF h1, if_neg n1, if_neg n2, hbh, ho]; exact hcs.1
    have hf : fitsF ds (mkN ts i dl { ndZero with kind := 6, op := (opOf o).getD 0, a := off + 1, b := off + 1 + a.size }) (tr.getD off false) = !badR ts L i (wB (tr.getD off false)) := by
      rw [bad_truth _ hi]; unfold fitsF; simp [mkN]
    rw [hf]
    simp only [wrongR]
    rw [ho]
    cases hb : badR ts L i (wB (tr.getD off false)) with
    | true => exact ⟨tr, rfl, fun _ _ => rfl, by simp [mkN]⟩
    | false =>
      have ht : tell (mkN ts i dl { ndZero with kind := 6, op := (opOf o).getD 0, a := off + 1, b := off + 1 + a.size }) (tr.getD off false) tr = (tr.set (off + 1) (takesT ((opOf o).getD 0))).set (off + 1 + a.size) (takesT ((opOf o).getD 0)) := by unfold tell; simp [mkN]
      rw [ht, hcs.2]
      generalize hv : takesT ((opOf o).getD 0) = v
      generalize htr : (tr.set (off + 1) v).set (off + 1 + a.size) v = tr0
      have l0 : tr0.length = tr.length := by rw [← htr]; simp
      have ga : tr0.getD (off + 1) false = v := by rw [← htr, getD_set_ne (by omega), getD_set_eq (by omega)]
      have gb : tr0.getD (off + 1 + a.size) false = v := by rw [← htr, getD_set_eq (by simp; omega)]
      have go : ∀ j, off + (a.size + b.size + 1) ≤ j → tr0.getD j false = tr.getD j false := fun j hj => by rw [← htr, getD_set_ne (by omega), getD_set_ne (by omega)]
      obtain ⟨t1, x1, y1, z1⟩ := iha (i + 1) dl (off + 1) tr0 ((flat ts b (i + 2 + a.len) dl (off + 1 + a.size)).map (bindF ds) ++ rest) h2 (by omega) (fun x hx => hd x (by simp only [nmD, List.mem_append]; exact .inl hx)) (by omega)
      obtain ⟨t2, x2, y2, z2⟩ := ihb (i + 2 + a.len) dl (off + 1 + a.size) t1 rest h4 (by omega) (fun x hx => hd x (by simp only [nmD, List.mem_append]; exact .inr hx)) (by omega)
      refine ⟨t2, by omega, fun j hj => by rw [y2 j (by omega), y1 j (by omega), go j (by omega)], ?_⟩
      rw [if_pos (by simp), z1, z2, ga, y1 _ (by omega), gb]
      simp only [Bool.false_eq_true, if_false]
      rw [show off + 1 + a.size + b.size = off + (a.size + b.size + 1) by omega, Option.or_assoc]
end
def TrOk : List Dl → Nat → List Bool → Prop
  | [], _, _ => True
  | x :: r, off, tr => if x.kind = 0 then TrOk r off tr else tr.getD off false = (x.kind == 2) ∧ TrOk r (off + x.t.size) tr
def totN : List Dl → Nat
  | [] => 0
  | x :: r => if x.kind = 0 then totN r else x.t.size + totN r
theorem nodesD_len (ts : List Tk) : ∀ (L : List Dl) (off : Nat), (nodesD ts L off).length = totN L := by
  intro L
  induction L with
  | nil => intro off; rfl
  | cons x r ih =>
    intro off
    simp only [nodesD, totN]
    split
    · exact ih off
    · rw [List.length_append, flat_len, ih]
theorem TrOk.congr : ∀ (L : List Dl) (off : Nat) (tr tr' : List Bool), (∀ j, off ≤ j → tr'.getD j false = tr.getD j false) → TrOk L off tr → TrOk L off tr' := by
  intro L
  induction L with
  | nil => intro off tr tr' _ _; trivial
  | cons x r ih =>
    intro off tr tr' h hT
    simp only [TrOk] at hT ⊢
    split
    · rename_i hk; rw [if_pos hk] at hT; exact ih off tr tr' h hT
    · rename_i hk; rw [if_neg hk] at hT; exact ⟨by rw [h off (Nat.le_refl _)]; exact hT.1, ih _ tr tr' (fun j hj => h j (by omega)) hT.2⟩
theorem roots_below (ts : List Tk) : ∀ (L : List Dl) (off a b : Nat) (tr : List Bool) (j : Nat), j < off → (roots (declsD ts L off a b) tr).getD j false = tr.getD j false := by
  intro L
  induction L with
  | nil => intro off a b tr j _; rfl
  | cons x r ih =>
    intro off a b tr j hj
    simp only [declsD]
    split
    · simp only [roots]
      rw [if_neg (show ¬ (dcIn ts x a).kind = 2 by show ¬ (0 : Nat) = 2; decide)]
      exact ih off (a + 1) b tr j hj
    · simp only [roots]
      rw [ih (off + x.t.size) a (b + 1) _ j (by omega)]
      split
      · rw [getD_set_ne (show (dcEq ts x b off).root ≠ j by show off ≠ j; omega)]
      · rfl
theorem roots_len (ds : List Dc) : ∀ (tr : List Bool), (roots ds tr).length = tr.length := by
  induction ds with
  | nil => intro tr; rfl
  | cons d r ih => intro tr; simp only [roots]; rw [ih]; split <;> simp
theorem roots_ok (ts : List Tk) : ∀ (L : List Dl) (off a b : Nat) (tr : List Bool), (∀ j, off ≤ j → tr.getD j false = false) → off + totN L ≤ tr.length → TrOk L off (roots (declsD ts L off a b) tr) := by
  intro L
  induction L with
  | nil => intro off a b tr _ _; trivial
  | cons x r ih =>
    intro off a b tr h hl
    simp only [totN] at hl
    simp only [declsD, TrOk]
    by_cases hk : x.kind = 0
    · rw [if_pos hk] at hl
      rw [if_pos hk, if_pos hk]
      simp only [roots]
      rw [if_neg (show ¬ (dcIn ts x a).kind = 2 by show ¬ (0 : Nat) = 2; decide)]
      exact ih off (a + 1) b tr h hl
    · rw [if_neg hk] at hl
      rw [if_neg hk, if_neg hk]
      have hp := x.t.size_pos
      simp only [roots]
      have hr : (dcEq ts x b off).root = off := rfl
      have hkk : (dcEq ts x b off).kind = x.kind := rfl
      rw [hr, hkk]
      refine ⟨?_, ?_⟩
      · rw [roots_below ts r _ _ _ _ off (by omega)]
        by_cases h2 : x.kind = 2
        · rw [if_pos h2, getD_set_eq (by omega), h2]; rfl
        · rw [if_neg h2, h off (Nat.le_refl _)]
          exact (beq_eq_false_iff_ne.2 h2).symm
      · refine ih _ _ _ _ (fun j hj => ?_) ?_
        · split
          · rw [getD_set_ne (by omega)]; exact h j (by omega)
          · exact h j (by omega)
        · split
          · rw [List.length_set]; omega
          · omega
theorem types_eq {ts : List Tk} (hF : ∀ i, TkF (tkAt ts i)) {L : List Dl} {ds : List Dc} (hN : NamesOk ts L ds) :
    ∀ (L2 : List Dl) (i off : Nat) (tr : List Bool), Spell ts L2 i → TrOk L2 off tr → off + totN L2 ≤ tr.length → (∀ x ∈ L2, x.kind ≠ 0 → ∀ y ∈ nmD ts x.t (x.i + 5) false, 0 ≤ findF ds (tkAt ts y.1).text) →
      badTypeF ds off ((nodesD ts L2 off).map (bindF ds)) tr = (eqL L2).findSome? fun x => wrongR ts L x.t (x.i + 5) (wB (x.kind == 2)) := by
  intro L2
  induction L2 with
  | nil => intro i off tr _ _ _ _; rfl
  | cons x r ih =>
    intro i off tr hs hT hl hd
    obtain ⟨h1, h2, h3, h4⟩ := hs
    simp only [TrOk] at hT
    simp only [totN] at hl
    by_cases hk : x.kind = 0
    · rw [if_pos hk] at hT hl
      have e : eqL (x :: r) = eqL r := by simp [eqL, hk]
      simp only [nodesD, if_pos hk]
      rw [e]
      exact ih _ off tr h4 hT hl (fun y hy => hd y (List.mem_cons_of_mem _ hy))
    · rw [if_neg hk] at hT hl
      have e : eqL (x :: r) = x :: eqL r := by simp [eqL, hk]
      simp only [nodesD, if_neg hk]
      have hsp : Sp ts x.t (x.i + 5) := by
        rcases h3 with ⟨h, _⟩ | ⟨_, _, _, _, _, h, _⟩
        · exact absurd h hk
        · exact h
      have hlen : x.len = x.t.len + 6 := by unfold Dl.len; rw [if_neg hk]
      obtain ⟨tr', e1, e2, e3⟩ := pass_expr hF hN x.t (x.i + 5) 0 off tr ((nodesD ts r (off + x.t.size)).map (bindF ds)) hsp (by omega) (hd x (List.mem_cons_self ..) hk) (by omega)
      rw [List.map_append, e3, e, List.findSome?_cons, hT.1, ih _ (off + x.t.size) tr' h4 (hT.2.congr r _ tr tr' e2) (by omega) (fun y hy => hd y (List.mem_cons_of_mem _ hy))]
      cases wrongR ts L x.t (x.i + 5) (wB (x.kind == 2)) <;> rfl
def delayedR (ts : List Tk) (from' j : Nat) : Bool := (List.range' from' (j - from')).any fun f => lAt ts f == kFby && decide (j < behindF ts (f + 1))
def hangsR (ts : List Tk) (x : Dl) (name : List UInt8) : Bool := (List.range' (x.i + 5) x.t.len).any fun j => isNm ts j && (lAt ts j == name && !delayedR ts (x.i + 5) j)
theorem delayed_iff (ts : List Tk) (i j : Nat) : delayedR ts i j = true ↔ ∃ f, i ≤ f ∧ f < j ∧ lAt ts f = kFby ∧ j < behindF ts (f + 1) := by
  unfold delayedR
  rw [List.any_eq_true]
  constructor
  · rintro ⟨f, hf, h⟩
    rw [List.mem_range'_1] at hf
    rw [Bool.and_eq_true, beq_iff_eq, decide_eq_true_iff] at h
    exact ⟨f, hf.1, by omega, h.1, h.2⟩
  · rintro ⟨f, h1, h2, h3, h4⟩
    refine ⟨f, ?_, ?_⟩
    · rw [List.mem_range'_1]; omega
    · rw [Bool.and_eq_true, beq_iff_eq, decide_eq_true_iff]; exact ⟨h3, h4⟩
section
variable {ts : List Tk} (hF : ∀ i, TkF (tkAt ts i))
include hF
theorem fby_in : ∀ (t : Ast) (i : Nat), Sp ts t i → i + t.len ≤ ts.length → ∀ f, i ≤ f → f < i + t.len → lAt ts f = kFby → behindF ts (f + 1) ≤ i + t.len := by
  intro t
  induction t with
  | leaf =>
    intro i hs hl f h1 h2 h3
    simp only [Ast.len] at h2
    have : f = i := by omega
    subst this
    exact absurd h3 (leaf_ne hF hs.1 (by decide) (by decide) (by decide))
  | neg a iha =>
    intro i hs hl f h1 h2 h3
    obtain ⟨k1, k2, k3, k4⟩ := hs
    simp only [Ast.len] at hl h2 ⊢
    by_cases c1 : f < i + 2
    · have : f = i ∨ f = i + 1 := by omega
      rcases this with rfl | rfl
      · rw [k1] at h3; cases h3
      · rw [k2] at h3; exact absurd h3 (by decide)
    by_cases c2 : f < i + 2 + a.len
    · have := iha (i + 2) k3 (by omega) f (by omega) c2 h3; omega
    · have : f = i + 2 + a.len := by omega
      subst this
      rw [k4] at h3; cases h3
  | ite a b c iha ihb ihc =>
    intro i hs hl f h1 h2 h3
    obtain ⟨k1, k2, k3, k4, k5, k6⟩ := hs
    simp only [Ast.len] at hl h2 ⊢
    by_cases c1 : f < i + 2
    · have : f = i ∨ f = i + 1 := by omega
      rcases this with rfl | rfl
      · rw [k1] at h3; cases h3
      · rw [k2] at h3; exact absurd h3 (by decide)
    by_cases c2 : f < i + 2 + a.len
    · have := iha (i + 2) k3 (by omega) f (by omega) c2 h3; omega
    by_cases c3 : f < i + 2 + a.len + b.len
    · have := ihb (i + 2 + a.len) k4 (by omega) f (by omega) c3 h3; omega
    by_cases c4 : f < i + 2 + a.len + b.len + c.len
    · have := ihc (i + 2 + a.len + b.len) k5 (by omega) f (by omega) c4 h3; omega
    · have : f = i + 2 + a.len + b.len + c.len := by omega
      subst this
      rw [k6] at h3; cases h3
  | dly b ihb =>
    intro i hs hl f h1 h2 h3
    obtain ⟨k1, k2, k3, k4, k5⟩ := hs
    simp only [Ast.len] at hl h2 ⊢
    by_cases c1 : f < i + 2
    · have : f = i ∨ f = i + 1 := by omega
      rcases this with rfl | rfl
      · rw [k1] at h3; cases h3
      · exact absurd h3 (leaf_ne hF (by unfold leafT; rw [k2]; rfl) (by decide) (by decide) (by decide))
    by_cases c2 : f = i + 2
    · subst c2
      have := behind_sp hF b (i + 2 + 1) k4 (by omega)
      omega
    by_cases c3 : f < i + 3 + b.len
    · have := ihb (i + 3) k4 (by omega) f (by omega) c3 h3; omega
    · have : f = i + 3 + b.len := by omega
      subst this
      rw [k5] at h3; cases h3
  | bin a b iha ihb =>
    intro i hs hl f h1 h2 h3
    obtain ⟨k1, k2, k3, k4, k5⟩ := hs
    simp only [Ast.len] at hl h2 ⊢
    by_cases c1 : f = i
    · subst c1; rw [k1] at h3; cases h3
    by_cases c2 : f < i + 1 + a.len
    · have := iha (i + 1) k2 (by omega) f (by omega) c2 h3; omega
    by_cases c3 : f = i + 1 + a.len
    · subst c3; exact absurd h3 (op_ne k3).2.2.2
    by_cases c4 : f < i + 2 + a.len + b.len
    · have := ihb (i + 2 + a.len) k4 (by omega) f (by omega) c4 h3; omega
    · have : f = i + 2 + a.len + b.len := by omega
      subst this
      rw [k5] at h3; cases h3
omit hF in
theorem delayed_shift {i j k : Nat} (hij : i ≤ j) (_hjk : j ≤ k) (h : ∀ f, i ≤ f → f < j → lAt ts f = kFby → behindF ts (f + 1) ≤ k) : delayedR ts i k = delayedR ts j k := by
  rw [Bool.eq_iff_iff, delayed_iff, delayed_iff]
  constructor
  · rintro ⟨f, h1, h2, h3, h4⟩
    by_cases c : f < j
    · have := h f h1 c h3; omega
    · exact ⟨f, by omega, h2, h3, h4⟩
  · rintro ⟨f, h1, h2, h3, h4⟩; exact ⟨f, by omega, h2, h3, h4⟩
theorem nm_delayed : ∀ (t : Ast) (i : Nat) (dl : Bool), Sp ts t i → i + t.len ≤ ts.length → ∀ x ∈ nmD ts t i dl, x.2 = (dl || delayedR ts i x.1) := by
  intro t
  induction t with
  | leaf =>
    intro i dl hs hl x hx
    simp only [nmD] at hx
    split at hx
    · simp only [List.mem_singleton] at hx
      subst hx
      have : delayedR ts i i = false := by unfold delayedR; simp
      rw [this, Bool.or_false]
    · simp at hx
  | neg a iha =>
    intro i dl hs hl x hx
    obtain ⟨k1, k2, k3, k4⟩ := hs
    simp only [Ast.len] at hl
    have hin := nm_in a (i + 2) dl x hx
    rw [iha (i + 2) dl k3 (by omega) x hx, delayed_shift (i := i) (j := i + 2) (by omega) hin.1]
    intro f h1 h2 h3
    have : f = i ∨ f = i + 1 := by omega
    rcases this with rfl | rfl
    · rw [k1] at h3; cases h3
    · rw [k2] at h3; exact absurd h3 (by decide)
  | ite a b c iha ihb ihc =>
    intro i dl hs hl x hx
    obtain ⟨k1, k2, k3, k4, k5, k6⟩ := hs
    simp only [Ast.len] at hl
    simp only [nmD, List.mem_append] at hx
    have hfirst : ∀ f, i ≤ f → f < i + 2 → lAt ts f = kFby → False := by
      intro f h1 h2 h3
      have : f = i ∨ f = i + 1 := by omega
      rcases this with rfl | rfl
      · rw [k1] at h3; cases h3
      · rw [k2] at h3; exact absurd h3 (by decide)
    rcases hx with hx | hx | hx
    · have hin := nm_in _ _ _ x hx
      rw [iha (i + 2) dl k3 (by omega) x hx, delayed_shift (i := i) (j := i + 2) (by omega) hin.1]
      intro f h1 h2 h3
      exact (hfirst f h1 h2 h3).elim
    · have hin := nm_in _ _ _ x hx
      rw [ihb (i + 2 + a.len) dl k4 (by omega) x hx, delayed_shift (i := i) (j := i + 2 + a.len) (by omega) hin.1]
      intro f h1 h2 h3
      by_cases c1 : f < i + 2
      · exact (hfirst f h1 c1 h3).elim
      · have := fby_in hF a (i + 2) k3 (by omega) f (by omega) h2 h3; omega
    · have hin := nm_in _ _ _ x hx
      rw [ihc (i + 2 + a.len + b.len) dl k5 (by omega) x hx, delayed_shift (i := i) (j := i + 2 + a.len + b.len) (by omega) hin.1]
      intro f h1 h2 h3
      by_cases c1 : f < i + 2
      · exact (hfirst f h1 c1 h3).elim
      by_cases c2 : f < i + 2 + a.len
      · have := fby_in hF a (i + 2) k3 (by omega) f (by omega) c2 h3; omega
      · have := fby_in hF b (i + 2 + a.len) k4 (by omega) f (by omega) h2 h3; omega
  | dly b ihb =>
    intro i dl hs hl x hx
    obtain ⟨k1, k2, k3, k4, k5⟩ := hs
    simp only [Ast.len] at hl
    have hin := nm_in b (i + 3) true x hx
    rw [nm_true b (i + 3) x hx]
    have : delayedR ts i x.1 = true := by
      rw [delayed_iff]
      refine ⟨i + 2, by omega, by omega, k3, ?_⟩
      rw [behind_sp hF b (i + 2 + 1) k4 (by omega)]; omega
    rw [this, Bool.or_true]
  | bin a b iha ihb =>
    intro i dl hs hl x hx
    obtain ⟨k1, k2, k3, k4, k5⟩ := hs
    simp only [Ast.len] at hl
    simp only [nmD, List.mem_append] at hx
    have hfirst : ∀ f, i ≤ f → f < i + 1 → lAt ts f = kFby → False := by
      intro f h1 h2 h3
      have : f = i := by omega
      subst this
      rw [k1] at h3; cases h3
    rcases hx with hx | hx
    · have hin := nm_in _ _ _ x hx
      rw [iha (i + 1) dl k2 (by omega) x hx, delayed_shift (i := i) (j := i + 1) (by omega) hin.1]
      intro f h1 h2 h3
      exact (hfirst f h1 h2 h3).elim
    · have hin := nm_in _ _ _ x hx
      rw [ihb (i + 2 + a.len) dl k4 (by omega) x hx, delayed_shift (i := i) (j := i + 2 + a.len) (by omega) hin.1]
      intro f h1 h2 h3
      by_cases c1 : f < i + 1
      · exact (hfirst f h1 c1 h3).elim
      by_cases c2 : f < i + 1 + a.len
      · have := fby_in hF a (i + 1) k2 (by omega) f (by omega) c2 h3; omega
      · have : f = i + 1 + a.len := by omega
        subst this
        exact absurd h3 (op_ne k3).2.2.2
theorem hangs_nm (x : Dl) (hs : Sp ts x.t (x.i + 5)) (hl : x.i + 5 + x.t.len ≤ ts.length) (name : List UInt8) : hangsR ts x name = (nmD ts x.t (x.i + 5) false).any fun y => lAt ts y.1 == name && !y.2 := by
  unfold hangsR
  rw [← List.any_filter, nm_filter hF x.t (x.i + 5) false hs, List.any_map]
  apply any_congr_mem
  intro y hy
  have := nm_delayed hF x.t (x.i + 5) false hs hl y hy
  simp only [Function.comp]
  rw [this, Bool.false_or]
end
theorem markSeg_eq (ds : List Dc) (i : Nat) : ∀ (l : List Nd) (M : Mx) (a b : Nat), markSeg ds i l M a b = (M a b || (a == i && l.any fun n => n.kind == 2 && (!n.delayed && (kindAt ds n.decl != 0 && n.decl.toNat == b)))) := by
  intro l
  induction l with
  | nil => intro M a b; simp [markSeg]
  | cons n l ih =>
    intro M a b
    simp only [markSeg]
    rw [ih, List.any_cons]
    by_cases h : n.kind = 2 ∧ n.delayed = false ∧ kindAt ds n.decl ≠ 0
    · have hq : (kindAt ds n.decl != 0) = true := by rw [bne_iff_ne]; exact h.2.2
      rw [if_pos h, h.1, h.2.1, hq]
      unfold upd
      by_cases h2 : a = i ∧ b = n.decl.toNat
      · rw [if_pos h2, h2.1, h2.2]; simp
      · rw [if_neg h2]
        by_cases ha : a = i
        · have hb : (n.decl.toNat == b) = false := beq_eq_false_iff_ne.2 (fun e => h2 ⟨ha, e.symm⟩)
          rw [hb]; simp
        · have hb : (a == i) = false := beq_eq_false_iff_ne.2 ha
          rw [hb]; simp
    · rw [if_neg h]
      have : (n.kind == 2 && (!n.delayed && (kindAt ds n.decl != 0 && n.decl.toNat == b))) = false := by
        by_cases hk : n.kind = 2
        · cases hd : n.delayed with
          | true => simp
          | false =>
            have hq : kindAt ds n.decl = 0 := by
              by_cases hz : kindAt ds n.decl = 0
              · exact hz
              · exact absurd ⟨hk, hd, hz⟩ h
            simp [hq]
        · simp [hk]
      rw [this, Bool.false_or]
theorem markAll_eq (ds : List Dc) (ns : List Nd) : ∀ (l : List Dc) (i : Nat) (M : Mx) (a b : Nat), markAll ds ns i l M a b = (M a b || (decide (i ≤ a) && ((l[a - i]?).any fun d => (seg ns d.root d.fin).any fun n => n.kind == 2 && (!n.delayed && (kindAt ds n.decl != 0 && n.decl.toNat == b))))) := by
  intro l
  induction l with
  | nil => intro i M a b; simp [markAll]
  | cons d l ih =>
    intro i M a b
    simp only [markAll]
    rw [ih, markSeg_eq]
    by_cases h : a = i
    · subst h
      have h1 : decide (a + 1 ≤ a) = false := by rw [decide_eq_false_iff_not]; omega
      have h2 : decide (a ≤ a) = true := by rw [decide_eq_true_iff]; omega
      rw [h1, h2, Nat.sub_self, List.getElem?_cons_zero]
      simp
    · by_cases h2 : i ≤ a
      · have e : a - i = (a - (i + 1)) + 1 := by omega
        have g1 : (a == i) = false := beq_eq_false_iff_ne.2 h
        have g2 : decide (i ≤ a) = true := by rw [decide_eq_true_iff]; omega
        have g3 : decide (i + 1 ≤ a) = true := by rw [decide_eq_true_iff]; omega
        rw [e, List.getElem?_cons_succ, g1, g2, g3]
        simp
      · have g1 : (a == i) = false := beq_eq_false_iff_ne.2 h
        have g2 : decide (i ≤ a) = false := by rw [decide_eq_false_iff_not]; omega
        have g3 : decide (i + 1 ≤ a) = false := by rw [decide_eq_false_iff_not]; omega
        rw [g1, g2, g3]
        simp
theorem warsh_part {M rel : Mx} {isE : Nat → Bool} {cnt : Nat → Nat} (hc : ∀ k, cnt (k + 1) = if isE k then cnt k + 1 else cnt k) (h0 : cnt 0 = 0)
    (h1 : ∀ a b, isE a = false → M a b = false) (h2 : ∀ a b, isE a = true → isE b = true → M a b = rel (cnt a) (cnt b)) :
    ∀ k, (∀ a b, isE a = false → warsh M k a b = false) ∧ (∀ a b, isE a = true → isE b = true → warsh M k a b = warsh rel (cnt k) (cnt a) (cnt b)) := by
  intro k
  induction k with
  | zero => rw [h0]; exact ⟨h1, h2⟩
  | succ k ih =>
    obtain ⟨i1, i2⟩ := ih
    refine ⟨fun a b ha => ?_, fun a b ha hb => ?_⟩
    · simp only [warsh, phase]; rw [i1 a b ha, i1 a k ha]; rfl
    · simp only [warsh, phase]
      cases hk : isE k with
      | false => rw [hc, hk, i1 k b hk, i2 a b ha hb]; simp
      | true =>
        rw [hc, hk, i2 a b ha hb, i2 a k ha hk, i2 k b hk hb]
        rfl
end Go.Proofs.Ytmndgoapkmhglab
