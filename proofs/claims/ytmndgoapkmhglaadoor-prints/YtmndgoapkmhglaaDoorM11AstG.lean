import Derived.Test.YtmndgoapkmhglaaDoorM10AstE
/- Plain mathematics: both readers find the same declarations: the proof. -/
namespace Go.Proofs.YtmndgoapkmhglaaDoor

section
variable {ts : List Tk} (ht : TsOk ts) (hF : ∀ i, TkF (tkAt ts i))
include ht hF

omit hF in
theorem takeY {p : PS} {l : List UInt8} (hl : l ≠ []) (hp : p.next < ts.length) (h : lAt ts p.next = l) : p.take ts l = .ok { p with next := p.next + 1 } ∧ p.next + 1 < ts.length := by
  obtain ⟨ea, hl1⟩ := adv_kw ht (p := p) hp (by rw [h]; exact hl)
  unfold PS.take
  rw [if_pos (show (p.hd ts).l = l from h), ea]
  exact ⟨rfl, hl1⟩
omit ht hF in
theorem takeN {p : PS} {l : List UInt8} (h : lAt ts p.next ≠ l) : p.take ts l = .error p.next := by
  unfold PS.take
  rw [if_neg (show ¬ (p.hd ts).l = l from h)]

/-- what one declaration leaves. -/
def afterD (ts : List Tk) (p : PS) (x : Dl) : PS :=
  { p with next := p.next + x.len, decls := p.decls ++ [if x.kind = 0 then dcIn ts x (insN p.decls) else dcEq ts x (eqsF p.decls).length p.nodes.length], nodes := p.nodes ++ (if x.kind = 0 then [] else flat ts x.t (x.i + 5) 0 p.nodes.length) }

theorem inputA {p : PS} (hp : p.next < ts.length) (h : lAt ts p.next = kIn) :
    (∀ p', inputF ts p = .ok p' → ∃ x : Dl, x.i = p.next ∧ p.next + x.len < ts.length ∧ DlOk ts x ∧ p' = afterD ts p x ∧ ∀ n r, Ans ts n [80] 0 (p.next + x.len) r → ∃ n', Ans ts n' [80] 0 p.next r) ∧
    (∀ k, inputF ts p = .error k → k < ts.length ∧ ∃ n, Ans ts n [80] 0 p.next ((tkAt ts k).pos : Int)) := by
  obtain ⟨ea, hl1⟩ := adv_kw ht (p := p) hp (by rw [h]; decide)
  unfold inputF
  rw [ea]
  have hh : PS.hd ts { p with next := p.next + 1 } = tkAt ts (p.next + 1) := rfl
  rw [hh]
  by_cases hk : (tkAt ts (p.next + 1)).kind = 1
  · rw [if_pos hk]
    have hne : lAt ts (p.next + 1) ≠ [] := (hF _).pos (by rw [hk]; decide)
    obtain ⟨eb, hl2⟩ := adv_kw ht (p := { p with next := p.next + 1 }) hl1 hne
    rw [eb]
    by_cases hs : lAt ts (p.next + 2) = [59]
    · obtain ⟨e3, hl3⟩ := takeY ht (p := PS.declare { p with next := p.next + 1 + 1 } ⟨0, 0, (tkAt ts (p.next + 1)).text, (tkAt ts (p.next + 1)).pos, 0, 0, 0⟩) (l := [59]) (by decide) hl2 hs
      have hl3' : p.next + 1 + 1 + 1 < ts.length := hl3
      rw [e3]
      refine ⟨fun p' he => ?_, fun k he => (by cases he)⟩
      cases he
      refine ⟨⟨0, p.next, .leaf⟩, rfl, hl3', .inl ⟨rfl, h, hk, hs⟩, ?_, fun n r hA => ⟨n + 1 + 1 + 1, ?_⟩⟩
      · unfold afterD PS.declare
        simp only [Dl.len, if_true, List.append_nil]
        congr 1
        rw [sameSort_ins _ _ rfl, Nat.zero_add]
        rfl
      · exact Ans.declIn hF hp h (Ans.name hF hl1 (by simp) hk (Ans.sign hF 59 (.inl rfl) hl2 (by simp) hs hA))
    · rw [takeN (p := PS.declare { p with next := p.next + 1 + 1 } ⟨0, 0, (tkAt ts (p.next + 1)).text, (tkAt ts (p.next + 1)).pos, 0, 0, 0⟩) (l := [59]) hs]
      refine ⟨fun p' he => (by cases he), fun k he => ?_⟩
      cases he
      exact ⟨hl2, 2, Ans.declIn hF hp h (Ans.name hF hl1 (by simp) hk (Ans.nosign hF 59 (.inl rfl) hl2 (by simp) hs))⟩
  · rw [if_neg hk]
    refine ⟨fun p' he => (by cases he), fun k he => ?_⟩
    cases he
    exact ⟨hl1, 1, Ans.declIn hF hp h (Ans.noname hl1 (by simp) hk)⟩

theorem equationA {p : PS} (kind : Nat) (hp : p.next < ts.length) (hdep : p.depth = 0) (hdl : p.delays = 0) (h : (kind = 1 ∧ lAt ts p.next = kInt) ∨ (kind = 2 ∧ lAt ts p.next = kBool)) :
    (∀ p', equationF ts kind p = .ok p' → ∃ x : Dl, x.i = p.next ∧ p.next + x.len < ts.length ∧ DlOk ts x ∧ p' = afterD ts p x ∧ ∀ n r, Ans ts n [80] 0 (p.next + x.len) r → ∃ n', Ans ts n' [80] 0 p.next r) ∧
    (∀ k, equationF ts kind p = .error k → k < ts.length ∧ ∃ n, Ans ts n [80] 0 p.next ((tkAt ts k).pos : Int)) := by
  have hor : lAt ts p.next = kInt ∨ lAt ts p.next = kBool := h.elim (fun h => .inl h.2) (fun h => .inr h.2)
  have hk0 : kind ≠ 0 := by omega
  obtain ⟨ea, hl1⟩ := adv_kw ht (p := p) hp (by rcases hor with h | h <;> rw [h] <;> decide)
  unfold equationF
  rw [ea]
  have hh : PS.hd ts { p with next := p.next + 1 } = tkAt ts (p.next + 1) := rfl
  rw [hh]
  by_cases hk : (tkAt ts (p.next + 1)).kind = 1
  case neg =>
    rw [if_neg hk]
    refine ⟨fun p' he => (by cases he), fun k he => ?_⟩
    cases he
    exact ⟨hl1, 1, Ans.declEq hF hp hor (Ans.noname hl1 (by simp) hk)⟩
  rw [if_pos hk]
  have hne : lAt ts (p.next + 1) ≠ [] := (hF _).pos (by rw [hk]; decide)
  obtain ⟨eb, hl2⟩ := adv_kw ht (p := { p with next := p.next + 1 }) hl1 hne
  have hl2' : p.next + 2 < ts.length := hl2
  rw [eb]
  by_cases hat : lAt ts (p.next + 2) = kAt
  case neg =>
    rw [takeN (p := { p with next := p.next + 1 + 1 }) (l := kAt) hat]
    refine ⟨fun p' he => (by cases he), fun k he => ?_⟩
    cases he
    exact ⟨hl2, 2, Ans.declEq hF hp hor (Ans.name hF hl1 (by simp) hk (Ans.noAt hF hl2 (by simp) hat))⟩
  obtain ⟨e3, hl3⟩ := takeY ht (p := { p with next := p.next + 1 + 1 }) (l := kAt) (by decide) hl2 hat
  have hl3' : p.next + 3 < ts.length := hl3
  rw [e3]
  simp only
  unfold placeF
  have hh3 : PS.hd ts { p with next := p.next + 1 + 1 + 1 } = tkAt ts (p.next + 3) := rfl
  rw [hh3]
  by_cases hpl : (tkAt ts (p.next + 3)).kind = 3 ∧ valOf (tkAt ts (p.next + 3)).l < 4
  case neg =>
    rw [if_neg hpl]
    refine ⟨fun p' he => (by cases he), fun k he => ?_⟩
    cases he
    exact ⟨hl3, 3, Ans.declEq hF hp hor (Ans.name hF hl1 (by simp) hk (Ans.isAt hF hl2 (by simp) hat (Ans.noplace hl3' (by simp) hpl)))⟩
  rw [if_pos hpl]
  have hne3 : lAt ts (p.next + 3) ≠ [] := (hF _).pos (by rw [hpl.1]; decide)
  obtain ⟨e4, hl4⟩ := adv_kw ht (p := { p with next := p.next + 1 + 1 + 1 }) hl3 hne3
  have hl4' : p.next + 4 < ts.length := hl4
  rw [e4]
  simp only
  by_cases heq : lAt ts (p.next + 4) = [61]
  case neg =>
    rw [takeN (p := { p with next := p.next + 1 + 1 + 1 + 1 }) (l := [61]) heq]
    refine ⟨fun p' he => (by cases he), fun k he => ?_⟩
    cases he
    exact ⟨hl4, 4, Ans.declEq hF hp hor (Ans.name hF hl1 (by simp) hk (Ans.isAt hF hl2 (by simp) hat (Ans.place hF hl3' (by simp) hpl (Ans.nosign hF 61 (.inr (.inl rfl)) hl4' (by simp) heq))))⟩
  obtain ⟨e5, hl5⟩ := takeY ht (p := { p with next := p.next + 1 + 1 + 1 + 1 }) (l := [61]) (by decide) hl4 heq
  have hl5' : p.next + 5 < ts.length := hl5
  rw [e5]
  simp only
  have hx := exprA ht hF 16 0 rfl
  have hcome : ∀ n r, Ans ts n (69 :: [59, 80]) 0 (p.next + 5) r → ∃ n', Ans ts n' [80] 0 p.next r := fun n r hA =>
    ⟨n + 1 + 1 + 1 + 1 + 1, Ans.declEq hF hp hor (Ans.name hF hl1 (by simp) hk (Ans.isAt hF hl2 (by simp) hat (Ans.place hF hl3' (by simp) hpl (Ans.sign hF 61 (.inr rfl) hl4' (by simp) heq hA))))⟩
  generalize hQ : ({ next := p.next + 1 + 1 + 1 + 1 + 1, depth := p.depth, delays := p.delays, decls := p.decls, nodes := p.nodes } : PS) = q
  have q1 : q.next = p.next + 5 := by rw [← hQ]
  have q2 : q.depth = 0 := by rw [← hQ]; exact hdep
  have q3 : q.delays = 0 := by rw [← hQ]; exact hdl
  have q4 : q.nodes = p.nodes := by rw [← hQ]
  have q5 : q.decls = p.decls := by rw [← hQ]
  cases he : exprF ts 16 q with
  | error k =>
    simp only
    obtain ⟨hkl, hA⟩ := hx.bad q k (by rw [q1]; exact hl5') he q2
    refine ⟨fun p' he => (by cases he), fun k he => ?_⟩
    cases he
    obtain ⟨n, hn⟩ := hA [59, 80] (by simp)
    rw [q1] at hn
    exact ⟨hkl, hcome n _ hn⟩
  | ok v =>
    obtain ⟨r0, p4⟩ := v
    simp only
    obtain ⟨t, hs, hl, hr, hp4, hA⟩ := hx.ok q r0 p4 (by rw [q1]; exact hl5') he q2
    rw [q1] at hs hl hA
    have n4 : p4.next = p.next + 5 + t.len := by rw [hp4, q1]
    by_cases hs9 : lAt ts (p.next + 5 + t.len) = [59]
    · obtain ⟨e9, hl9⟩ := takeY ht (p := p4.declare ⟨kind, 0, (tkAt ts (p.next + 1)).text, (tkAt ts (p.next + 1)).pos, valOf (tkAt ts (p.next + 3)).l, r0, p4.nodes.length⟩) (l := [59]) (by decide) (by show p4.next < _; rw [n4]; exact hl) (by show lAt ts p4.next = _; rw [n4]; exact hs9)
      have hl9' : p4.next + 1 < ts.length := hl9
      rw [n4] at hl9'
      rw [e9]
      refine ⟨fun p' he => ?_, fun k he => (by cases he)⟩
      cases he
      refine ⟨⟨kind, p.next, t⟩, rfl, by simp [Dl.len, hk0]; omega, .inr ⟨h, hk, hat, hpl, heq, hs, hs9⟩, ?_, fun n r hA9 => ?_⟩
      · unfold afterD PS.declare
        rw [sameSort_eqs _ _ hk0]
        simp only [Dl.len, if_neg hk0, n4, Nat.zero_add]
        rw [hp4, q2, q3, q4, q5, q1, hr, q4, ← hdep]
        simp only [dcEq, List.length_append, flat_len]
        congr 1
        · omega
        · omega
      · obtain ⟨n2, hn2⟩ := hA [59, 80] (n + 1) r (by simp) (Ans.sign hF 59 (.inl rfl) hl (by simp) hs9 (by
          have e : p.next + 5 + t.len + 1 = p.next + (⟨kind, p.next, t⟩ : Dl).len := by simp [Dl.len, hk0]; omega
          rw [e]; exact hA9))
        exact hcome n2 r hn2
    · rw [takeN (p := p4.declare ⟨kind, 0, (tkAt ts (p.next + 1)).text, (tkAt ts (p.next + 1)).pos, valOf (tkAt ts (p.next + 3)).l, r0, p4.nodes.length⟩) (l := [59]) (by show lAt ts p4.next ≠ _; rw [n4]; exact hs9)]
      refine ⟨fun p' he => (by cases he), fun k he => ?_⟩
      have ek : k = p.next + 5 + t.len := by rw [← n4]; cases he; rfl
      subst ek
      obtain ⟨n2, hn2⟩ := hA [59, 80] 0 ((tkAt ts (p.next + 5 + t.len)).pos : Int) (by simp) (Ans.nosign hF 59 (.inl rfl) hl (by simp) hs9)
      exact ⟨hl, hcome n2 _ hn2⟩

theorem declarationA {p : PS} (hp : p.next < ts.length) (hdep : p.depth = 0) (hdl : p.delays = 0) (h0 : (tkAt ts p.next).kind ≠ 0) :
    (∀ p', declarationF ts p = .ok p' → ∃ x : Dl, x.i = p.next ∧ p.next + x.len < ts.length ∧ DlOk ts x ∧ p' = afterD ts p x ∧ ∀ n r, Ans ts n [80] 0 (p.next + x.len) r → ∃ n', Ans ts n' [80] 0 p.next r) ∧
    (∀ k, declarationF ts p = .error k → k < ts.length ∧ ∃ n, Ans ts n [80] 0 p.next ((tkAt ts k).pos : Int)) := by
  unfold declarationF
  by_cases h1 : lAt ts p.next = kIn
  · rw [if_pos (show (p.hd ts).l = kIn from h1)]; exact inputA ht hF hp h1
  rw [if_neg (show ¬ (p.hd ts).l = kIn from h1)]
  by_cases h2 : lAt ts p.next = kInt
  · rw [if_pos (show (p.hd ts).l = kInt from h2)]; exact equationA ht hF 1 hp hdep hdl (.inl ⟨rfl, h2⟩)
  rw [if_neg (show ¬ (p.hd ts).l = kInt from h2)]
  by_cases h3 : lAt ts p.next = kBool
  · rw [if_pos (show (p.hd ts).l = kBool from h3)]; exact equationA ht hF 2 hp hdep hdl (.inr ⟨rfl, h3⟩)
  rw [if_neg (show ¬ (p.hd ts).l = kBool from h3)]
  refine ⟨fun p' he => (by cases he), fun k he => ?_⟩
  cases he
  exact ⟨hp, 0, Ans.nodecl hF hp h0 h1 h2 h3⟩

theorem declsA : ∀ f (p : PS), ts.length ≤ f + p.next → p.next < ts.length → p.depth = 0 → p.delays = 0 →
    (∀ p', declsF ts f p = .ok p' → ∃ L, Spell ts L p.next ∧ p'.decls = p.decls ++ declsD ts L p.nodes.length (insN p.decls) (eqsF p.decls).length ∧ p'.nodes = p.nodes ++ nodesD ts L p.nodes.length ∧ ∃ n, Ans ts n [80] 0 p.next (-1)) ∧
    (∀ k, declsF ts f p = .error k → k < ts.length ∧ ∃ n, Ans ts n [80] 0 p.next ((tkAt ts k).pos : Int)) := by
  intro f
  induction f with
  | zero => intro p h1 h2; omega
  | succ f ih =>
    intro p hf hp hdep hdl
    unfold declsF
    by_cases h0 : (tkAt ts p.next).kind = 0
    · rw [if_pos (show (p.hd ts).kind = 0 from h0)]
      refine ⟨fun p' he => ?_, fun k he => (by cases he)⟩
      cases he
      exact ⟨[], ⟨hp, h0⟩, by simp [declsD], by simp [nodesD], 0, Ans.done 0 [] 0 p.next hp (by simp) h0⟩
    · rw [if_neg (show ¬ (p.hd ts).kind = 0 from h0)]
      obtain ⟨hok, hbad⟩ := declarationA ht hF hp hdep hdl h0
      cases he : declarationF ts p with
      | error k =>
        refine ⟨fun p' he => (by cases he), fun k' he' => ?_⟩
        cases he'
        exact hbad k he
      | ok q =>
        obtain ⟨x, hxi, hxl, hxo, hq, hA⟩ := hok q he
        simp only
        have hlen : 0 < x.len := by unfold Dl.len; split <;> omega
        have qn : q.next = p.next + x.len := by rw [hq]; rfl
        obtain ⟨ok2, bad2⟩ := ih q (by rw [qn]; omega) (by rw [qn]; exact hxl) (by rw [hq]; exact hdep) (by rw [hq]; exact hdl)
        rw [qn] at ok2 bad2
        refine ⟨fun p' he' => ?_, fun k he' => ?_⟩
        · obtain ⟨L, hL, hd, hn, n, hAn⟩ := ok2 p' he'
          obtain ⟨n2, hn2⟩ := hA n _ hAn
          refine ⟨x :: L, ⟨hxi, hxl, hxo, hL⟩, ?_, ?_, n2, hn2⟩
          · rw [hd, hq]
            simp only [afterD, declsD]
            by_cases hk : x.kind = 0
            · simp only [hk, if_true]
              simp [insN, eqsF, dcIn, List.filter_append]
            · simp only [if_neg hk]
              have hk2 : (x.kind == 0) = false := by simpa using hk
              simp [insN, eqsF, dcEq, List.filter_append, hk, flat_len]
          · rw [hn, hq]
            simp only [afterD, nodesD]
            by_cases hk : x.kind = 0
            · simp only [hk, if_true]; simp
            · simp only [if_neg hk]; simp [flat_len]
        · obtain ⟨hk, n, hAn⟩ := bad2 k he'
          obtain ⟨n2, hn2⟩ := hA n _ hAn
          exact ⟨hk, n2, hn2⟩

end

/-- the text's parts. -/
theorem parseA (s : ByteArray) (hs : s.size ≤ 1500) :
    (∀ p, parseF s = .ok p → ∃ L, Spell (toks s) L 0 ∧ p.decls = declsD (toks s) L 0 0 0 ∧ p.nodes = nodesD (toks s) L 0 ∧ ∃ n, Ans (toks s) n [80] 0 0 (-1)) ∧
    (∀ k, parseF s = .error k → k < (toks s).length ∧ ∃ n, Ans (toks s) n [80] 0 0 ((tkAt (toks s) k).pos : Int)) := by
  have ht := toks_ok s hs
  have h := declsA ht (toks_F s) (toks s).length pZero (by simp) ht.pos rfl rfl
  refine ⟨fun p hp => ?_, fun k hk => h.2 k hk⟩
  obtain ⟨L, h1, h2, h3, h4⟩ := h.1 p hp
  exact ⟨L, h1, by rw [h2]; rfl, by rw [h3]; rfl, h4⟩

end Go.Proofs.YtmndgoapkmhglaaDoor

/- Plain mathematics: what the document's own reader looks up in the tokens. -/
namespace Go.Proofs.YtmndgoapkmhglaaDoor

def dstep (ts : List Tk) (k : Nat) (d : Int) : Int := if lAt ts k = [40] then d + 1 else if lAt ts k = [41] then d - 1 else d
def bhF (ts : List Tk) : Nat → Nat → Int → Nat
  | 0, _, _ => ts.length
  | f + 1, k, d => if dstep ts k d ≤ 0 then k + 1 else bhF ts f (k + 1) (dstep ts k d)
/-- the token behind the expression that begins at i. -/
def behindF (ts : List Tk) (i : Nat) : Nat := bhF ts (ts.length - i) i 0

theorem bhF_le (ts : List Tk) : ∀ f k d, f + k = ts.length → bhF ts f k d ≤ ts.length := by
  intro f
  induction f with
  | zero => intro k d _; exact Nat.le_refl _
  | succ f ih =>
    intro k d h
    unfold bhF
    split
    · omega
    · exact ih _ _ (by omega)
theorem behindF_le (ts : List Tk) (i : Nat) (h : i ≤ ts.length) : behindF ts i ≤ ts.length := bhF_le ts _ _ _ (by omega)

theorem bhF_gt (ts : List Tk) : ∀ f k d, f + k = ts.length → k < ts.length → k < bhF ts f k d := by
  intro f
  induction f with
  | zero => intro k d h hk; exact hk
  | succ f ih =>
    intro k d h hk
    unfold bhF
    split
    · omega
    · by_cases h1 : k + 1 < ts.length
      · have := ih (k + 1) (dstep ts k d) (by omega) h1; omega
      · have : f = 0 := by omega
        subst this
        exact hk
theorem behindF_gt (ts : List Tk) (i : Nat) (h : i < ts.length) : i < behindF ts i := bhF_gt ts _ _ _ (by omega) h

section
variable {ts : List Tk} (hF : ∀ i, TkF (tkAt ts i))
include hF

omit hF in
/-- no bracket: the count stays. -/
theorem bh_pass {f k : Nat} {d : Int} (h1 : lAt ts k ≠ [40]) (h2 : lAt ts k ≠ [41]) (hd : 0 < d) : bhF ts (f + 1) k d = bhF ts f (k + 1) d := by
  have : dstep ts k d = d := by unfold dstep; rw [if_neg h1, if_neg h2]
  simp only [bhF, this]
  rw [if_neg (by omega)]
omit hF in
theorem bh_open {f k : Nat} {d : Int} (h1 : lAt ts k = [40]) (hd : 0 ≤ d) : bhF ts (f + 1) k d = bhF ts f (k + 1) (d + 1) := by
  have : dstep ts k d = d + 1 := by unfold dstep; rw [if_pos h1]
  simp only [bhF, this]
  rw [if_neg (by omega)]
omit hF in
theorem bh_close {f k : Nat} {d : Int} (h1 : lAt ts k = [41]) (hd : 0 < d) : bhF ts (f + 1) k (d + 1) = bhF ts f (k + 1) d := by
  have : dstep ts k (d + 1) = d := by unfold dstep; rw [if_neg (by rw [h1]; decide), if_pos h1]; omega
  simp only [bhF, this]
  rw [if_neg (by omega)]

/-- within brackets an expression is passed over; its brackets, but for the last. -/
theorem bh_over : ∀ (t : Ast) (i f : Nat) (d : Int), Sp ts t i → 0 < d → bhF ts (f + t.len) i d = bhF ts f (i + t.len) d := by
  intro t
  induction t with
  | leaf =>
    intro i f d hs hd
    obtain ⟨_, _, a, b⟩ := leaf_ne2 hF hs.1
    exact bh_pass a b hd
  | neg a iha =>
    intro i f d hs hd
    obtain ⟨h1, h2, h3, h4⟩ := hs
    have e : f + (Ast.neg a).len = (f + 1) + a.len + 1 + 1 := by simp [Ast.len]; omega
    rw [e, bh_open h1 (by omega), bh_pass (by rw [h2]; decide) (by rw [h2]; decide) (by omega), iha (i + 1 + 1) (f + 1) _ h3 (by omega), bh_close (by rw [← h4]) hd]
    congr 1; simp [Ast.len]; omega
  | ite a b c iha ihb ihc =>
    intro i f d hs hd
    obtain ⟨h1, h2, h3, h4, h5, h6⟩ := hs
    have e : f + (Ast.ite a b c).len = (f + 1) + c.len + b.len + a.len + 1 + 1 := by simp [Ast.len]; omega
    rw [e, bh_open h1 (by omega), bh_pass (by rw [h2]; decide) (by rw [h2]; decide) (by omega), iha (i + 1 + 1) _ _ h3 (by omega), ihb (i + 1 + 1 + a.len) _ _ h4 (by omega), ihc (i + 1 + 1 + a.len + b.len) _ _ h5 (by omega), bh_close (by rw [← h6]) hd]
    congr 1; simp [Ast.len]; omega
  | dly b ihb =>
    intro i f d hs hd
    obtain ⟨h1, h2, h3, h4, h5⟩ := hs
    obtain ⟨_, _, x, y⟩ := leaf_ne2 hF (i := i + 1) (by unfold leafT; rw [h2]; rfl)
    have e : f + (Ast.dly b).len = (f + 1) + b.len + 1 + 1 + 1 := by simp [Ast.len]; omega
    rw [e, bh_open h1 (by omega), bh_pass x y (by omega), bh_pass (by rw [h3]; decide) (by rw [h3]; decide) (by omega), ihb (i + 1 + 1 + 1) (f + 1) _ h4 (by omega), bh_close (by rw [← h5]) hd]
    congr 1; simp [Ast.len]; omega
  | bin a b iha ihb =>
    intro i f d hs hd
    obtain ⟨h1, h2, h3, h4, h5⟩ := hs
    obtain ⟨x, y, _, _⟩ := op_ne h3
    have e : f + (Ast.bin a b).len = (f + 1) + b.len + 1 + a.len + 1 := by simp [Ast.len]; omega
    have e2 : i + 1 + a.len + 1 = i + 2 + a.len := by omega
    rw [e, bh_open h1 (by omega), iha (i + 1) _ _ h2 (by omega), bh_pass x y (by omega), e2, ihb (i + 2 + a.len) (f + 1) _ h4 (by omega), bh_close (by rw [← h5]) hd]
    congr 1; simp [Ast.len]; omega

/-- an expression ends where its last token does. -/
theorem behind_sp (t : Ast) (i : Nat) (hs : Sp ts t i) (hi : i + t.len ≤ ts.length) : behindF ts i = i + t.len := by
  have hlast : ∀ f k, lAt ts k = [41] → bhF ts (f + 1) k 1 = k + 1 := by
    intro f k h
    have : dstep ts k 1 = 0 := by unfold dstep; rw [if_neg (by rw [h]; decide), if_pos h]; omega
    simp only [bhF, this]
    rw [if_pos (by omega)]
  unfold behindF
  cases t with
  | leaf =>
    obtain ⟨_, _, a, b⟩ := leaf_ne2 hF hs.1
    have hl : (Ast.leaf).len = 1 := rfl
    rw [hl] at hi ⊢
    have e : ts.length - i = (ts.length - i - 1) + 1 := by omega
    have : dstep ts i 0 = 0 := by unfold dstep; rw [if_neg a, if_neg b]
    rw [e]
    simp only [bhF, this]
    rw [if_pos (by omega)]
  | neg a =>
    obtain ⟨h1, h2, h3, h4⟩ := hs
    have hl : (Ast.neg a).len = a.len + 3 := rfl
    rw [hl] at hi ⊢
    have e : ts.length - i = (ts.length - i - (a.len + 3)) + 1 + a.len + 1 + 1 := by omega
    rw [e, bh_open h1 (by omega), bh_pass (by rw [h2]; decide) (by rw [h2]; decide) (by omega), bh_over hF a (i + 1 + 1) _ _ h3 (by omega)]
    have := hlast (ts.length - i - (a.len + 3)) (i + 1 + 1 + a.len) h4
    rw [show (0 : Int) + 1 = 1 by omega, this]; omega
  | ite a b c =>
    obtain ⟨h1, h2, h3, h4, h5, h6⟩ := hs
    have hl : (Ast.ite a b c).len = a.len + b.len + c.len + 3 := rfl
    rw [hl] at hi ⊢
    have e : ts.length - i = (ts.length - i - (a.len + b.len + c.len + 3)) + 1 + c.len + b.len + a.len + 1 + 1 := by omega
    rw [e, bh_open h1 (by omega), bh_pass (by rw [h2]; decide) (by rw [h2]; decide) (by omega), bh_over hF a (i + 1 + 1) _ _ h3 (by omega), bh_over hF b (i + 1 + 1 + a.len) _ _ h4 (by omega), bh_over hF c (i + 1 + 1 + a.len + b.len) _ _ h5 (by omega)]
    have := hlast (ts.length - i - (a.len + b.len + c.len + 3)) (i + 1 + 1 + a.len + b.len + c.len) h6
    rw [show (0 : Int) + 1 = 1 by omega, this]; omega
  | dly b =>
    obtain ⟨h1, h2, h3, h4, h5⟩ := hs
    obtain ⟨_, _, x, y⟩ := leaf_ne2 hF (i := i + 1) (by unfold leafT; rw [h2]; rfl)
    have hl : (Ast.dly b).len = b.len + 4 := rfl
    rw [hl] at hi ⊢
    have e : ts.length - i = (ts.length - i - (b.len + 4)) + 1 + b.len + 1 + 1 + 1 := by omega
    rw [e, bh_open h1 (by omega), bh_pass x y (by omega), bh_pass (by rw [h3]; decide) (by rw [h3]; decide) (by omega), bh_over hF b (i + 1 + 1 + 1) _ _ h4 (by omega)]
    have := hlast (ts.length - i - (b.len + 4)) (i + 1 + 1 + 1 + b.len) h5
    rw [show (0 : Int) + 1 = 1 by omega, this]; omega
  | bin a b =>
    obtain ⟨h1, h2, h3, h4, h5⟩ := hs
    obtain ⟨x, y, _, _⟩ := op_ne h3
    have hl : (Ast.bin a b).len = a.len + b.len + 3 := rfl
    rw [hl] at hi ⊢
    have e : ts.length - i = (ts.length - i - (a.len + b.len + 3)) + 1 + b.len + 1 + a.len + 1 := by omega
    have e2 : i + 1 + a.len + 1 = i + 2 + a.len := by omega
    rw [e, bh_open h1 (by omega), bh_over hF a (i + 1) _ _ h2 (by omega), bh_pass x y (by omega), e2, bh_over hF b (i + 2 + a.len) _ _ h4 (by omega)]
    have := hlast (ts.length - i - (a.len + b.len + 3)) (i + 2 + a.len + b.len) h5
    rw [show (0 : Int) + 1 = 1 by omega, this]; omega

end

/-- the names of an expression: where each stands, and whether behind a delay. -/
def nmD (ts : List Tk) : Ast → Nat → Bool → List (Nat × Bool)
  | .leaf, i, dl => if (tkAt ts i).kind = 1 then [(i, dl)] else []
  | .neg a, i, dl => nmD ts a (i + 2) dl
  | .ite a b c, i, dl => nmD ts a (i + 2) dl ++ (nmD ts b (i + 2 + a.len) dl ++ nmD ts c (i + 2 + a.len + b.len) dl)
  | .dly b, i, _ => nmD ts b (i + 3) true
  | .bin a b, i, dl => nmD ts a (i + 1) dl ++ nmD ts b (i + 2 + a.len) dl

def isNm (ts : List Tk) (k : Nat) : Bool := (tkAt ts k).kind == 1

section
variable {ts : List Tk} (hF : ∀ i, TkF (tkAt ts i))
include hF

theorem kw_nm {i : Nat} (h : kwL.contains (lAt ts i) = true) : isNm ts i = false := by
  unfold isNm; rw [beq_eq_false_iff_ne]; exact (hF i).not1 h
theorem lit_nm {i : Nat} (h : litT (tkAt ts i) = true) : isNm ts i = false := by
  unfold litT at h
  simp only [Bool.or_eq_true, beq_iff_eq] at h
  rcases h with (h | h) | h
  · unfold isNm; rw [h]; rfl
  · exact kw_nm hF (by show kwL.contains (tkAt ts i).l = true; rw [h]; decide)
  · exact kw_nm hF (by show kwL.contains (tkAt ts i).l = true; rw [h]; decide)
omit hF in
theorem op_kw {l : List UInt8} (h : (opOf l).isSome = true) : kwL.contains l = true := by
  unfold opOf at h
  split at h; · rename_i e; rw [e]; decide
  split at h; · rename_i e; rw [e]; decide
  split at h; · rename_i e; rw [e]; decide
  split at h; · rename_i e; rw [e]; decide
  split at h; · rename_i e; rw [e]; decide
  split at h; · rename_i e; rw [e]; decide
  split at h; · rename_i e; rw [e]; decide
  split at h; · rename_i e; rw [e]; decide
  · cases h

omit hF in
theorem range_split (i a b : Nat) : List.range' i (a + b) = List.range' i a ++ List.range' (i + a) b := by
  rw [← List.range'_append_1]

/-- the names are the tokens that are names. -/
theorem nm_filter : ∀ (t : Ast) (i : Nat) (dl : Bool), Sp ts t i → (List.range' i t.len).filter (isNm ts) = (nmD ts t i dl).map Prod.fst := by
  have one : ∀ i, isNm ts i = false → (List.range' i 1).filter (isNm ts) = [] := by
    intro i h; simp [List.range', h]
  intro t
  induction t with
  | leaf =>
    intro i dl hs
    simp only [nmD, Ast.len, List.range']
    by_cases h : (tkAt ts i).kind = 1
    · rw [if_pos h]; simp [isNm, h]
    · rw [if_neg h]; simp [isNm, h]
  | neg a iha =>
    intro i dl hs
    obtain ⟨h1, h2, h3, h4⟩ := hs
    have e : (Ast.neg a).len = 1 + (1 + (a.len + 1)) := by simp [Ast.len]; omega
    rw [e, range_split, range_split, range_split, List.filter_append, List.filter_append, List.filter_append, one _ (kw_nm hF (by rw [h1]; decide)), one _ (kw_nm hF (by rw [h2]; decide)), show i + 1 + 1 = i + 2 by omega, iha (i + 2) dl h3, one _ (kw_nm hF (by rw [h4]; decide))]
    simp [nmD]
  | ite a b c iha ihb ihc =>
    intro i dl hs
    obtain ⟨h1, h2, h3, h4, h5, h6⟩ := hs
    have e : (Ast.ite a b c).len = 1 + (1 + (a.len + (b.len + (c.len + 1)))) := by simp [Ast.len]; omega
    rw [e, range_split, range_split, range_split, range_split, range_split, List.filter_append, List.filter_append, List.filter_append, List.filter_append, List.filter_append, one _ (kw_nm hF (by rw [h1]; decide)), one _ (kw_nm hF (by rw [h2]; decide)), show i + 1 + 1 = i + 2 by omega, iha (i + 2) dl h3, ihb _ dl h4, ihc _ dl h5, one _ (kw_nm hF (by rw [h6]; decide))]
    simp [nmD]
  | dly b ihb =>
    intro i dl hs
    obtain ⟨h1, h2, h3, h4, h5⟩ := hs
    have e : (Ast.dly b).len = 1 + (1 + (1 + (b.len + 1))) := by simp [Ast.len]; omega
    rw [e, range_split, range_split, range_split, range_split, List.filter_append, List.filter_append, List.filter_append, List.filter_append, one _ (kw_nm hF (by rw [h1]; decide)), one _ (lit_nm hF h2), show i + 1 + 1 = i + 2 by omega, one _ (kw_nm hF (by rw [h3]; decide)), show i + 2 + 1 = i + 3 by omega, ihb (i + 3) true h4, one _ (kw_nm hF (by rw [h5]; decide))]
    simp [nmD]
  | bin a b iha ihb =>
    intro i dl hs
    obtain ⟨h1, h2, h3, h4, h5⟩ := hs
    have e : (Ast.bin a b).len = 1 + (a.len + (1 + (b.len + 1))) := by simp [Ast.len]; omega
    rw [e, range_split, range_split, range_split, range_split, List.filter_append, List.filter_append, List.filter_append, List.filter_append, one _ (kw_nm hF (by rw [h1]; decide)), iha (i + 1) dl h2, one _ (kw_nm hF (op_kw h3)), show i + 1 + a.len + 1 = i + 2 + a.len by omega, ihb _ dl h4, one _ (kw_nm hF (by rw [h5]; decide))]
    simp [nmD]

/-- a name's node. -/
def nmNd (ts : List Tk) (x : Nat × Bool) : Nd := { mkN ts x.1 (if x.2 then 1 else 0) { ndZero with kind := 2, name := (tkAt ts x.1).text } with delayed := x.2 }

omit hF in
theorem mkN_kind (i dl : Nat) (n : Nd) : (mkN ts i dl n).kind = n.kind := rfl

omit hF in
theorem leafN0_name {t : Tk} (h : TkF t) (hk : t.kind = 1) : leafN0 t = { ndZero with kind := 2, name := t.text } := by
  have hn : ∀ l, kwL.contains l = true → t.l ≠ l := fun l hl e => by have := h.k1 hk; rw [e, hl] at this; cases this
  unfold leafN0
  rw [if_neg (hn _ (by decide)), if_neg (hn _ (by decide)), if_neg (by rw [hk]; decide)]
omit hF in
theorem leafN0_no {t : Tk} (h : leafT t = true) (hk : t.kind ≠ 1) : (leafN0 t).kind ≠ 2 := by
  unfold leafN0
  split; · simp
  split; · simp
  split; · simp
  · rename_i h1 h2 h3
    unfold leafT litT at h
    simp [h1, h2, h3, hk] at h

theorem flat_names : ∀ (t : Ast) (i dl off : Nat), Sp ts t i → (flat ts t i dl off).filter (fun n => n.kind == 2) = (nmD ts t i (decide (0 < dl))).map (nmNd ts) := by
  intro t
  induction t with
  | leaf =>
    intro i dl off hs
    simp only [flat, nmD]
    by_cases h : (tkAt ts i).kind = 1
    · rw [if_pos h, leafN0_name (hF i) h]
      simp [mkN, nmNd]
    · rw [if_neg h]
      have := leafN0_no hs.1 h
      simp [mkN, this]
  | neg a iha =>
    intro i dl off hs
    obtain ⟨h1, h2, h3, h4⟩ := hs
    simp only [flat, nmD]
    rw [List.filter_cons_of_neg (by simp [mkN]), iha _ _ _ h3]
  | ite a b c iha ihb ihc =>
    intro i dl off hs
    obtain ⟨h1, h2, h3, h4, h5, h6⟩ := hs
    simp only [flat, nmD]
    rw [List.filter_cons_of_neg (by simp [mkN]), List.filter_append, List.filter_append, iha _ _ _ h3, ihb _ _ _ h4, ihc _ _ _ h5, List.map_append, List.map_append]
  | dly b ihb =>
    intro i dl off hs
    obtain ⟨h1, h2, h3, h4, h5⟩ := hs
    have hk : (tkAt ts (i + 1)).kind ≠ 1 := by have := lit_nm hF h2; unfold isNm at this; simpa using this
    have := leafN0_no (t := tkAt ts (i + 1)) (by unfold leafT; rw [h2]; rfl) hk
    simp only [flat, nmD]
    rw [List.filter_cons_of_neg (by simp [mkN]), List.filter_cons_of_neg (by simp [mkN, this]), ihb _ _ _ h4, show decide (0 < dl + 1) = true by simp]
  | bin a b iha ihb =>
    intro i dl off hs
    obtain ⟨h1, h2, h3, h4, h5⟩ := hs
    simp only [flat, nmD]
    rw [List.filter_cons_of_neg (by simp [mkN]), List.filter_append, iha _ _ _ h2, ihb _ _ _ h4, List.map_append]

end

end Go.Proofs.YtmndgoapkmhglaaDoor
