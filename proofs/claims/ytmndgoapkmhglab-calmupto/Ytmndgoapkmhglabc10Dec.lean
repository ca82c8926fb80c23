import Derived.Lib.ItoaNum
import Derived.Test.Ytmndgoapkmhglabc00Base
import Derived.Test.Ytmndgoapkmhglabc09RePure
namespace Go.Proofs.Ytmndgoapkmhglab
section
variable {ts : List Tk} (ht : TsOk ts) (hF : ∀ i, TkF (tkAt ts i))
include ht hF
omit hF in
theorem takeY {p : PS} {l : List UInt8} (hl : l ≠ []) (hp : p.next < ts.length) (h : lAt ts p.next = l) : p.take ts l = .ok { p with next := p.next + 1 } ∧ p.next + 1 < ts.length := by
  obtain ⟨ea, hl1⟩ := adv_kw ht (p := p) hp (by rw [h]; exact hl)
  unfold PS.take
  rw [if_pos (show (p.hd ts).l = l from h), ea]
  exact ⟨rfl, hl1⟩
omit ht hF in
theorem takeN {p : PS} {l : List UInt8} (h : lAt ts p.next ≠ l) : p.take ts l = .error p.next := by
  unfold PS.take
  rw [if_neg (show ¬ (p.hd ts).l = l from h)]
def afterD (ts : List Tk) (p : PS) (x : Dl) : PS :=
  { p with next := p.next + x.len, decls := p.decls ++ [if x.kind = 0 then dcIn ts x (insN p.decls) else dcEq ts x (eqsF p.decls).length p.nodes.length], nodes := p.nodes ++ (if x.kind = 0 then [] else flat ts x.t (x.i + 5) 0 p.nodes.length) }
theorem inputA {p : PS} (hp : p.next < ts.length) (h : lAt ts p.next = kIn) :
    (∀ p', inputF ts p = .ok p' → ∃ x : Dl, x.i = p.next ∧ p.next + x.len < ts.length ∧ DlOk ts x ∧ p' = afterD ts p x ∧ ∀ n r, Ans ts n [80] 0 (p.next + x.len) r → ∃ n', Ans ts n' [80] 0 p.next r) ∧
    (∀ k, inputF ts p = .error k → k < ts.length ∧ ∃ n, Ans ts n [80] 0 p.next ((tkAt ts k).pos : Int)) := by
  obtain ⟨ea, hl1⟩ := adv_kw ht (p := p) hp (by rw [h]; decide)
  unfold inputF
  rw [ea]
  have hh : PS.hd ts { p with next := p.next + 1 } = tkAt ts (p.next + 1) := rfl
  rw [hh]
  by_cases hk : (tkAt ts (p.next + 1)).kind = 1
  · rw [if_pos hk]
    have hne : lAt ts (p.next + 1) ≠ [] := (hF _).pos (by rw [hk]; decide)
    obtain ⟨eb, hl2⟩ := adv_kw ht (p := { p with next := p.next + 1 }) hl1 hne
    rw [eb]
    by_cases hs : lAt ts (p.next + 2) = [59]
    · obtain ⟨e3, hl3⟩ := takeY ht (p := PS.declare { p with next := p.next + 1 + 1 } ⟨0, 0, (tkAt ts (p.next + 1)).text, (tkAt ts (p.next + 1)).pos, 0, 0, 0⟩) (l := [59]) (by decide) hl2 hs
      have hl3' : p.next + 1 + 1 + 1 < ts.length := hl3
      rw [e3]
      refine ⟨fun p' he => ?_, fun k he => (by cases he)⟩
      cases he
      refine ⟨⟨0, p.next, .leaf⟩, rfl, hl3', .inl ⟨rfl, h, hk, hs⟩, ?_, fun n r hA => ⟨n + 1 + 1 + 1, ?_⟩⟩
      · unfold afterD PS.declare
        simp only [Dl.len, if_true, List.append_nil]
        congr 1
        rw [sameSort_ins _ _ rfl, Nat.zero_add]
        rfl
      · exact Ans.declIn hF hp h (Ans.name hF hl1 (by simp) hk (Ans.sign hF 59 (.inl rfl) hl2 (by simp) hs hA))
    · rw [takeN (p := PS.declare { p with next := p.next + 1 + 1 } ⟨0, 0, (tkAt ts (p.next + 1)).text, (tkAt ts (p.next + 1)).pos, 0, 0, 0⟩) (l := [59]) hs]
      refine ⟨fun p' he => (by cases he), fun k he => ?_⟩
      cases he
      exact ⟨hl2, 2, Ans.declIn hF hp h (Ans.name hF hl1 (by simp) hk (Ans.nosign hF 59 (.inl rfl) hl2 (by simp) hs))⟩
  · rw [if_neg hk]
    refine ⟨fun p' he => (by cases he), fun k he => ?_⟩
    cases he
    exact ⟨hl1, 1, Ans.declIn hF hp h (Ans.noname hl1 (by simp) hk)⟩
theorem equationA {p : PS} (kind : Nat) (hp : p.next < ts.length) (hdep : p.depth = 0) (hdl : p.delays = 0) (h : (kind = 1 ∧ lAt ts p.next = kInt) ∨ (kind = 2 ∧ lAt ts p.next = kBool)) :
    (∀ p', equationF ts kind p = .ok p' → ∃ x : Dl, x.i = p.next ∧ p.next + x.len < ts.length ∧ DlOk ts x ∧ p' = afterD ts p x ∧ ∀ n r, Ans ts n [80] 0 (p.next + x.len) r → ∃ n', Ans ts n' [80] 0 p.next r) ∧
    (∀ k, equationF ts kind p = .error k → k < ts.length ∧ ∃ n, Ans ts n [80] 0 p.next ((tkAt ts k).pos : Int)) := by
  have hor : lAt ts p.next = kInt ∨ lAt ts p.next = kBool := h.elim (fun h => .inl h.2) (fun h => .inr h.2)
  have hk0 : kind ≠ 0 := by omega
  obtain ⟨ea, hl1⟩ := adv_kw ht (p := p) hp (by rcases hor with h | h <;> rw [h] <;> decide)
  unfold equationF
  rw [ea]
  have hh : PS.hd ts { p with next := p.next + 1 } = tkAt ts (p.next + 1) := rfl
  rw [hh]
  by_cases hk : (tkAt ts (p.next + 1)).kind = 1
  case neg =>
    rw [if_neg hk]
    refine ⟨fun p' he => (by cases he), fun k he => ?_⟩
    cases he
    exact ⟨hl1, 1, Ans.declEq hF hp hor (Ans.noname hl1 (by simp) hk)⟩
  rw [if_pos hk]
  have hne : lAt ts (p.next + 1) ≠ [] := (hF _).pos (by rw [hk]; decide)
  obtain ⟨eb, hl2⟩ := adv_kw ht (p := { p with next := p.next + 1 }) hl1 hne
  have hl2' : p.next + 2 < ts.length := hl2
  rw [eb]
  by_cases hat : lAt ts (p.next + 2) = kAt
  case neg =>
    rw [takeN (p := { p with next := p.next + 1 + 1 }) (l := kAt) hat]
    refine ⟨fun p' he => (by cases he), fun k he => ?_⟩
    cases he
    exact ⟨hl2, 2, Ans.declEq hF hp hor (Ans.name hF hl1 (by simp) hk (Ans.noAt hF hl2 (by simp) hat))⟩
  obtain ⟨e3, hl3⟩ := takeY ht (p := { p with next := p.next + 1 + 1 }) (l := kAt) (by decide) hl2 hat
  have hl3' : p.next + 3 < ts.length := hl3
  rw [e3]
  simp only
  unfold placeF
  have hh3 : PS.hd ts { p with next := p.next + 1 + 1 + 1 } = tkAt ts (p.next + 3) := rfl
  rw [hh3]
  by_cases hpl : (tkAt ts (p.next + 3)).kind = 3 ∧ valOf (tkAt ts (p.next + 3)).l < 4
  case neg =>
    rw [if_neg hpl]
    refine ⟨fun p' he => (by cases he), fun k he => ?_⟩
    cases he
    exact ⟨hl3, 3, Ans.declEq hF hp hor (Ans.name hF hl1 (by simp) hk (Ans.isAt hF hl2 (by simp) hat (Ans.noplace hl3' (by simp) hpl)))⟩
  rw [if_pos hpl]
  have hne3 : lAt ts (p.next + 3) ≠ [] := (hF _).pos (by rw [hpl.1]; decide)
  obtain ⟨e4, hl4⟩ := adv_kw ht (p := { p with next := p.next + 1 + 1 + 1 }) hl3 hne3
  have hl4' : p.next + 4 < ts.length := hl4
  rw [e4]
  simp only
  by_cases heq : lAt ts (p.next + 4) = [61]
  case neg =>
    rw [takeN (p := { p with next := p.next + 1 + 1 + 1 + 1 }) (l := [61]) heq]
    refine ⟨fun p' he => (by cases he), fun k he => ?_⟩
    cases he
    exact ⟨hl4, 4, Ans.declEq hF hp hor (Ans.name hF hl1 (by simp) hk (Ans.isAt hF hl2 (by simp) hat (Ans.place hF hl3' (by simp) hpl (Ans.nosign hF 61 (.inr (.inl rfl)) hl4' (by simp) heq))))⟩
  obtain ⟨e5, hl5⟩ := takeY ht (p := { p with next := p.next + 1 + 1 + 1 + 1 }) (l := [61]) (by decide) hl4 heq
  have hl5' : p.next + 5 < ts.length := hl5
  rw [e5]
  simp only
  have hx := exprA ht hF 16 0 rfl
  have hcome : ∀ n r, Ans ts n (69 :: [59, 80]) 0 (p.next + 5) r → ∃ n', Ans ts n' [80] 0 p.next r := fun n r hA =>
    ⟨n + 1 + 1 + 1 + 1 + 1, Ans.declEq hF hp hor (Ans.name hF hl1 (by simp) hk (Ans.isAt hF hl2 (by simp) hat (Ans.place hF hl3' (by simp) hpl (Ans.sign hF 61 (.inr rfl) hl4' (by simp) heq hA))))⟩
  generalize hQ : ({ next := p.next + 1 + 1 + 1 + 1 + 1, depth := p.depth, delays := p.delays, decls := p.decls, nodes := p.nodes } : PS) = q
  have q1 : q.next = p.next + 5 := by rw [← hQ]
  have q2 : q.depth = 0 := by rw [← hQ]; exact hdep
  have q3 : q.delays = 0 := by rw [← hQ]; exact hdl
  have q4 : q.nodes = p.nodes := by rw [← hQ]
  have q5 : q.decls = p.decls := by rw [← hQ]
  cases he : exprF ts 16 q with
  | error k =>
    simp only
    obtain ⟨hkl, hA⟩ := hx.bad q k (by rw [q1]; exact hl5') he q2
    refine ⟨fun p' he => (by cases he), fun k he => ?_⟩
    cases he
    obtain ⟨n, hn⟩ := hA [59, 80] (by simp)
    rw [q1] at hn
    exact ⟨hkl, hcome n _ hn⟩
  | ok v =>
    obtain ⟨r0, p4⟩ := v
    simp only
    obtain ⟨t, hs, hl, hr, hp4, hA⟩ := hx.ok q r0 p4 (by rw [q1]; exact hl5') he q2
    rw [q1] at hs hl hA
    have n4 : p4.next = p.next + 5 + t.len := by rw [hp4, q1]
    by_cases hs9 : lAt ts (p.next + 5 + t.len) = [59]
    · obtain ⟨e9, hl9⟩ := takeY ht (p := p4.declare ⟨kind, 0, (tkAt ts (p.next + 1)).text, (tkAt ts (p.next + 1)).pos, valOf (tkAt ts (p.next + 3)).l, r0, p4.nodes.length⟩) (l := [59]) (by decide) (by show p4.next < _; rw [n4]; exact hl) (by show lAt ts p4.next = _; rw [n4]; exact hs9)
      have hl9' : p4.next + 1 < ts.length := hl9
      rw [n4] at hl9'
      rw [e9]
      refine ⟨fun p' he => ?_, fun k he => (by cases he)⟩
      cases he
      refine ⟨⟨kind, p.next, t⟩, rfl, by simp [Dl.len, hk0]; omega, .inr ⟨h, hk, hat, hpl, heq, hs, hs9⟩, ?_, fun n r hA9 => ?_⟩
      · unfold afterD PS.declare
        rw [sameSort_eqs _ _ hk0]
        simp only [Dl.len, if_neg hk0, n4, Nat.zero_add]
        rw [hp4, q2, q3, q4, q5, q1, hr, q4, ← hdep]
        simp only [dcEq, List.length_append, flat_len]
        congr 1
        · omega
        · omega
      · obtain ⟨n2, hn2⟩ := hA [59, 80] (n + 1) r (by simp) (Ans.sign hF 59 (.inl rfl) hl (by simp) hs9 (by
          have e : p.next + 5 + t.len + 1 = p.next + (⟨kind, p.next, t⟩ : Dl).len := by simp [Dl.len, hk0]; omega
          rw [e]; exact hA9))
        exact hcome n2 r hn2
    · rw [takeN (p := p4.declare ⟨kind, 0, (tkAt ts (p.next + 1)).text, (tkAt ts (p.next + 1)).pos, valOf (tkAt ts (p.next + 3)).l, r0, p4.nodes.length⟩) (l := [59]) (by show lAt ts p4.next ≠ _; rw [n4]; exact hs9)]
      refine ⟨fun p' he => (by cases he), fun k he => ?_⟩
      have ek : k = p.next + 5 + t.len := by rw [← n4]; cases he; rfl
      subst ek
      obtain ⟨n2, hn2⟩ := hA [59, 80] 0 ((tkAt ts (p.next + 5 + t.len)).pos : Int) (by simp) (Ans.nosign hF 59 (.inl rfl) hl (by simp) hs9)
      exact ⟨hl, hcome n2 _ hn2⟩
theorem declarationA {p : PS} (hp : p.next < ts.length) (hdep : p.depth = 0) (hdl : p.delays = 0) (h0 : (tkAt ts p.next).kind ≠ 0) :
    (∀ p', declarationF ts p = .ok p' → ∃ x : Dl, x.i = p.next ∧ p.next + x.len < ts.length ∧ DlOk ts x ∧ p' = afterD ts p x ∧ ∀ n r, Ans ts n [80] 0 (p.next + x.len) r → ∃ n', Ans ts n' [80] 0 p.next r) ∧
    (∀ k, declarationF ts p = .error k → k < ts.length ∧ ∃ n, Ans ts n [80] 0 p.next ((tkAt ts k).pos : Int)) := by
  unfold declarationF
  by_cases h1 : lAt ts p.next = kIn
  · rw [if_pos (show (p.hd ts).l = kIn from h1)]; exact inputA ht hF hp h1
  rw [if_neg (show ¬ (p.hd ts).l = kIn from h1)]
  by_cases h2 : lAt ts p.next = kInt
  · rw [if_pos (show (p.hd ts).l = kInt from h2)]; exact equationA ht hF 1 hp hdep hdl (.inl ⟨rfl, h2⟩)
  rw [if_neg (show ¬ (p.hd ts).l = kInt from h2)]
  by_cases h3 : lAt ts p.next = kBool
  · rw [if_pos (show (p.hd ts).l = kBool from h3)]; exact equationA ht hF 2 hp hdep hdl (.inr ⟨rfl, h3⟩)
  rw [if_neg (show ¬ (p.hd ts).l = kBool from h3)]
  refine ⟨fun p' he => (by cases he), fun k he => ?_⟩
  cases he
  exact ⟨hp, 0, Ans.nodecl hF hp h0 h1 h2 h3⟩
theorem declsA : ∀ f (p : PS), ts.length ≤ f + p.next → p.next < ts.length → p.depth = 0 → p.delays = 0 →
    (∀ p', declsF ts f p = .ok p' → ∃ L, Spell ts L p.next ∧ p'.decls = p.decls ++ declsD ts L p.nodes.length (insN p.decls) (eqsF p.decls).length ∧ p'.nodes = p.nodes ++ nodesD ts L p.nodes.length ∧ ∃ n, Ans ts n [80] 0 p.next (-1)) ∧
    (∀ k, declsF ts f p = .error k → k < ts.length ∧ ∃ n, Ans ts n [80] 0 p.next ((tkAt ts k).pos : Int)) := by
  intro f
  induction f with
  | zero => intro p h1 h2; omega
  | succ f ih =>
    intro p hf hp hdep hdl
    unfold declsF
    by_cases h0 : (tkAt ts p.next).kind = 0
    · rw [if_pos (show (p.hd ts).kind = 0 from h0)]
      refine ⟨fun p' he => ?_, fun k he => (by cases he)⟩
      cases he
      exact ⟨[], ⟨hp, h0⟩, by simp [declsD], by simp [nodesD], 0, Ans.done 0 [] 0 p.next hp (by simp) h0⟩
    · rw [if_neg (show ¬ (p.hd ts).kind = 0 from h0)]
      obtain ⟨hok, hbad⟩ := declarationA ht hF hp hdep hdl h0
      cases he : declarationF ts p with
      | error k =>
        refine ⟨fun p' he => (by cases he), fun k' he' => ?_⟩
        cases he'
        exact hbad k he
      | ok q =>
        obtain ⟨x, hxi, hxl, hxo, hq, hA⟩ := hok q he
        simp only
        have hlen : 0 < x.len := by unfold Dl.len; split <;> omega
        have qn : q.next = p.next + x.len := by rw [hq]; rfl
        obtain ⟨ok2, bad2⟩ := ih q (by rw [qn]; omega) (by rw [qn]; exact hxl) (by rw [hq]; exact hdep) (by rw [hq]; exact hdl)
        rw [qn] at ok2 bad2
        refine ⟨fun p' he' => ?_, fun k he' => ?_⟩
        · obtain ⟨L, hL, hd, hn, n, hAn⟩ := ok2 p' he'
          obtain ⟨n2, hn2⟩ := hA n _ hAn
          refine ⟨x :: L, ⟨hxi, hxl, hxo, hL⟩, ?_, ?_, n2, hn2⟩
          · rw [hd, hq]
            simp only [afterD, declsD]
            by_cases hk : x.kind = 0
            · simp only [hk, if_true]
              simp [insN, eqsF, dcIn, List.filter_append]
            · simp only [if_neg hk]
              have hk2 : (x.kind == 0) = false := by simpa using hk
              simp [insN, eqsF, dcEq, List.filter_append, hk, flat_len]
          · rw [hn, hq]
            simp only [afterD, nodesD]
            by_cases hk : x.kind = 0
            · simp only [hk, if_true]; simp
            · simp only [if_neg hk]; simp [flat_len]
        · obtain ⟨hk, n, hAn⟩ := bad2 k he'
          obtain ⟨n2, hn2⟩ := hA n _ hAn
          exact ⟨hk, n2, hn2⟩
end
theorem parseA (s : ByteArray) (hs : s.size ≤ 1500) :
    (∀ p, parseF s = .ok p → ∃ L, Spell (toks s) L 0 ∧ p.decls = declsD (toks s) L 0 0 0 ∧ p.nodes = nodesD (toks s) L 0 ∧ ∃ n, Ans (toks s) n [80] 0 0 (-1)) ∧
    (∀ k, parseF s = .error k → k < (toks s).length ∧ ∃ n, Ans (toks s) n [80] 0 0 ((tkAt (toks s) k).pos : Int)) := by
  have ht := toks_ok s hs
  have h := declsA ht (toks_F s) (toks s).length pZero (by simp) ht.pos rfl rfl
  refine ⟨fun p hp => ?_, fun k hk => h.2 k hk⟩
  obtain ⟨L, h1, h2, h3, h4⟩ := h.1 p hp
  exact ⟨L, h1, by rw [h2]; rfl, by rw [h3]; rfl, h4⟩
def dstep (ts : List Tk) (k : Nat) (d : Int) : Int := if lAt ts k = [40] then d + 1 else if lAt ts k = [41] then d - 1 else d
def bhF (ts : List Tk) : Nat → Nat → Int → Nat
  | 0, _, _ => ts.length
  | f + 1, k, d => if dstep ts k d ≤ 0 then k + 1 else bhF ts f (k + 1) (dstep ts k d)
def behindF (ts : List Tk) (i : Nat) : Nat := bhF ts (ts.length - i) i 0
section
variable {ts : List Tk} (hF : ∀ i, TkF (tkAt ts i))
include hF
omit hF in
theorem bh_pass {f k : Nat} {d : Int} (h1 : lAt ts k ≠ [40]) (h2 : lAt ts k ≠ [41]) (hd : 0 < d) : bhF ts (f + 1) k d = bhF ts f (k + 1) d := by
  have : dstep ts k d = d := by unfold dstep; rw [if_neg h1, if_neg h2]
  simp only [bhF, this]
  rw [if_neg (by omega)]
omit hF in
theorem bh_open {f k : Nat} {d : Int} (h1 : lAt ts k = [40]) (hd : 0 ≤ d) : bhF ts (f + 1) k d = bhF ts f (k + 1) (d + 1) := by
  have : dstep ts k d = d + 1 := by unfold dstep; rw [if_pos h1]
  simp only [bhF, this]
  rw [if_neg (by omega)]
omit hF in
theorem bh_close {f k : Nat} {d : Int} (h1 : lAt ts k = [41]) (hd : 0 < d) : bhF ts (f + 1) k (d + 1) = bhF ts f (k + 1) d := by
  have : dstep ts k (d + 1) = d := by unfold dstep; rw [if_neg (by rw [h1]; decide), if_pos h1]; omega
  simp only [bhF, this]
  rw [if_neg (by omega)]
theorem bh_over : ∀ (t : Ast) (i f : Nat) (d : Int), Sp ts t i → 0 < d → bhF ts (f + t.len) i d = bhF ts f (i + t.len) d := by
  intro t
  induction t with
  | leaf =>
    intro i f d hs hd
    obtain ⟨_, _, a, b⟩ := leaf_ne2 hF hs.1
    exact bh_pass a b hd
  | neg a iha =>
    intro i f d hs hd
    obtain ⟨h1, h2, h3, h4⟩ := hs
    have e : f + (Ast.neg a).len = (f + 1) + a.len + 1 + 1 := by simp [Ast.len]; omega
    rw [e, bh_open h1 (by omega), bh_pass (by rw [h2]; decide) (by rw [h2]; decide) (by omega), iha (i + 1 + 1) (f + 1) _ h3 (by omega), bh_close (by rw [← h4]) hd]
    congr 1; simp [Ast.len]; omega
  | ite a b c iha ihb ihc =>
    intro i f d hs hd
    obtain ⟨h1, h2, h3, h4, h5, h6⟩ := hs
    have e : f + (Ast.ite a b c).len = (f + 1) + c.len + b.len + a.len + 1 + 1 := by simp [Ast.len]; omega
    rw [e, bh_open h1 (by omega), bh_pass (by rw [h2]; decide) (by rw [h2]; decide) (by omega), iha (i + 1 + 1) _ _ h3 (by omega), ihb (i + 1 + 1 + a.len) _ _ h4 (by omega), ihc (i + 1 + 1 + a.len + b.len) _ _ h5 (by omega), bh_close (by rw [← h6]) hd]
    congr 1; simp [Ast.len]; omega
  | dly b ihb =>
    intro i f d hs hd
    obtain ⟨h1, h2, h3, h4, h5⟩ := hs
    obtain ⟨_, _, x, y⟩ := leaf_ne2 hF (i := i + 1) (by unfold leafT; rw [h2]; rfl)
    have e : f + (Ast.dly b).len = (f + 1) + b.len + 1 + 1 + 1 := by simp [Ast.len]; omega
    rw [e, bh_open h1 (by omega), bh_pass x y (by omega), bh_pass (by rw [h3]; decide) (by rw [h3]; decide) (by omega), ihb (i + 1 + 1 + 1) (f + 1) _ h4 (by omega), bh_close (by rw [← h5]) hd]
    congr 1; simp [Ast.len]; omega
  | bin a b iha ihb =>
    intro i f d hs hd
    obtain ⟨h1, h2, h3, h4, h5⟩ := hs
    obtain ⟨x, y, _, _⟩ := op_ne h3
    have e : f + (Ast.bin a b).len = (f + 1) + b.len + 1 + a.len + 1 := by simp [Ast.len]; omega
    have e2 : i + 1 + a.len + 1 = i + 2 + a.len := by omega
    rw [e, bh_open h1 (by omega), iha (i + 1) _ _ h2 (by omega), bh_pass x y (by omega), e2, ihb (i + 2 + a.len) (f + 1) _ h4 (by omega), bh_close (by rw [← h5]) hd]
    congr 1; simp [Ast.len]; omega
theorem behind_sp (t : Ast) (i : Nat) (hs : Sp ts t i) (hi : i + t.len ≤ ts.length) : behindF ts i = i + t.len := by
  have hlast : ∀ f k, lAt ts k = [41] → bhF ts (f + 1) k 1 = k + 1 := by
    intro f k h
    have : dstep ts k 1 = 0 := by unfold dstep; rw [if_neg (by rw [h]; decide), if_pos h]; omega
    simp only [bhF, this]
    rw [if_pos (by omega)]
  unfold behindF
  cases t with
  | leaf =>
    obtain ⟨_, _, a, b⟩ := leaf_ne2 hF hs.1
    have hl : (Ast.leaf).len = 1 := rfl
    rw [hl] at hi ⊢
    have e : ts.length - i = (ts.length - i - 1) + 1 := by omega
    have : dstep ts i 0 = 0 := by unfold dstep; rw [if_neg a, if_neg b]
    rw [e]
    simp only [bhF, this]
    rw [if_pos (by omega)]
  | neg a =>
    obtain ⟨h1, h2, h3, h4⟩ := hs
    have hl : (Ast.neg a).len = a.len + 3 := rfl
    rw [hl] at hi ⊢
    have e : ts.length - i = (ts.length - i - (a.len + 3)) + 1 + a.len + 1 + 1 := by omega
    rw [e, bh_open h1 (by omega), bh_pass (by rw [h2]; decide) (by rw [h2]; decide) (by omega), bh_over hF a (i + 1 + 1) _ _ h3 (by omega)]
    have := hlast (ts.length - i - (a.len + 3)) (i + 1 + 1 + a.len) h4
    rw [show (0 : Int) + 1 = 1 by omega, this]; omega
  | ite a b c =>
    obtain ⟨h1, h2, h3, h4, h5, h6⟩ := hs
    have hl : (Ast.ite a b c).len = a.len + b.len + c.len + 3 := rfl
    rw [hl] at hi ⊢
    have e : ts.length - i = (ts.length - i - (a.len + b.len + c.len + 3)) + 1 + c.len + b.len + a.len + 1 + 1 := by omega
    rw [e, bh_open h1 (by omega), bh_pass (by rw [h2]; decide) (by rw [h2]; decide) (by omega), bh_over hF a (i + 1 + 1) _ _ h3 (by omega), bh_over hF b (i + 1 + 1 + a.len) _ _ h4 (by omega), bh_over hF c (i + 1 + 1 + a.len + b.len) _ _ h5 (by omega)]
    have := hlast (ts.length - i - (a.len + b.len + c.len + 3)) (i + 1 + 1 + a.len + b.len + c.len) h6
    rw [show (0 : Int) + 1 = 1 by omega, this]; omega
  | dly b =>
    obtain ⟨h1, h2, h3, h4, h5⟩ := hs
    obtain ⟨_, _, x, y⟩ := leaf_ne2 hF (i := i + 1) (by unfold leafT; rw [h2]; rfl)
    have hl : (Ast.dly b).len = b.len + 4 := rfl
    rw [hl] at hi ⊢
    have e : ts.length - i = (ts.length - i - (b.len + 4)) + 1 + b.len + 1 + 1 + 1 := by omega
    rw [e, bh_open h1 (by omega), bh_pass x y (by omega), bh_pass (by rw [h3]; decide) (by rw [h3]; decide) (by omega), bh_over hF b (i + 1 + 1 + 1) _ _ h4 (by omega)]
    have := hlast (ts.length - i - (b.len + 4)) (i + 1 + 1 + 1 + b.len) h5
    rw [show (0 : Int) + 1 = 1 by omega, this]; omega
  | bin a b =>
    obtain ⟨h1, h2, h3, h4, h5⟩ := hs
    obtain ⟨x, y, _, _⟩ := op_ne h3
    have hl : (Ast.bin a b).len = a.len + b.len + 3 := rfl
    rw [hl] at hi ⊢
    have e : ts.length - i = (ts.length - i - (a.len + b.len + 3)) + 1 + b.len + 1 + a.len + 1 := by omega
    have e2 : i + 1 + a.len + 1 = i + 2 + a.len := by omega
    rw [e, bh_open h1 (by omega), bh_over hF a (i + 1) _ _ h2 (by omega), bh_pass x y (by omega), e2, bh_over hF b (i + 2 + a.len) _ _ h4 (by omega)]
    have := hlast (ts.length - i - (a.len + b.len + 3)) (i + 2 + a.len + b.len) h5
    rw [show (0 : Int) + 1 = 1 by omega, this]; omega
end
def nmD (ts : List Tk) : Ast → Nat → Bool → List (Nat × Bool)
  | .leaf, i, dl => if (tkAt ts i).kind = 1 then [(i, dl)] else []
  | .neg a, i, dl => nmD ts a (i + 2) dl
  | .ite a b c, i, dl => nmD ts a (i + 2) dl ++ (nmD ts b (i + 2 + a.len) dl ++ nmD ts c (i + 2 + a.len + b.len) dl)
  | .dly b, i, _ => nmD ts b (i + 3) true
  | .bin a b, i, dl => nmD ts a (i + 1) dl ++ nmD ts b (i + 2 + a.len) dl
def isNm (ts : List Tk) (k : Nat) : Bool := (tkAt ts k).kind == 1
section
variable {ts : List Tk} (hF : ∀ i, TkF (tkAt ts i))
include hF
theorem kw_nm {i : Nat} (h : kwL.contains (lAt ts i) = true) : isNm ts i = false := by
  unfold isNm; rw [beq_eq_false_iff_ne]; exact (hF i).not1 h
theorem lit_nm {i : Nat} (h : litT (tkAt ts i) = true) : isNm ts i = false := by
  unfold litT at h
  simp only [Bool.or_eq_true, beq_iff_eq] at h
  rcases h with (h | h) | h
  · unfold isNm; rw [h]; rfl
  · exact kw_nm hF (by show kwL.contains (tkAt ts i).l = true; rw [h]; decide)
  · exact kw_nm hF (by show kwL.contains (tkAt ts i).l = true; rw [h]; decide)
omit hF in
theorem op_kw {l : List UInt8} (h : (opOf l).isSome = true) : kwL.contains l = true := by
  unfold opOf at h
  split at h; · rename_i e; rw [e]; decide
  split at h; · rename_i e; rw [e]; decide
  split at h; · rename_i e; rw [e]; decide
  split at h; · rename_i e; rw [e]; decide
  split at h; · rename_i e; rw [e]; decide
  split at h; · rename_i e; rw [e]; decide
  split at h; · rename_i e; rw [e]; decide
  split at h; · rename_i e; rw [e]; decide
  · cases h
omit hF in
theorem range_split (i a b : Nat) : List.range' i (a + b) = List.range' i a ++ List.range' (i + a) b := by
  rw [← List.range'_append_1]
theorem nm_filter : ∀ (t : Ast) (i : Nat) (dl : Bool), Sp ts t i → (List.range' i t.len).filter (isNm ts) = (nmD ts t i dl).map Prod.fst := by
  have one : ∀ i, isNm ts i = false → (List.range' i 1).filter (isNm ts) = [] := by
    intro i h; simp [List.range', h]
  intro t
  induction t with
  | leaf =>
    intro i dl hs
    simp only [nmD, Ast.len, List.range']
    by_cases h : (tkAt ts i).kind = 1
    · rw [if_pos h]; simp [isNm, h]
    · rw [if_neg h]; simp [isNm, h]
  | neg a iha =>
    intro i dl hs
    obtain ⟨h1, h2, h3, h4⟩ := hs
    have e : (Ast.neg a).len = 1 + (1 + (a.len + 1)) := by simp [Ast.len]; omega
    rw [e, range_split, range_split, range_split, List.filter_append, List.filter_append, List.filter_append, one _ (kw_nm hF (by rw [h1]; decide)), one _ (kw_nm hF (by rw [h2]; decide)), show i + 1 + 1 = i + 2 by omega, iha (i + 2) dl h3, one _ (kw_nm hF (by rw [h4]; decide))]
    simp [nmD]
  | ite a b c iha ihb ihc =>
    intro i dl hs
    obtain ⟨h1, h2, h3, h4, h5, h6⟩ := hs
    have e : (Ast.ite a b c).len = 1 + (1 + (a.len + (b.len + (c.len + 1)))) := by simp [Ast.len]; omega
    rw [e, range_split, range_split, range_split, range_split, range_split, List.filter_append, List.filter_append, List.filter_append, List.filter_append, List.filter_append, one _ (kw_nm hF (by rw [h1]; decide)), one _ (kw_nm hF (by rw [h2]; decide)), show i + 1 + 1 = i + 2 by omega, iha (i + 2) dl h3, ihb _ dl h4, ihc _ dl h5, one _ (kw_nm hF (by rw [h6]; decide))]
    simp [nmD]
  | dly b ihb =>
    intro i dl hs
    obtain ⟨h1, h2, h3, h4, h5⟩ := hs
    have e : (Ast.dly b).len = 1 + (1 + (1 + (b.len + 1))) := by simp [Ast.len]; omega
    rw [e, range_split, range_split, range_split, range_split, List.filter_append, List.filter_append, List.filter_append, List.filter_append, one _ (kw_nm hF (by rw [h1]; decide)), one _ (lit_nm hF h2), show i + 1 + 1 = i + 2 by omega, one _ (kw_nm hF (by rw [h3]; decide)), show i + 2 + 1 = i + 3 by omega, ihb (i + 3) true h4, one _ (kw_nm hF (by rw [h5]; decide))]
    simp [nmD]
  | bin a b iha ihb =>
    intro i dl hs
    obtain ⟨h1, h2, h3, h4, h5⟩ := hs
    have e : (Ast.bin a b).len = 1 + (a.len + (1 + (b.len + 1))) := by simp [Ast.len]; omega
    rw [e, range_split, range_split, range_split, range_split, List.filter_append, List.filter_append, List.filter_append, List.filter_append, one _ (kw_nm hF (by rw [h1]; decide)), iha (i + 1) dl h2, one _ (kw_nm hF (op_kw h3)), show i + 1 + a.len + 1 = i + 2 + a.len by omega, ihb _ dl h4, one _ (kw_nm hF (by rw [h5]; decide))]
    simp [nmD]
def nmNd (ts : List Tk) (x : Nat × Bool) : Nd := { mkN ts x.1 (if x.2 then 1 else 0) { ndZero with kind := 2, name := (tkAt ts x.1).text } with delayed := x.2 }
omit hF in
theorem mkN_kind (i dl : Nat) (n : Nd) : (mkN ts i dl n).kind = n.kind := rfl
omit hF in
theorem leafN0_name {t : Tk} (h : TkF t) (hk : t.kind = 1) : leafN0 t = { ndZero with kind := 2, name := t.text } := by
  have hn : ∀ l, kwL.contains l = true → t.l ≠ l := fun l hl e => by have := h.k1 hk; rw [e, hl] at this; cases this
  unfold leafN0
  rw [if_neg (hn _ (by decide)), if_neg (hn _ (by decide)), if_neg (by rw [hk]; decide)]
omit hF in
theorem leafN0_no {t : Tk} (h : leafT t = true) (hk : t.kind ≠ 1) : (leafN0 t).kind ≠ 2 := by
  unfold leafN0
  split; · simp
  split; · simp
  split; · simp
  · rename_i h1 h2 h3
    unfold leafT litT at h
    simp [h1, h2, h3, hk] at h
theorem flat_names : ∀ (t : Ast) (i dl off : Nat), Sp ts t i → (flat ts t i dl off).filter (fun n => n.kind == 2) = (nmD ts t i (decide (0 < dl))).map (nmNd ts) := by
  intro t
  induction t with
  | leaf =>
    intro i dl off hs
    simp only [flat, nmD]
    by_cases h : (tkAt ts i).kind = 1
    · rw [if_pos h, leafN0_name (hF i) h]
      simp [mkN, nmNd]
    · rw [if_neg h]
      have := leafN0_no hs.1 h
      simp [mkN, this]
  | neg a iha =>
    intro i dl off hs
    obtain ⟨h1, h2, h3, h4⟩ := hs
    simp only [flat, nmD]
    rw [List.filter_cons_of_neg (by simp [mkN]), iha _ _ _ h3]
  | ite a b c iha ihb ihc =>
    intro i dl off hs
    obtain ⟨h1, h2, h3, h4, h5, h6⟩ := hs
    simp only [flat, nmD]
    rw [List.filter_cons_of_neg (by simp [mkN]), List.filter_append, List.filter_append, iha _ _ _ h3, ihb _ _ _ h4, ihc _ _ _ h5, List.map_append, List.map_append]
  | dly b ihb =>
    intro i dl off hs
    obtain ⟨h1, h2, h3, h4, h5⟩ := hs
    have hk : (tkAt ts (i + 1)).kind ≠ 1 := by have := lit_nm hF h2; unfold isNm at this; simpa using this
    have := leafN0_no (t := tkAt ts (i + 1)) (by unfold leafT; rw [h2]; rfl) hk
    simp only [flat, nmD]
    rw [List.filter_cons_of_neg (by simp [mkN]), List.filter_cons_of_neg (by simp [mkN, this]), ihb _ _ _ h4, show decide (0 < dl + 1) = true by simp]
  | bin a b iha ihb =>
    intro i dl off hs
    obtain ⟨h1, h2, h3, h4, h5⟩ := hs
    simp only [flat, nmD]
    rw [List.filter_cons_of_neg (by simp [mkN]), List.filter_append, iha _ _ _ h2, ihb _ _ _ h4, List.map_append]
end
theorem spell_mem {ts : List Tk} : ∀ (L : List Dl) (i : Nat), Spell ts L i → ∀ y ∈ L, i ≤ y.i ∧ y.i + y.len < ts.length ∧ DlOk ts y := by
  intro L
  induction L with
  | nil => intro i _ y hy; simp at hy
  | cons x r ih =>
    intro i h y hy
    obtain ⟨h1, h2, h3, h4⟩ := h
    rcases List.mem_cons.1 hy with rfl | hy
    · exact ⟨by omega, by omega, h3⟩
    · have := ih _ h4 y hy; exact ⟨by omega, this.2⟩
theorem Dl.len_pos (x : Dl) : 3 ≤ x.len := by unfold Dl.len; split <;> omega
theorem spell_mid {ts : List Tk} {x : Dl} {L2 : List Dl} : ∀ (L1 : List Dl) (i : Nat), Spell ts (L1 ++ x :: L2) i → (∀ y ∈ L1, y.i + y.len ≤ x.i) ∧ (∀ y ∈ L2, x.i + x.len ≤ y.i) ∧ i ≤ x.i ∧ x.i + x.len < ts.length ∧ DlOk ts x ∧ Spell ts L2 (x.i + x.len) := by
  intro L1
  induction L1 with
  | nil =>
    intro i h
    obtain ⟨h1, h2, h3, h4⟩ := h
    rw [← h1] at h2 h4
    exact ⟨fun y hy => by simp at hy, fun y hy => (spell_mem _ _ h4 y hy).1, by omega, h2, h3, h4⟩
  | cons z L1 ih =>
    intro i h
    obtain ⟨h1, h2, h3, h4⟩ := h
    obtain ⟨a, b, c, d⟩ := ih _ h4
    refine ⟨fun y hy => ?_, b, by omega, d⟩
    rcases List.mem_cons.1 hy with rfl | hy
    · omega
    · exact a y hy
def eqL (L : List Dl) : List Dl := L.filter fun x => x.kind != 0
def inL (L : List Dl) : List Dl := L.filter fun x => x.kind == 0
def posD (ts : List Tk) (x : Dl) : Nat := (tkAt ts (x.i + 1)).pos
def nameD (ts : List Tk) (x : Dl) : ByteArray := (tkAt ts (x.i + 1)).text
def less : Option Nat → Option Nat → Option Nat
  | none, k => k
  | some a, none => some a
  | some a, some b => some (if b < a then b else a)
def manyR (ts : List Tk) (L : List Dl) : Option Nat := less (((eqL L)[12]?).map (posD ts)) (((inL L)[4]?).map (posD ts))
theorem less_left {a : Nat} {o : Option Nat} (h : ∀ b, o = some b → a < b) : less (some a) o = some a := by
  cases o with
  | none => rfl
  | some b => have := h b rfl; simp only [less]; rw [if_neg (by omega)]
theorem less_right {b : Nat} {o : Option Nat} (h : ∀ a, o = some a → b < a) : less o (some b) = some b := by
  cases o with
  | none => rfl
  | some a => have := h a rfl; simp only [less]; rw [if_pos this]
def PosLt (ts : List Tk) : Prop := ∀ i j, i < j → j < ts.length → (tkAt ts i).pos < (tkAt ts j).pos
theorem many_eq {ts : List Tk} (hP : PosLt ts) : ∀ (L : List Dl) (i off a b : Nat), Spell ts L i → a ≤ 4 → b ≤ 12 →
    tooManyF (declsD ts L off a b) = less (((eqL L)[12 - b]?).map (posD ts)) (((inL L)[4 - a]?).map (posD ts)) := by
  intro L
  induction L with
  | nil => intro i off a b _ _ _; simp [declsD, tooManyF, eqL, inL, less]
  | cons x r ih =>
    intro i off a b h ha hb
    obtain ⟨h1, h2, h3, h4⟩ := h
    have hx := Dl.len_pos x
    have hlt : ∀ (l : List Dl) (k : Nat), (∀ y ∈ l, y ∈ r) → ∀ c, (l[k]?).map (posD ts) = some c → posD ts x < c := by
      intro l k hl c hc
      rw [Option.map_eq_some_iff] at hc
      obtain ⟨y, hy, rfl⟩ := hc
      have hm := spell_mem _ _ h4 y (hl y (List.mem_of_getElem? hy))
      have := Dl.len_pos y
      exact hP _ _ (by omega) (by omega)
    by_cases hk : x.kind = 0
    · have e1 : inL (x :: r) = x :: inL r := by simp [inL, hk]
      have e2 : eqL (x :: r) = eqL r := by simp [eqL, hk]
      simp only [declsD, if_pos hk, tooManyF]
      have em : most (dcIn ts x a) = 4 := by simp [most, dcIn]
      rw [em, e1, e2]
      by_cases h4a : 4 ≤ a
      · have : a = 4 := by omega
        subst this
        rw [if_pos (show 4 ≤ (dcIn ts x 4).number from Nat.le_refl _)]
        rw [show 4 - 4 = 0 by omega, List.getElem?_cons_zero, Option.map_some, less_right (hlt (eqL r) (12 - b) (fun y hy => (List.mem_filter.1 hy).1))]
        rfl
      · rw [if_neg (show ¬ 4 ≤ (dcIn ts x a).number from h4a), ih _ off (a + 1) b h4 (by omega) hb, show 4 - a = (4 - (a + 1)) + 1 by omega, List.getElem?_cons_succ]
    · have e1 : inL (x :: r) = inL r := by simp [inL, hk]
      have e2 : eqL (x :: r) = x :: eqL r := by simp [eqL, hk]
      simp only [declsD, if_neg hk, tooManyF]
      have em : most (dcEq ts x b off) = 12 := by simp [most, dcEq, hk]
      rw [em, e1, e2]
      by_cases h12 : 12 ≤ b
      · have : b = 12 := by omega
        subst this
        rw [if_pos (show 12 ≤ (dcEq ts x 12 off).number from Nat.le_refl _)]
        rw [show 12 - 12 = 0 by omega, List.getElem?_cons_zero, Option.map_some, less_left (hlt (inL r) (4 - a) (fun y hy => (List.mem_filter.1 hy).1))]
        rfl
      · rw [if_neg (show ¬ 12 ≤ (dcEq ts x b off).number from h12), ih _ _ a (b + 1) h4 ha (by omega), show 12 - b = (12 - (b + 1)) + 1 by omega, List.getElem?_cons_succ]
def hereR (L : List Dl) (k : Nat) : Bool := L.any fun x => x.i + 1 == k
def someR (ts : List Tk) (L : List Dl) (k : Nat) : Bool := L.any fun x => (nameD ts x).data.toList == lAt ts k
def aheadR (ts : List Tk) (L : List Dl) (k : Nat) : Bool := L.any fun x => (nameD ts x).data.toList == lAt ts k && decide (x.i + 1 < k)
def qNm (ts : List Tk) (L : List Dl) (k : Nat) : Bool := (hereR L k && aheadR ts L k) || !someR ts L k
def badNm (ts : List Tk) (L : List Dl) (k : Nat) : Bool := isNm ts k && qNm ts L k
def namesR (ts : List Tk) (L : List Dl) : Option Nat := ((List.range' 0 ts.length).find? (badNm ts L)).map fun k => (tkAt ts k).pos
theorem any_congr_mem {α : Type} {p q : α → Bool} : ∀ {l : List α}, (∀ x ∈ l, p x = q x) → l.any p = l.any q := by
  intro l
  induction l with
  | nil => intro _; rfl
  | cons x l ih =>
    intro h
    rw [List.any_cons, List.any_cons, h x (List.mem_cons_self ..), ih (fun y hy => h y (List.mem_cons_of_mem _ hy))]
theorem badNode_find : ∀ l : List Nd, badNodeF l = ((l.filter fun n => n.kind == 2).find? fun n => decide (n.decl < 0)).map Nd.pos := by
  intro l
  induction l with
  | nil => rfl
  | cons n l ih =>
    unfold badNodeF
    by_cases hk : n.kind = 2
    · rw [List.filter_cons_of_pos (by simp [hk])]
      by_cases hd : n.decl < 0
      · rw [if_pos ⟨hk, hd⟩, List.find?_cons_of_pos (by simpa using hd)]; rfl
      · rw [if_neg (fun h => hd h.2), List.find?_cons_of_neg (by simpa using hd), ih]
    · rw [if_neg (fun h => hk h.1), List.filter_cons_of_neg (by simp [hk]), ih]
theorem findF_neg (l : List Dc) (name : ByteArray) : findF l name < 0 ↔ (l.any fun d => d.name.data.toList == name.data.toList) = false := by
  unfold findF
  split
  · rename_i i h
    rw [List.findIdx?_eq_some_iff_getElem] at h
    obtain ⟨h1, h2, _⟩ := h
    constructor
    · intro h; omega
    · intro h
      rw [List.any_eq_false] at h
      exact absurd h2 (h _ (List.getElem_mem h1))
  · rename_i h
    rw [List.findIdx?_eq_none_iff] at h
    constructor
    · intro _
      rw [List.any_eq_false]
      intro d hd
      have := h d hd
      rw [this]; simp
    · intro _; omega
theorem findF_own (l1 : List Dc) (d : Dc) (l2 : List Dc) : findF (l1 ++ d :: l2) d.name ≠ (l1.length : Int) ↔ (l1.any fun e => e.name.data.toList == d.name.data.toList) = true := by
  constructor
  · intro h
    cases ha : (l1.any fun e => e.name.data.toList == d.name.data.toList) with
    | true => rfl
    | false =>
      exfalso
      apply h
      refine findF_hit _ _ l1.length (by simp) ?_ ?_
      · rw [List.getElem_append_right (Nat.le_refl _)]; simp
      · intro j hj
        rw [List.getElem_append_left hj]
        rw [List.any_eq_false] at ha
        have := ha _ (List.getElem_mem hj)
        simpa using this
  · intro h
    rw [List.any_eq_true] at h
    obtain ⟨e, he, h2⟩ := h
    obtain ⟨j, hj, rfl⟩ := List.getElem_of_mem he
    unfold findF
    split
    · rename_i i hi
      rw [List.findIdx?_eq_some_iff_getElem] at hi
      obtain ⟨g1, g2, g3⟩ := hi
      intro e
      have ei : i = l1.length := by omega
      have := g3 j (by omega)
      rw [List.getElem_append_left hj] at this
      exact this h2
    · omega
theorem declsD_names (ts : List Tk) : ∀ (L : List Dl) (off a b : Nat), (declsD ts L off a b).map Dc.name = L.map (nameD ts) := by
  intro L
  induction L with
  | nil => intro off a b; rfl
  | cons x r ih =>
    intro off a b
    simp only [declsD]
    split
    · rw [List.map_cons, ih]; rfl
    · rw [List.map_cons, ih]; rfl
theorem any_names {l : List Dc} {L : List Dl} {ts : List Tk} (h : l.map Dc.name = L.map (nameD ts)) (w : List UInt8) : (l.any fun d => d.name.data.toList == w) = L.any fun x => (nameD ts x).data.toList == w := by
  have e1 : (l.any fun d => d.name.data.toList == w) = (l.map Dc.name).any fun n => n.data.toList == w := by rw [List.any_map]; rfl
  have e2 : (L.any fun x => (nameD ts x).data.toList == w) = (L.map (nameD ts)).any fun n => n.data.toList == w := by rw [List.any_map]; rfl
  rw [e1, e2, h]
theorem find_one {p : Nat → Bool} (k : Nat) (h : p k = false) : (List.range' k 1).find? p = none := by simp [List.range', h]
theorem badNm_no {ts : List Tk} {L : List Dl} {k : Nat} (h : isNm ts k = false) : badNm ts L k = false := by unfold badNm; rw [h]; rfl
theorem find_part {ts : List Tk} (hF : ∀ i, TkF (tkAt ts i)) (L : List Dl) (t : Ast) (i : Nat) (hs : Sp ts t i) :
    (List.range' i t.len).find? (badNm ts L) = ((nmD ts t i false).map Prod.fst).find? (qNm ts L) := by
  rw [← nm_filter hF t i false hs, List.find?_filter]
  congr 1
  funext a
  unfold badNm
  cases isNm ts a <;> cases qNm ts L a <;> rfl
theorem find_nodes {ts : List Tk} (all : List Dc) (L : List Dl) (hn : all.map Dc.name = L.map (nameD ts)) : ∀ (l : List (Nat × Bool)), (∀ x ∈ l, hereR L x.1 = false) →
    (((l.map (nmNd ts)).map (bindF all)).find? fun n => decide (n.decl < 0)).map Nd.pos = ((l.map Prod.fst).find? (qNm ts L)).map fun k => (tkAt ts k).pos := by
  intro l
  induction l with
  | nil => intro _; rfl
  | cons x l ih =>
    intro h
    have hx := h x (List.mem_cons_self ..)
    have hb : bindF all (nmNd ts x) = { nmNd ts x with decl := findF all (tkAt ts x.1).text } := by
      unfold bindF; rw [if_pos (by rfl)]; rfl
    have hq : qNm ts L x.1 = decide ((bindF all (nmNd ts x)).decl < 0) := by
      rw [hb]
      unfold qNm
      rw [hx, Bool.false_and, Bool.false_or, Bool.eq_iff_iff, decide_eq_true_iff]
      show _ ↔ findF all (tkAt ts x.1).text < 0
      rw [findF_neg, any_names hn]
      unfold someR
      simp [Tk.l]
    simp only [List.map_cons]
    by_cases hd : (bindF all (nmNd ts x)).decl < 0
    · rw [List.find?_cons_of_pos (by simpa using hd), List.find?_cons_of_pos (by rw [hq]; simpa using hd)]
      simp only [Option.map_some]
      rw [hb]; rfl
    · rw [List.find?_cons_of_neg (by simpa using hd), List.find?_cons_of_neg (by rw [hq]; simpa using hd)]
      exact ih (fun y hy => h y (List.mem_cons_of_mem _ hy))
theorem nm_in {ts : List Tk} : ∀ (t : Ast) (i : Nat) (dl : Bool), ∀ x ∈ nmD ts t i dl, i ≤ x.1 ∧ x.1 < i + t.len := by
  intro t
  induction t with
  | leaf =>
    intro i dl x hx
    simp only [nmD] at hx
    split at hx
    · simp at hx; subst hx; simp [Ast.len]
    · simp at hx
  | neg a iha => intro i dl x hx; have := iha _ _ x hx; simp only [Ast.len]; omega
  | ite a b c iha ihb ihc =>
    intro i dl x hx
    simp only [nmD, List.mem_append] at hx
    simp only [Ast.len]
    rcases hx with hx | hx | hx
    · have := iha _ _ x hx; omega
    · have := ihb _ _ x hx; omega
    · have := ihc _ _ x hx; omega
  | dly b ihb => intro i dl x hx; have := ihb _ _ x hx; simp only [Ast.len]; omega
  | bin a b iha ihb =>
    intro i dl x hx
    simp only [nmD, List.mem_append] at hx
    simp only [Ast.len]
    rcases hx with hx | hx
    · have := iha _ _ x hx; omega
    · have := ihb _ _ x hx; omega
theorem bind_filter (all : List Dc) (l : List Nd) : ((l.map (bindF all)).filter fun n => n.kind == 2) = (l.filter fun n => n.kind == 2).map (bindF all) := by
  rw [List.filter_map]
  congr 1
  apply List.filter_congr
  intro n _
  simp [Function.comp, (bindF_keep all n).1]
theorem seg_mid {N1 N2 N3 : List Nd} {a b : Nat} (ha : a = N1.length) (hb : b = N1.length + N2.length) : seg (N1 ++ (N2 ++ N3)) a b = N2 := by
  subst ha; subst hb
  unfold seg
  rw [List.drop_left, Nat.add_sub_cancel_left, List.take_left]
theorem names_eq {ts : List Tk} (hF : ∀ i, TkF (tkAt ts i)) (hE : ∀ i, (tkAt ts i).kind = 0 → ts.length ≤ i + 1) (L : List Dl) (hL : Spell ts L 0) (all : List Dc) (hn : all.map Dc.name = L.map (nameD ts)) :
    ∀ (L2 L1 : List Dl) (i off a b : Nat) (D1 : List Dc) (N1 : List Nd), L = L1 ++ L2 → Spell ts L2 i → i ≤ ts.length → all = D1 ++ declsD ts L2 off a b → D1.length = L1.length → N1.length = off →
      badNameF all (N1 ++ (nodesD ts L2 off).map (bindF all)) L1.length (declsD ts L2 off a b) = ((List.range' i (ts.length - i)).find? (badNm ts L)).map fun k => (tkAt ts k).pos := by
  intro L2
  induction L2 with
  | nil =>
    intro L1 i off a b D1 N1 hsplit hsp hi _ _ _
    simp only [declsD, badNameF]
    obtain ⟨h1, h2⟩ := hsp
    have h3 := hE i h2
    have e : ts.length - i = 1 := by omega
    rw [e, find_one i (badNm_no (by unfold isNm; rw [h2]; rfl))]
    rfl
  | cons x r ih =>
    intro L1 i off a b D1 N1 hsplit hsp hi hall hlen hN1
    have hmid := spell_mid L1 0 (by rw [← hsplit]; exact hL)
    obtain ⟨hb1, hb2, _, hxl, hxo, _⟩ := hmid
    obtain ⟨hxi, hl2, hxo', hsp'⟩ := hsp
    have hlx := Dl.len_pos x
    have hd1 : D1.map Dc.name = L1.map (nameD ts) := by
      rw [hall, hsplit, List.map_append, List.map_append, declsD_names] at hn
      exact (List.append_inj' hn (by simp)).1
    have hown : ∀ d : Dc, d.name = nameD ts x → ∀ rest, all = D1 ++ d :: rest → (findF all d.name ≠ (L1.length : Int) ↔ aheadR ts L (x.i + 1) = true) := by
      intro d hd rest ha
      rw [ha, ← hlen, findF_own, any_names hd1]
      unfold aheadR
      rw [hsplit, List.any_append, hd]
      have e1 : (L1.any fun y => (nameD ts y).data.toList == lAt ts (x.i + 1) && decide (y.i + 1 < x.i + 1)) = L1.any fun y => (nameD ts y).data.toList == (nameD ts x).data.toList := by
        apply any_congr_mem
        intro y hy
        have := hb1 y hy
        have := Dl.len_pos y
        rw [decide_eq_true (by omega), Bool.and_true]; rfl
      have e2 : ((x :: r).any fun y => (nameD ts y).data.toList == lAt ts (x.i + 1) && decide (y.i + 1 < x.i + 1)) = false := by
        rw [List.any_eq_false]
        intro y hy
        have : ¬ y.i + 1 < x.i + 1 := by
          rcases List.mem_cons.1 hy with rfl | hy
          · omega
          · have := hb2 y hy; omega
        simp [this]
      rw [e1, e2, Bool.or_false]
    have hnmx : isNm ts (x.i + 1) = true := by
      unfold isNm
      rcases hxo with ⟨_, _, h, _⟩ | ⟨_, h, _⟩ <;> rw [h] <;> rfl
    have hqx : qNm ts L (x.i + 1) = aheadR ts L (x.i + 1) := by
      have h1 : hereR L (x.i + 1) = true := by
        unfold hereR; rw [List.any_eq_true]; exact ⟨x, by rw [hsplit]; simp, by simp⟩
      have h2 : someR ts L (x.i + 1) = true := by
        unfold someR; rw [List.any_eq_true]; exact ⟨x, by rw [hsplit]; simp, by simp [nameD, Tk.l]⟩
      unfold qNm; rw [h1, h2]; simp
    have hbx : badNm ts L (x.i + 1) = aheadR ts L (x.i + 1) := by unfold badNm; rw [hnmx, hqx]; rfl
    by_cases hk : x.kind = 0
    · have hin : lAt ts x.i = kIn ∧ lAt ts (x.i + 2) = [59] := by
        rcases hxo with ⟨_, h1, _, h2⟩ | ⟨h, _⟩
        · exact ⟨h1, h2⟩
        · omega
      have hlen3 : x.len = 3 := by unfold Dl.len; rw [if_pos hk]
      have er : ts.length - i = 1 + (1 + (1 + (ts.length - (i + x.len)))) := by omega
      simp only [declsD, if_pos hk, nodesD] at hall ⊢
      rw [er, range_split, range_split, range_split, List.find?_append, List.find?_append, List.find?_append, find_one i (badNm_no (kw_nm hF (by rw [← hxi, hin.1]; decide))), find_one (i + 1 + 1) (badNm_no (kw_nm hF (by rw [← hxi]; show kwL.contains (lAt ts (x.i + 2)) = true; rw [hin.2]; decide)))]
      simp only [badNameF, Option.none_or]
      have ho := hown (dcIn ts x a) rfl _ hall
      by_cases hah : aheadR ts L (x.i + 1) = true
      · rw [if_pos (ho.2 hah)]
        have : (List.range' (i + 1) 1).find? (badNm ts L) = some (i + 1) := by simp [List.range', ← hxi, hbx, hah]
        rw [this]; simp [dcIn, hxi]
      · rw [if_neg (fun h => hah (ho.1 h))]
        have : (List.range' (i + 1) 1).find? (badNm ts L) = none := find_one _ (by rw [← hxi, hbx]; simpa using hah)
        rw [this, Option.none_or]
        have hseg : seg (N1 ++ (nodesD ts r off).map (bindF all)) (dcIn ts x a).root (dcIn ts x a).fin = [] := by simp [seg, dcIn]
        rw [hseg]
        simp only [badNodeF]
        have := ih (L1 ++ [x]) (i + x.len) off (a + 1) b (D1 ++ [dcIn ts x a]) N1 (by rw [hsplit]; simp) hsp' (by omega) (by rw [hall]; simp) (by simp [hlen]) hN1
        rw [List.length_append, List.length_singleton] at this
        rw [this, show i + 1 + 1 + 1 = i + x.len by omega]
    · have heq : (lAt ts x.i = kInt ∨ lAt ts x.i = kBool) ∧ lAt ts (x.i + 2) = kAt ∧ (tkAt ts (x.i + 3)).kind = 3 ∧ lAt ts (x.i + 4) = [61] ∧ Sp ts x.t (x.i + 5) ∧ lAt ts (x.i + 5 + x.t.len) = [59] := by
        rcases hxo with ⟨h, _⟩ | ⟨h0, _, h2, h3, h4, h5, h6⟩
        · exact absurd h hk
        · exact ⟨h0.elim (fun h => .inl h.2) (fun h => .inr h.2), h2, h3.1, h4, h5, h6⟩
      obtain ⟨k0, k2, k3, k4, k5, k6⟩ := heq
      have hlen6 : x.len = x.t.len + 6 := by unfold Dl.len; rw [if_neg hk]
      have er : ts.length - i = 1 + (1 + (1 + (1 + (1 + (x.t.len + (1 + (ts.length - (i + x.len)))))))) := by omega
      simp only [declsD, if_neg hk, nodesD] at hall ⊢
      have f0 := find_one i (p := badNm ts L) (badNm_no (kw_nm hF (by rw [← hxi]; rcases k0 with h | h <;> rw [h] <;> decide)))
      have f2 := find_one (i + 1 + 1) (p := badNm ts L) (badNm_no (kw_nm hF (by rw [← hxi]; show kwL.contains (lAt ts (x.i + 2)) = true; rw [k2]; decide)))
      have f3 := find_one (i + 1 + 1 + 1) (p := badNm ts L) (badNm_no (by rw [← hxi]; show isNm ts (x.i + 3) = false; unfold isNm; rw [k3]; rfl))
      have f4 := find_one (i + 1 + 1 + 1 + 1) (p := badNm ts L) (badNm_no (kw_nm hF (by rw [← hxi]; show kwL.contains (lAt ts (x.i + 4)) = true; rw [k4]; decide)))
      have f6 := find_one (i + 1 + 1 + 1 + 1 + 1 + x.t.len) (p := badNm ts L) (badNm_no (kw_nm hF (by rw [← hxi]; show kwL.contains (lAt ts (x.i + 5 + x.t.len)) = true; rw [k6]; decide)))
      have f5 := find_part hF L x.t (i + 1 + 1 + 1 + 1 + 1) (by rw [← hxi]; exact k5)
      rw [er, range_split, range_split, range_split, range_split, range_split, range_split, range_split, List.find?_append, List.find?_append, List.find?_append, List.find?_append, List.find?_append, List.find?_append, List.find?_append, f0, f2, f3, f4, f5, f6]
      simp only [badNameF, Option.none_or]
      have ho := hown (dcEq ts x b off) rfl _ hall
      by_cases hah : aheadR ts L (x.i + 1) = true
      · rw [if_pos (ho.2 hah)]
        have : (List.range' (i + 1) 1).find? (badNm ts L) = some (i + 1) := by simp [List.range', ← hxi, hbx, hah]
        rw [this]; simp [dcEq, hxi]
      · rw [if_neg (fun h => hah (ho.1 h))]
        have : (List.range' (i + 1) 1).find? (badNm ts L) = none := find_one _ (by rw [← hxi, hbx]; simpa using hah)
        rw [this, Option.none_or]
        have hseg : seg (N1 ++ (flat ts x.t (x.i + 5) 0 off ++ nodesD ts r (off + x.t.size)).map (bindF all)) (dcEq ts x b off).root (dcEq ts x b off).fin = (flat ts x.t (x.i + 5) 0 off).map (bindF all) := by
          rw [List.map_append]
          exact seg_mid hN1.symm (by simp [dcEq, flat_len, hN1])
        rw [hseg, badNode_find, bind_filter, flat_names hF _ _ _ _ k5]
        have hhere : ∀ y ∈ nmD ts x.t (x.i + 5) false, hereR L y.1 = false := by
          intro y hy
          have hy2 := nm_in _ _ _ y hy
          unfold hereR
          rw [List.any_eq_false]
          intro z hz
          have : z.i + 1 ≠ y.1 := by
            rw [hsplit] at hz
            rcases List.mem_append.1 hz with hz | hz
            · have := hb1 z hz; have := Dl.len_pos z; omega
            · rcases List.mem_cons.1 hz with rfl | hz
              · omega
              · have := hb2 z hz; omega
          simpa using this
        have hfn := find_nodes all L hn (nmD ts x.t (x.i + 5) false) hhere
        rw [show decide (0 < 0) = false by decide, hfn, show i + 1 + 1 + 1 + 1 + 1 = x.i + 5 by omega]
        cases hff : ((nmD ts x.t (x.i + 5) false).map Prod.fst).find? (qNm ts L) with
        | some k => simp
        | none =>
          simp only [Option.map_none, Option.none_or]
          have := ih (L1 ++ [x]) (i + x.len) (off + x.t.size) a (b + 1) (D1 ++ [dcEq ts x b off]) (N1 ++ (flat ts x.t (x.i + 5) 0 off).map (bindF all)) (by rw [hsplit]; simp) hsp' (by omega) (by rw [hall]; simp) (by simp [hlen]) (by simp [flat_len, hN1])
          rw [List.length_append, List.length_singleton, List.append_assoc, ← List.map_append] at this
          rw [this, show x.i + 5 + x.t.len + 1 = i + x.len by omega]
def nameT (ts : List Tk) (L : List Dl) (k : Nat) : Bool := (eqL L).any fun x => (nameD ts x).data.toList == lAt ts k && x.kind == 2
def opR (l : List UInt8) : Nat := if l = kFby then 63 else if l = [43] ∨ l = [45] ∨ l = [42] ∨ l = [47] then 110 else 116
def isR (ts : List Tk) (L : List Dl) (i : Nat) : Nat :=
  if (tkAt ts i).kind = 1 then (if nameT ts L i then 116 else 110)
  else if (tkAt ts i).kind = 3 then 110
  else if lAt ts i ≠ [40] then 116
  else if lAt ts (i + 1) = kNot then 116 else if lAt ts (i + 1) = kIf then 63
  else opR (lAt ts (behindF ts (i + 1)))
def bothR (l : List UInt8) : Nat := if l = [38] ∨ l = [124] then 116 else 110
def badR (ts : List Tk) (L : List Dl) (i w : Nat) : Bool := isR ts L i != 63 && isR ts L i != w
def wrongR (ts : List Tk) (L : List Dl) : Ast → Nat → Nat → Option Nat
  | .leaf, i, w => if badR ts L i w then some (tkAt ts i).pos else none
  | .neg a, i, w => if badR ts L i w then some (tkAt ts i).pos else wrongR ts L a (i + 2) 116
  | .ite a b c, i, w => if badR ts L i w then some (tkAt ts i).pos else (wrongR ts L a (i + 2) 116).or ((wrongR ts L b (i + 2 + a.len) w).or (wrongR ts L c (i + 2 + a.len + b.len) w))
  | .dly b, i, w => if badR ts L i w then some (tkAt ts i).pos else (if badR ts L (i + 1) w then some (tkAt ts (i + 1)).pos else none).or (wrongR ts L b (i + 3) w)
  | .bin a b, i, w => if badR ts L i w then some (tkAt ts i).pos else (wrongR ts L a (i + 1) (bothR (lAt ts (i + 1 + a.len)))).or (wrongR ts L b (i + 2 + a.len) (bothR (lAt ts (i + 1 + a.len))))
def wB (b : Bool) : Nat := if b then 116 else 110
def typesR (ts : List Tk) (L : List Dl) : Option Nat := (eqL L).findSome? fun x => wrongR ts L x.t (x.i + 5) (wB (x.kind == 2))
theorem findF_name (l : List Dc) {a b : ByteArray} (h : a.data.toList = b.data.toList) : findF l a = findF l b := by unfold findF; rw [h]
structure NamesOk (ts : List Tk) (L : List Dl) (ds : List Dc) : Prop where
  own : ∀ j (hj : j < ds.length), findF ds (ds[j]'hj).name = (j : Int)
  two : ds.map (fun d => (d.name, d.kind)) = L.map fun x => (nameD ts x, x.kind)
theorem any_two {ts : List Tk} {ds : List Dc} {L : List Dl} (h : ds.map (fun d => (d.name, d.kind)) = L.map fun x => (nameD ts x, x.kind)) (p : ByteArray × Nat → Bool) : (ds.any fun d => p (d.name, d.kind)) = L.any fun x => p (nameD ts x, x.kind) := by
  have e1 : (ds.any fun d => p (d.name, d.kind)) = (ds.map (fun d => (d.name, d.kind))).any p := by rw [List.any_map]; rfl
  have e2 : (L.any fun x => p (nameD ts x, x.kind)) = (L.map fun x => (nameD ts x, x.kind)).any p := by rw [List.any_map]; rfl
  rw [e1, e2, h]
theorem NamesOk.truth {ts : List Tk} {L : List Dl} {ds : List Dc} (h : NamesOk ts L ds) (k : Nat) (h0 : 0 ≤ findF ds (tkAt ts k).text) : (kindAt ds (findF ds (tkAt ts k).text) == 2) = nameT ts L k := by
  have e1 : nameT ts L k = ds.any fun d => d.name.data.toList == lAt ts k && d.kind == 2 := by
    have := any_two h.two (fun q => q.1.data.toList == lAt ts k && q.2 == 2)
    rw [this]
    unfold nameT eqL
    rw [List.any_filter]
    apply any_congr_mem
    intro x _
    cases hx : (x.kind == 2) with
    | false => simp
    | true =>
      have : x.kind = 2 := by simpa using hx
      simp [this]
  rw [e1, Bool.eq_iff_iff]
  constructor
  · intro hk
    unfold findF at h0 hk
    split at h0
    · rename_i i hi
      rw [hi] at hk
      rw [List.findIdx?_eq_some_iff_getElem] at hi
      obtain ⟨g1, g2, _⟩ := hi
      rw [List.any_eq_true]
      refine ⟨ds[i]'g1, List.getElem_mem g1, ?_⟩
      have hk' : (ds[i]'g1).kind = 2 := by
        unfold kindAt at hk
        simp only [Int.toNat_natCast] at hk
        rw [List.getD_eq_getElem?_getD, List.getElem?_eq_getElem g1] at hk
        simpa using hk
      rw [hk']
      simpa [Tk.l] using g2
    · omega
  · intro ha
    rw [List.any_eq_true] at ha
    obtain ⟨d, hd, h2⟩ := ha
    obtain ⟨j, hj, rfl⟩ := List.getElem_of_mem hd
    rw [Bool.and_eq_true, beq_iff_eq, beq_iff_eq] at h2
    have := h.own j hj
    rw [findF_name ds (b := (tkAt ts k).text) h2.1] at this
    rw [this]
    unfold kindAt
    rw [Int.toNat_natCast, List.getD_eq_getElem?_getD, List.getElem?_eq_getElem hj]
    simpa using h2.2
theorem nm_true {ts : List Tk} : ∀ (t : Ast) (i : Nat), ∀ x ∈ nmD ts t i true, x.2 = true := by
  intro t
  induction t with
  | leaf =>
    intro i x hx
    simp only [nmD] at hx
    split at hx
    · simp at hx; subst hx; rfl
    · simp at hx
  | neg a iha => intro i x hx; exact iha _ x hx
  | ite a b c iha ihb ihc =>
    intro i x hx
    simp only [nmD, List.mem_append] at hx
    rcases hx with hx | hx | hx
    · exact iha _ x hx
    · exact ihb _ x hx
    · exact ihc _ x hx
  | dly b ihb => intro i x hx; exact ihb _ x hx
  | bin a b iha ihb =>
    intro i x hx
    simp only [nmD, List.mem_append] at hx
    rcases hx with hx | hx
    · exact iha _ x hx
    · exact ihb _ x hx
theorem sp_first {ts : List Tk} (hF : ∀ i, TkF (tkAt ts i)) {t : Ast} {i : Nat} (h : Sp ts t i) : lAt ts i ≠ kNot ∧ lAt ts i ≠ kIf := by
  cases t with
  | leaf => exact ⟨(leaf_ne2 hF h.1).1, (leaf_ne2 hF h.1).2.1⟩
  | neg a => rw [h.1]; decide
  | ite a b c => rw [h.1]; decide
  | dly b => rw [h.1]; decide
  | bin a b => rw [h.1]; decide
section
variable {ts : List Tk} (hF : ∀ i, TkF (tkAt ts i)) {L : List Dl}
include hF
theorem isR_open {i : Nat} (h : lAt ts i = [40]) : isR ts L i = if lAt ts (i + 1) = kNot then 116 else if lAt ts (i + 1) = kIf then 63 else opR (lAt ts (behindF ts (i + 1))) := by
  unfold isR
  have h' : kwL.contains (tkAt ts i).l = true := by show kwL.contains (lAt ts i) = true; rw [h]; decide
  rw [if_neg ((hF i).not1 h'), if_neg ((hF i).not3 h'), if_neg (by simp [h])]
omit hF in
theorem bad_any {i w : Nat} (h : isR ts L i = 63) : badR ts L i w = false := by unfold badR; rw [h]; rfl
omit hF in
theorem bad_truth {i : Nat} {b : Bool} (x : Bool) (h : isR ts L i = wB x) : badR ts L i (wB b) = !(b == x) := by
  unfold badR; rw [h]; cases b <;> cases x <;> rfl
theorem fits_first {ds : List Dc} (hN : NamesOk ts L ds) {i : Nat} (hlf : leafT (tkAt ts i) = true) (h40 : lAt ts i ≠ [40]) (hdecl : (tkAt ts i).kind = 1 → 0 ≤ findF ds (tkAt ts i).text) (dl : Nat) (b : Bool) :
    fitsF ds (bindF ds (mkN ts i dl (leafN0 (tkAt ts i)))) b = !badR ts L i (wB b) := by
  by_cases h1 : (tkAt ts i).kind = 1
  · have hi : isR ts L i = wB (nameT ts L i) := by unfold isR; rw [if_pos h1]; rfl
    rw [bad_truth _ hi, leafN0_name (hF i) h1, Bool.not_not, ← hN.truth i (hdecl h1)]
    unfold bindF
    rw [if_pos (by rfl)]
    unfold fitsF
    rw [if_neg (by simp [mkN]), if_neg (by simp [mkN]), if_pos (by simp [mkN])]
    rfl
  · have hb : bindF ds (mkN ts i dl (leafN0 (tkAt ts i))) = mkN ts i dl (leafN0 (tkAt ts i)) := by
      unfold bindF; rw [if_neg (show ¬ (mkN ts i dl (leafN0 (tkAt ts i))).kind = 2 from leafN0_no hlf h1)]
    rw [hb]
    by_cases h3 : (tkAt ts i).kind = 3
    · have hi : isR ts L i = wB false := by unfold isR; rw [if_neg h1, if_pos h3]; rfl
      rw [bad_truth _ hi, Bool.not_not]
      have hl : leafN0 (tkAt ts i) = { ndZero with kind := 0, value := valOf (tkAt ts i).l } := by
        have hn : ∀ l, kwL.contains l = true → (tkAt ts i).l ≠ l := fun l hl e => by have := (hF i).k3 h3; rw [e, hl] at this; cases this
        unfold leafN0; rw [if_neg (hn _ (by decide)), if_neg (hn _ (by decide)), if_pos h3]
      rw [hl]; cases b <;> rfl
    · have hi : isR ts L i = wB true := by unfold isR; rw [if_neg h1, if_neg h3, if_pos h40]; rfl
      rw [bad_truth _ hi, Bool.not_not]
      have hl : (mkN ts i dl (leafN0 (tkAt ts i))).kind = 1 := by
        unfold leafT litT at hlf
        simp only [Bool.or_eq_true, beq_iff_eq, h1, h3, or_false, false_or] at hlf
        rw [mkN_kind]
        unfold leafN0
        rcases hlf with h | h
        · rw [if_pos h]
        · by_cases e : (tkAt ts i).l = kTrue
          · rw [if_pos e]
          · rw [if_neg e, if_pos h]
      unfold fitsF
      rw [if_neg (by rw [hl]; decide), if_pos (.inl hl)]; cases b <;> rfl
omit hF in
theorem badType_cons (ds : List Dc) (i : Nat) (n : Nd) (r : List Nd) (tr : List Bool) : badTypeF ds i (n :: r) tr = if fitsF ds n (tr.getD i false) = true then badTypeF ds (i + 1) r (tell n (tr.getD i false) tr) else some n.pos := rfl
omit hF in
theorem getD_set_ne {l : List Bool} {i j : Nat} {v : Bool} (h : i ≠ j) : (l.set i v).getD j false = l.getD j false := by
  rw [List.getD_eq_getElem?_getD, List.getD_eq_getElem?_getD, List.getElem?_set_ne h]
omit hF in
theorem getD_set_eq {l : List Bool} {i : Nat} {v : Bool} (h : i < l.length) : (l.set i v).getD i false = v := by
  rw [List.getD_eq_getElem?_getD, List.getElem?_set_self h]; rfl
theorem pass_expr {ds : List Dc} (hN : NamesOk ts L ds) : ∀ (t : Ast) (i dl off : Nat) (tr : List Bool) (rest : List Nd), Sp ts t i → i + t.len ≤ ts.length → (∀ x ∈ nmD ts t i false, 0 ≤ findF ds (tkAt ts x.1).text) → off + t.size ≤ tr.length →
    ∃ tr' : List Bool, tr'.length = tr.length ∧ (∀ j, off + t.size ≤ j → tr'.getD j false = tr.getD j false) ∧
      badTypeF ds off ((flat ts t i dl off).map (bindF ds) ++ rest) tr = (wrongR ts L t i (wB (tr.getD off false))).or (badTypeF ds (off + t.size) rest tr') := by
  have other : ∀ (n : Nd) (i dl : Nat), n.kind ≠ 2 → bindF ds (mkN ts i dl n) = mkN ts i dl n := fun n i dl h => by unfold bindF; rw [if_neg (show ¬ (mkN ts i dl n).kind = 2 from h)]
  intro t
  induction t with
  | leaf =>
    intro i dl off tr rest hs hl hd hlen
    refine ⟨tr, rfl, fun _ _ => rfl, ?_⟩
    simp only [flat, List.map_cons, List.map_nil, List.singleton_append]
    rw [badType_cons, fits_first hF hN hs.1 hs.2 (fun hk => hd (i, false) (by simp [nmD, hk])) dl]
    simp only [wrongR, Ast.size]
    have ht : tell (bindF ds (mkN ts i dl (leafN0 (tkAt ts i)))) (tr.getD off false) tr = tr := by
      have hk : (bindF ds (mkN ts i dl (leafN0 (tkAt ts i)))).kind ≤ 2 := by
        rw [(bindF_keep ds _).1, mkN_kind]
        unfold leafN0
        split; · simp
        split; · simp
        split; · simp
        · simp
      unfold tell
      rw [if_neg (by omega), if_neg (by omega), if_neg (by omega), if_neg (by omega)]
    rw [ht]
    have hp : (bindF ds (mkN ts i dl (leafN0 (tkAt ts i)))).pos = (tkAt ts i).pos := by unfold bindF; split <;> rfl
    rw [hp]
    cases badR ts L i (wB (tr.getD off false)) <;> simp
  | neg a iha =>
    intro i dl off tr rest hs hl hd hlen
    obtain ⟨h1, h2, h3, h4⟩ := hs
    have pa := a.size_pos
    simp only [Ast.len, Ast.size] at hl hlen ⊢
    simp only [flat, List.map_cons, List.cons_append]
    rw [other _ _ _ (by simp), badType_cons]
    have hi : isR ts L i = wB true := by rw [isR_open hF h1, if_pos h2]; rfl
    have hf : fitsF ds (mkN ts i dl { ndZero with kind := 3, a := off + 1 }) (tr.getD off false) = !badR ts L i (wB (tr.getD off false)) := by
      rw [bad_truth _ hi]; unfold fitsF; simp [mkN]
    rw [hf]
    simp only [wrongR]
    cases hb : badR ts L i (wB (tr.getD off false)) with
    | true => exact ⟨tr, rfl, fun _ _ => rfl, by simp [mkN]⟩
    | false =>
      have ht : tell (mkN ts i dl { ndZero with kind := 3, a := off + 1 }) (tr.getD off false) tr = tr.set (off + 1) true := by unfold tell; simp [mkN]
      rw [ht]
      obtain ⟨tr', e1, e2, e3⟩ := iha (i + 2) dl (off + 1) (tr.set (off + 1) true) rest h3 (by omega) hd (by simp; omega)
      refine ⟨tr', by rw [e1]; simp, fun j hj => by rw [e2 j (by omega), getD_set_ne (by omega)], ?_⟩
      rw [if_pos (by simp), e3, getD_set_eq (by omega)]
      simp only [Bool.false_eq_true, if_false]
      rw [show off + 1 + a.size = off + (a.size + 1) by omega]
      rfl
  | ite a b c iha ihb ihc =>
    intro i dl off tr rest hs hl hd hlen
    obtain ⟨h1, h2, h3, h4, h5, h6⟩ := hs
    have pa := a.size_pos
    have pb := b.size_pos
    have pc := c.size_pos
    simp only [Ast.len, Ast.size] at hl hlen ⊢
    simp only [flat, List.map_cons, List.cons_append, List.map_append, List.append_assoc]
    rw [other _ _ _ (by simp), badType_cons]
    have hi : isR ts L i = 63 := by rw [isR_open hF h1, if_neg (by rw [h2]; decide), if_pos h2]
    have hf : fitsF ds (mkN ts i dl { ndZero with kind := 4, a := off + 1, b := off + 1 + a.size, c := off + 1 + a.size + b.size }) (tr.getD off false) = true := by
      unfold fitsF; simp [mkN]
    rw [hf, if_pos rfl]
    simp only [wrongR]
    rw [bad_any hi]
    have ht : tell (mkN ts i dl { ndZero with kind := 4, a := off + 1, b := off + 1 + a.size, c := off + 1 + a.size + b.size }) (tr.getD off false) tr = ((tr.set (off + 1) true).set (off + 1 + a.size) (tr.getD off false)).set (off + 1 + a.size + b.size) (tr.getD off false) := by unfold tell; simp [mkN]
    rw [ht]
    generalize hv : tr.getD off false = v
    generalize htr : ((tr.set (off + 1) true).set (off + 1 + a.size) v).set (off + 1 + a.size + b.size) v = tr0
    have l0 : tr0.length = tr.length := by rw [← htr]; simp
    have ga : tr0.getD (off + 1) false = true := by rw [← htr, getD_set_ne (by omega), getD_set_ne (by omega), getD_set_eq (by omega)]
    have gb : tr0.getD (off + 1 + a.size) false = v := by rw [← htr, getD_set_ne (by omega), getD_set_eq (by simp; omega)]
    have gc : tr0.getD (off + 1 + a.size + b.size) false = v := by rw [← htr, getD_set_eq (by simp; omega)]
    have go : ∀ j, off + (a.size + b.size + c.size + 1) ≤ j → tr0.getD j false = tr.getD j false := fun j hj => by rw [← htr, getD_set_ne (by omega), getD_set_ne (by omega), getD_set_ne (by omega)]
    obtain ⟨t1, x1, y1, z1⟩ := iha (i + 2) dl (off + 1) tr0 ((flat ts b (i + 2 + a.len) dl (off + 1 + a.size)).map (bindF ds) ++ ((flat ts c (i + 2 + a.len + b.len) dl (off + 1 + a.size + b.size)).map (bindF ds) ++ rest)) h3 (by omega) (fun x hx => hd x (by simp only [nmD, List.mem_append]; exact .inl hx)) (by omega)
    obtain ⟨t2, x2, y2, z2⟩ := ihb (i + 2 + a.len) dl (off + 1 + a.size) t1 ((flat ts c (i + 2 + a.len + b.len) dl (off + 1 + a.size + b.size)).map (bindF ds) ++ rest) h4 (by omega) (fun x hx => hd x (by simp only [nmD, List.mem_append]; exact .inr (.inl hx))) (by omega)
    obtain ⟨t3, x3, y3, z3⟩ := ihc (i + 2 + a.len + b.len) dl (off + 1 + a.size + b.size) t2 rest h5 (by omega) (fun x hx => hd x (by simp only [nmD, List.mem_append]; exact .inr (.inr hx))) (by omega)
    refine ⟨t3, by omega, fun j hj => by rw [y3 j (by omega), y2 j (by omega), y1 j (by omega), go j hj], ?_⟩
    rw [z1, z2, z3, ga, y1 _ (by omega), gb, y2 _ (by omega), y1 _ (by omega), gc]
    simp only [Bool.false_eq_true, if_false]
    rw [show off + 1 + a.size + b.size + c.size = off + (a.size + b.size + c.size + 1) by omega, Option.or_assoc, Option.or_assoc]
    rfl
  | dly b ihb =>
    intro i dl off tr rest hs hl hd hlen
    obtain ⟨h1, h2, h3, h4, h5⟩ := hs
    have hlf : leafT (tkAt ts (i + 1)) = true := by unfold leafT; rw [h2]; rfl
    obtain ⟨n1, n2, n3, _⟩ := leaf_ne2 hF hlf
    have pb := b.size_pos
    simp only [Ast.len, Ast.size] at hl hlen ⊢
    simp only [flat, List.map_cons, List.cons_append]
    rw [other _ _ _ (by simp), badType_cons]
    have hbh : behindF ts (i + 1) = i + 2 := behind_sp hF .leaf (i + 1) ⟨hlf, n3⟩ (by simp only [Ast.len]; omega)
    have hi : isR ts L i = 63 := by rw [isR_open hF h1, if_neg n1, if_neg n2, hbh]; unfold opR; rw [if_pos h3]
    have hf : fitsF ds (mkN ts i dl { ndZero with kind := 5, a := off + 1, b := off + 2 }) (tr.getD off false) = true := by
      unfold fitsF; simp [mkN]
    rw [hf, if_pos rfl]
    simp only [wrongR]
    rw [bad_any hi]
    have ht : tell (mkN ts i dl { ndZero with kind := 5, a := off + 1, b := off + 2 }) (tr.getD off false) tr = (tr.set (off + 1) (tr.getD off false)).set (off + 2) (tr.getD off false) := by unfold tell; simp [mkN]
    rw [ht]
    generalize hv : tr.getD off false = v
    generalize htr : (tr.set (off + 1) v).set (off + 2) v = tr0
    have l0 : tr0.length = tr.length := by rw [← htr]; simp
    have ga : tr0.getD (off + 1) false = v := by rw [← htr, getD_set_ne (by omega), getD_set_eq (by omega)]
    have gb : tr0.getD (off + 2) false = v := by rw [← htr, getD_set_eq (by simp; omega)]
    have go : ∀ j, off + (b.size + 2) ≤ j → tr0.getD j false = tr.getD j false := fun j hj => by rw [← htr, getD_set_ne (by omega), getD_set_ne (by omega)]
    have hk1 : (tkAt ts (i + 1)).kind ≠ 1 := by have := lit_nm hF h2; unfold isNm at this; simpa using this
    rw [badType_cons, ga, fits_first hF hN hlf n3 (fun hk => absurd hk hk1) dl]
    have ht2 : tell (bindF ds (mkN ts (i + 1) dl (leafN0 (tkAt ts (i + 1))))) v tr0 = tr0 := by
      have hk : (bindF ds (mkN ts (i + 1) dl (leafN0 (tkAt ts (i + 1))))).kind ≤ 2 := by
        rw [(bindF_keep ds _).1, mkN_kind]
        unfold leafN0
        split; · simp
        split; · simp
        split; · simp
        · simp
      unfold tell
      rw [if_neg (by omega), if_neg (by omega), if_neg (by omega), if_neg (by omega)]
    have hp : (bindF ds (mkN ts (i + 1) dl (leafN0 (tkAt ts (i + 1))))).pos = (tkAt ts (i + 1)).pos := by unfold bindF; split <;> rfl
    rw [ht2, hp]
    cases hb : badR ts L (i + 1) (wB v) with
    | true => exact ⟨tr, rfl, fun _ _ => rfl, by simp⟩
    | false =>
      obtain ⟨t1, x1, y1, z1⟩ := ihb (i + 3) (dl + 1) (off + 2) tr0 rest h4 (by omega) (fun x hx => by
        have := hd
        simp only [nmD] at this
        have hmem : (x.1, true) ∈ nmD ts b (i + 3) true := by
          have hx1 : x.1 ∈ (nmD ts b (i + 3) false).map Prod.fst := List.mem_map.2 ⟨x, hx, rfl⟩
          rw [← nm_filter hF b (i + 3) false h4, nm_filter hF b (i + 3) true h4] at hx1
          obtain ⟨y, hy, he⟩ := List.mem_map.1 hx1
          have hyt : y.2 = true := nm_true b (i + 3) y hy
          have e : y = (x.1, true) := Prod.ext he hyt
          rw [← e]; exact hy
        exact this (x.1, true) hmem) (by omega)
      refine ⟨t1, by omega, fun j hj => by rw [y1 j (by omega), go j (by omega)], ?_⟩
      rw [if_pos (by simp), z1, gb]
      simp only [Bool.false_eq_true, if_false, Option.none_or]
      rw [show off + 2 + b.size = off + (b.size + 2) by omega]
  | bin a b iha ihb =>
    intro i dl off tr rest hs hl hd hlen
    obtain ⟨h1, h2, h3, h4, h5⟩ := hs
    obtain ⟨n1, n2⟩ := sp_first hF h2
    have pa := a.size_pos
    have pb := b.size_pos
    simp only [Ast.len, Ast.size] at hl hlen ⊢
    simp only [flat, List.map_cons, List.cons_append, List.map_append, List.append_assoc]
    rw [other _ _ _ (by simp), badType_cons]
    have hbh : behindF ts (i + 1) = i + 1 + a.len := behind_sp hF a (i + 1) h2 (by omega)
    generalize ho : lAt ts (i + 1 + a.len) = o at h3 ⊢
    have hcs : (opR o = wB (makesT ((opOf o).getD 0))) ∧ bothR o = wB (takesT ((opOf o).getD 0)) := by
      revert h3
      unfold opOf
      split; · rename_i e; subst e; intro _; decide
      split; · rename_i e; subst e; intro _; decide
      split; · rename_i e; subst e; intro _; decide
      split; · rename_i e; subst e; intro _; decide
      split; · rename_i e; subst e; intro _; decide
      split; · rename_i e; subst e; intro _; decide
      split; · rename_i e; subst e; intro _; decide
      split; · rename_i e; subst e; intro _; decide
      · intro h; cases h
    have hi : isR ts L i = wB (makesT ((opOf o).getD 0)) := by rw [isR_open hF h1, if_neg n1, if_neg n2, hbh, ho]; exact hcs.1
    have hf : fitsF ds (mkN ts i dl { ndZero with kind := 6, op := (opOf o).getD 0, a := off + 1, b := off + 1 + a.size }) (tr.getD off false) = !badR ts L i (wB (tr.getD off false)) := by
      rw [bad_truth _ hi]; unfold fitsF; simp [mkN]
    rw [hf]
    simp only [wrongR]
    rw [ho]
    cases hb : badR ts L i (wB (tr.getD off false)) with
    | true => exact ⟨tr, rfl, fun _ _ => rfl, by simp [mkN]⟩
    | false =>
      have ht : tell (mkN ts i dl { ndZero with kind := 6, op := (opOf o).getD 0, a := off + 1, b := off + 1 + a.size }) (tr.getD off false) tr = (tr.set (off + 1) (takesT ((opOf o).getD 0))).set (off + 1 + a.size) (takesT ((opOf o).getD 0)) := by unfold tell; simp [mkN]
      rw [ht, hcs.2]
      generalize hv : takesT ((opOf o).getD 0) = v
      generalize htr : (tr.set (off + 1) v).set (off + 1 + a.size) v = tr0
      have l0 : tr0.length = tr.length := by rw [← htr]; simp
      have ga : tr0.getD (off + 1) false = v := by rw [← htr, getD_set_ne (by omega), getD_set_eq (by omega)]
      have gb : tr0.getD (off + 1 + a.size) false = v := by rw [← htr, getD_set_eq (by simp; omega)]
      have go : ∀ j, off + (a.size + b.size + 1) ≤ j → tr0.getD j false = tr.getD j false := fun j hj => by rw [← htr, getD_set_ne (by omega), getD_set_ne (by omega)]
      obtain ⟨t1, x1, y1, z1⟩ := iha (i + 1) dl (off + 1) tr0 ((flat ts b (i + 2 + a.len) dl (off + 1 + a.size)).map (bindF ds) ++ rest) h2 (by omega) (fun x hx => hd x (by simp only [nmD, List.mem_append]; exact .inl hx)) (by omega)
      obtain ⟨t2, x2, y2, z2⟩ := ihb (i + 2 + a.len) dl (off + 1 + a.size) t1 rest h4 (by omega) (fun x hx => hd x (by simp only [nmD, List.mem_append]; exact .inr hx)) (by omega)
      refine ⟨t2, by omega, fun j hj => by rw [y2 j (by omega), y1 j (by omega), go j (by omega)], ?_⟩
      rw [if_pos (by simp), z1, z2, ga, y1 _ (by omega), gb]
      simp only [Bool.false_eq_true, if_false]
      rw [show off + 1 + a.size + b.size = off + (a.size + b.size + 1) by omega, Option.or_assoc]
end
def TrOk : List Dl → Nat → List Bool → Prop
  | [], _, _ => True
  | x :: r, off, tr => if x.kind = 0 then TrOk r off tr else tr.getD off false = (x.kind == 2) ∧ TrOk r (off + x.t.size) tr
def totN : List Dl → Nat
  | [] => 0
  | x :: r => if x.kind = 0 then totN r else x.t.size + totN r
theorem nodesD_len (ts : List Tk) : ∀ (L : List Dl) (off : Nat), (nodesD ts L off).length = totN L := by
  intro L
  induction L with
  | nil => intro off; rfl
  | cons x r ih =>
    intro off
    simp only [nodesD, totN]
    split
    · exact ih off
    · rw [List.length_append, flat_len, ih]
theorem TrOk.congr : ∀ (L : List Dl) (off : Nat) (tr tr' : List Bool), (∀ j, off ≤ j → tr'.getD j false = tr.getD j false) → TrOk L off tr → TrOk L off tr' := by
  intro L
  induction L with
  | nil => intro off tr tr' _ _; trivial
  | cons x r ih =>
    intro off tr tr' h hT
    simp only [TrOk] at hT ⊢
    split
    · rename_i hk; rw [if_pos hk] at hT; exact ih off tr tr' h hT
    · rename_i hk; rw [if_neg hk] at hT; exact ⟨by rw [h off (Nat.le_refl _)]; exact hT.1, ih _ tr tr' (fun j hj => h j (by omega)) hT.2⟩
theorem roots_below (ts : List Tk) : ∀ (L : List Dl) (off a b : Nat) (tr : List Bool) (j : Nat), j < off → (roots (declsD ts L off a b) tr).getD j false = tr.getD j false := by
  intro L
  induction L with
  | nil => intro off a b tr j _; rfl
  | cons x r ih =>
    intro off a b tr j hj
    simp only [declsD]
    split
    · simp only [roots]
      rw [if_neg (show ¬ (dcIn ts x a).kind = 2 by show ¬ (0 : Nat) = 2; decide)]
      exact ih off (a + 1) b tr j hj
    · simp only [roots]
      rw [ih (off + x.t.size) a (b + 1) _ j (by omega)]
      split
      · rw [getD_set_ne (show (dcEq ts x b off).root ≠ j by show off ≠ j; omega)]
      · rfl
theorem roots_len (ds : List Dc) : ∀ (tr : List Bool), (roots ds tr).length = tr.length := by
  induction ds with
  | nil => intro tr; rfl
  | cons d r ih => intro tr; simp only [roots]; rw [ih]; split <;> simp
theorem roots_ok (ts : List Tk) : ∀ (L : List Dl) (off a b : Nat) (tr : List Bool), (∀ j, off ≤ j → tr.getD j false = false) → off + totN L ≤ tr.length → TrOk L off (roots (declsD ts L off a b) tr) := by
  intro L
  induction L with
  | nil => intro off a b tr _ _; trivial
  | cons x r ih =>
    intro off a b tr h hl
    simp only [totN] at hl
    simp only [declsD, TrOk]
    by_cases hk : x.kind = 0
    · rw [if_pos hk] at hl
      rw [if_pos hk, if_pos hk]
      simp only [roots]
      rw [if_neg (show ¬ (dcIn ts x a).kind = 2 by show ¬ (0 : Nat) = 2; decide)]
      exact ih off (a + 1) b tr h hl
    · rw [if_neg hk] at hl
      rw [if_neg hk, if_neg hk]
      have hp := x.t.size_pos
      simp only [roots]
      have hr : (dcEq ts x b off).root = off := rfl
      have hkk : (dcEq ts x b off).kind = x.kind := rfl
      rw [hr, hkk]
      refine ⟨?_, ?_⟩
      · rw [roots_below ts r _ _ _ _ off (by omega)]
        by_cases h2 : x.kind = 2
        · rw [if_pos h2, getD_set_eq (by omega), h2]; rfl
        · rw [if_neg h2, h off (Nat.le_refl _)]
          exact (beq_eq_false_iff_ne.2 h2).symm
      · refine ih _ _ _ _ (fun j hj => ?_) ?_
        · split
          · rw [getD_set_ne (by omega)]; exact h j (by omega)
          · exact h j (by omega)
        · split
          · rw [List.length_set]; omega
          · omega
theorem types_eq {ts : List Tk} (hF : ∀ i, TkF (tkAt ts i)) {L : List Dl} {ds : List Dc} (hN : NamesOk ts L ds) :
    ∀ (L2 : List Dl) (i off : Nat) (tr : List Bool), Spell ts L2 i → TrOk L2 off tr → off + totN L2 ≤ tr.length → (∀ x ∈ L2, x.kind ≠ 0 → ∀ y ∈ nmD ts x.t (x.i + 5) false, 0 ≤ findF ds (tkAt ts y.1).text) →
      badTypeF ds off ((nodesD ts L2 off).map (bindF ds)) tr = (eqL L2).findSome? fun x => wrongR ts L x.t (x.i + 5) (wB (x.kind == 2)) := by
  intro L2
  induction L2 with
  | nil => intro i off tr _ _ _ _; rfl
  | cons x r ih =>
    intro i off tr hs hT hl hd
    obtain ⟨h1, h2, h3, h4⟩ := hs
    simp only [TrOk] at hT
    simp only [totN] at hl
    by_cases hk : x.kind = 0
    · rw [if_pos hk] at hT hl
      have e : eqL (x :: r) = eqL r := by simp [eqL, hk]
      simp only [nodesD, if_pos hk]
      rw [e]
      exact ih _ off tr h4 hT hl (fun y hy => hd y (List.mem_cons_of_mem _ hy))
    · rw [if_neg hk] at hT hl
      have e : eqL (x :: r) = x :: eqL r := by simp [eqL, hk]
      simp only [nodesD, if_neg hk]
      have hsp : Sp ts x.t (x.i + 5) := by
        rcases h3 with ⟨h, _⟩ | ⟨_, _, _, _, _, h, _⟩
        · exact absurd h hk
        · exact h
      have hlen : x.len = x.t.len + 6 := by unfold Dl.len; rw [if_neg hk]
      obtain ⟨tr', e1, e2, e3⟩ := pass_expr hF hN x.t (x.i + 5) 0 off tr ((nodesD ts r (off + x.t.size)).map (bindF ds)) hsp (by omega) (hd x (List.mem_cons_self ..) hk) (by omega)
      rw [List.map_append, e3, e, List.findSome?_cons, hT.1, ih _ (off + x.t.size) tr' h4 (hT.2.congr r _ tr tr' e2) (by omega) (fun y hy => hd y (List.mem_cons_of_mem _ hy))]
      cases wrongR ts L x.t (x.i + 5) (wB (x.kind == 2)) <;> rfl
def delayedR (ts : List Tk) (from' j : Nat) : Bool := (List.range' from' (j - from')).any fun f => lAt ts f == kFby && decide (j < behindF ts (f + 1))
def hangsR (ts : List Tk) (x : Dl) (name : List UInt8) : Bool := (List.range' (x.i + 5) x.t.len).any fun j => isNm ts j && (lAt ts j == name && !delayedR ts (x.i + 5) j)
theorem delayed_iff (ts : List Tk) (i j : Nat) : delayedR ts i j = true ↔ ∃ f, i ≤ f ∧ f < j ∧ lAt ts f = kFby ∧ j < behindF ts (f + 1) := by
  unfold delayedR
  rw [List.any_eq_true]
  constructor
  · rintro ⟨f, hf, h⟩
    rw [List.mem_range'_1] at hf
    rw [Bool.and_eq_true, beq_iff_eq, decide_eq_true_iff] at h
    exact ⟨f, hf.1, by omega, h.1, h.2⟩
  · rintro ⟨f, h1, h2, h3, h4⟩
    refine ⟨f, ?_, ?_⟩
    · rw [List.mem_range'_1]; omega
    · rw [Bool.and_eq_true, beq_iff_eq, decide_eq_true_iff]; exact ⟨h3, h4⟩
section
variable {ts : List Tk} (hF : ∀ i, TkF (tkAt ts i))
include hF
theorem fby_in : ∀ (t : Ast) (i : Nat), Sp ts t i → i + t.len ≤ ts.length → ∀ f, i ≤ f → f < i + t.len → lAt ts f = kFby → behindF ts (f + 1) ≤ i + t.len := by
  intro t
  induction t with
  | leaf =>
    intro i hs hl f h1 h2 h3
    simp only [Ast.len] at h2
    have : f = i := by omega
    subst this
    exact absurd h3 (leaf_ne hF hs.1 (by decide) (by decide) (by decide))
  | neg a iha =>
    intro i hs hl f h1 h2 h3
    obtain ⟨k1, k2, k3, k4⟩ := hs
    simp only [Ast.len] at hl h2 ⊢
    by_cases c1 : f < i + 2
    · have : f = i ∨ f = i + 1 := by omega
      rcases this with rfl | rfl
      · rw [k1] at h3; cases h3
      · rw [k2] at h3; exact absurd h3 (by decide)
    by_cases c2 : f < i + 2 + a.len
    · have := iha (i + 2) k3 (by omega) f (by omega) c2 h3; omega
    · have : f = i + 2 + a.len := by omega
      subst this
      rw [k4] at h3; cases h3
  | ite a b c iha ihb ihc =>
    intro i hs hl f h1 h2 h3
    obtain ⟨k1, k2, k3, k4, k5, k6⟩ := hs
    simp only [Ast.len] at hl h2 ⊢
    by_cases c1 : f < i + 2
    · have : f = i ∨ f = i + 1 := by omega
      rcases this with rfl | rfl
      · rw [k1] at h3; cases h3
      · rw [k2] at h3; exact absurd h3 (by decide)
    by_cases c2 : f < i + 2 + a.len
    · have := iha (i + 2) k3 (by omega) f (by omega) c2 h3; omega
    by_cases c3 : f < i + 2 + a.len + b.len
    · have := ihb (i + 2 + a.len) k4 (by omega) f (by omega) c3 h3; omega
    by_cases c4 : f < i + 2 + a.len + b.len + c.len
    · have := ihc (i + 2 + a.len + b.len) k5 (by omega) f (by omega) c4 h3; omega
    · have : f = i + 2 + a.len + b.len + c.len := by omega
      subst this
      rw [k6] at h3; cases h3
  | dly b ihb =>
    intro i hs hl f h1 h2 h3
    obtain ⟨k1, k2, k3, k4, k5⟩ := hs
    simp only [Ast.len] at hl h2 ⊢
    by_cases c1 : f < i + 2
    · have : f = i ∨ f = i + 1 := by omega
      rcases this with rfl | rfl
      · rw [k1] at h3; cases h3
      · exact absurd h3 (leaf_ne hF (by unfold leafT; rw [k2]; rfl) (by decide) (by decide) (by decide))
    by_cases c2 : f = i + 2
    · subst c2
      have := behind_sp hF b (i + 2 + 1) k4 (by omega)
      omega
    by_cases c3 : f < i + 3 + b.len
    · have := ihb (i + 3) k4 (by omega) f (by omega) c3 h3; omega
    · have : f = i + 3 + b.len := by omega
      subst this
      rw [k5] at h3; cases h3
  | bin a b iha ihb =>
    intro i hs hl f h1 h2 h3
    obtain ⟨k1, k2, k3, k4, k5⟩ := hs
    simp only [Ast.len] at hl h2 ⊢
    by_cases c1 : f = i
    · subst c1; rw [k1] at h3; cases h3
    by_cases c2 : f < i + 1 + a.len
    · have := iha (i + 1) k2 (by omega) f (by omega) c2 h3; omega
    by_cases c3 : f = i + 1 + a.len
    · subst c3; exact absurd h3 (op_ne k3).2.2.2
    by_cases c4 : f < i + 2 + a.len + b.len
    · have := ihb (i + 2 + a.len) k4 (by omega) f (by omega) c4 h3; omega
    · have : f = i + 2 + a.len + b.len := by omega
      subst this
      rw [k5] at h3; cases h3
omit hF in
theorem delayed_shift {i j k : Nat} (hij : i ≤ j) (_hjk : j ≤ k) (h : ∀ f, i ≤ f → f < j → lAt ts f = kFby → behindF ts (f + 1) ≤ k) : delayedR ts i k = delayedR ts j k := by
  rw [Bool.eq_iff_iff, delayed_iff, delayed_iff]
  constructor
  · rintro ⟨f, h1, h2, h3, h4⟩
    by_cases c : f < j
    · have := h f h1 c h3; omega
    · exact ⟨f, by omega, h2, h3, h4⟩
  · rintro ⟨f, h1, h2, h3, h4⟩; exact ⟨f, by omega, h2, h3, h4⟩
theorem nm_delayed : ∀ (t : Ast) (i : Nat) (dl : Bool), Sp ts t i → i + t.len ≤ ts.length → ∀ x ∈ nmD ts t i dl, x.2 = (dl || delayedR ts i x.1) := by
  intro t
  induction t with
  | leaf =>
    intro i dl hs hl x hx
    simp only [nmD] at hx
    split at hx
    · simp only [List.mem_singleton] at hx
      subst hx
      have : delayedR ts i i = false := by unfold delayedR; simp
      rw [this, Bool.or_false]
    · simp at hx
  | neg a iha =>
    intro i dl hs hl x hx
    obtain ⟨k1, k2, k3, k4⟩ := hs
    simp only [Ast.len] at hl
    have hin := nm_in a (i + 2) dl x hx
    rw [iha (i + 2) dl k3 (by omega) x hx, delayed_shift (i := i) (j := i + 2) (by omega) hin.1]
    intro f h1 h2 h3
    have : f = i ∨ f = i + 1 := by omega
    rcases this with rfl | rfl
    · rw [k1] at h3; cases h3
    · rw [k2] at h3; exact absurd h3 (by decide)
  | ite a b c iha ihb ihc =>
    intro i dl hs hl x hx
    obtain ⟨k1, k2, k3, k4, k5, k6⟩ := hs
    simp only [Ast.len] at hl
    simp only [nmD, List.mem_append] at hx
    have hfirst : ∀ f, i ≤ f → f < i + 2 → lAt ts f = kFby → False := by
      intro f h1 h2 h3
      have : f = i ∨ f = i + 1 := by omega
      rcases this with rfl | rfl
      · rw [k1] at h3; cases h3
      · rw [k2] at h3; exact absurd h3 (by decide)
    rcases hx with hx | hx | hx
    · have hin := nm_in _ _ _ x hx
      rw [iha (i + 2) dl k3 (by omega) x hx, delayed_shift (i := i) (j := i + 2) (by omega) hin.1]
      intro f h1 h2 h3
      exact (hfirst f h1 h2 h3).elim
    · have hin := nm_in _ _ _ x hx
      rw [ihb (i + 2 + a.len) dl k4 (by omega) x hx, delayed_shift (i := i) (j := i + 2 + a.len) (by omega) hin.1]
      intro f h1 h2 h3
      by_cases c1 : f < i + 2
      · exact (hfirst f h1 c1 h3).elim
      · have := fby_in hF a (i + 2) k3 (by omega) f (by omega) h2 h3; omega
    · have hin := nm_in _ _ _ x hx
      rw [ihc (i + 2 + a.len + b.len) dl k5 (by omega) x hx, delayed_shift (i := i) (j := i + 2 + a.len + b.len) (by omega) hin.1]
      intro f h1 h2 h3
      by_cases c1 : f < i + 2
      · exact (hfirst f h1 c1 h3).elim
      by_cases c2 : f < i + 2 + a.len
      · have := fby_in hF a (i + 2) k3 (by omega) f (by omega) c2 h3; omega
      · have := fby_in hF b (i + 2 + a.len) k4 (by omega) f (by omega) h2 h3; omega
  | dly b ihb =>
    intro i dl hs hl x hx
    obtain ⟨k1, k2, k3, k4, k5⟩ := hs
    simp only [Ast.len] at hl
    have hin := nm_in b (i + 3) true x hx
    rw [nm_true b (i + 3) x hx]
    have : delayedR ts i x.1 = true := by
      rw [delayed_iff]
      refine ⟨i + 2, by omega, by omega, k3, ?_⟩
      rw [behind_sp hF b (i + 2 + 1) k4 (by omega)]; omega
    rw [this, Bool.or_true]
  | bin a b iha ihb =>
    intro i dl hs hl x hx
    obtain ⟨k1, k2, k3, k4, k5⟩ := hs
    simp only [Ast.len] at hl
    simp only [nmD, List.mem_append] at hx
    have hfirst : ∀ f, i ≤ f → f < i + 1 → lAt ts f = kFby → False := by
      intro f h1 h2 h3
      have : f = i := by omega
      subst this
      rw [k1] at h3; cases h3
    rcases hx with hx | hx
    · have hin := nm_in _ _ _ x hx
      rw [iha (i + 1) dl k2 (by omega) x hx, delayed_shift (i := i) (j := i + 1) (by omega) hin.1]
      intro f h1 h2 h3
      exact (hfirst f h1 h2 h3).elim
    · have hin := nm_in _ _ _ x hx
      rw [ihb (i + 2 + a.len) dl k4 (by omega) x hx, delayed_shift (i := i) (j := i + 2 + a.len) (by omega) hin.1]
      intro f h1 h2 h3
      by_cases c1 : f < i + 1
      · exact (hfirst f h1 c1 h3).elim
      by_cases c2 : f < i + 1 + a.len
      · have := fby_in hF a (i + 1) k2 (by omega) f (by omega) c2 h3; omega
      · have : f = i + 1 + a.len := by omega
        subst this
        exact absurd h3 (op_ne k3).2.2.2
theorem hangs_nm (x : Dl) (hs : Sp ts x.t (x.i + 5)) (hl : x.i + 5 + x.t.len ≤ ts.length) (name : List UInt8) : hangsR ts x name = (nmD ts x.t (x.i + 5) false).any fun y => lAt ts y.1 == name && !y.2 := by
  unfold hangsR
  rw [← List.any_filter, nm_filter hF x.t (x.i + 5) false hs, List.any_map]
  apply any_congr_mem
  intro y hy
  have := nm_delayed hF x.t (x.i + 5) false hs hl y hy
  simp only [Function.comp]
  rw [this, Bool.false_or]
end
theorem markSeg_eq (ds : List Dc) (i : Nat) : ∀ (l : List Nd) (M : Mx) (a b : Nat), markSeg ds i l M a b = (M a b || (a == i && l.any fun n => n.kind == 2 && (!n.delayed && (kindAt ds n.decl != 0 && n.decl.toNat == b)))) := by
  intro l
  induction l with
  | nil => intro M a b; simp [markSeg]
  | cons n l ih =>
    intro M a b
    simp only [markSeg]
    rw [ih, List.any_cons]
    by_cases h : n.kind = 2 ∧ n.delayed = false ∧ kindAt ds n.decl ≠ 0
    · have hq : (kindAt ds n.decl != 0) = true := by rw [bne_iff_ne]; exact h.2.2
      rw [if_pos h, h.1, h.2.1, hq]
      unfold upd
      by_cases h2 : a = i ∧ b = n.decl.toNat
      · rw [if_pos h2, h2.1, h2.2]; simp
      · rw [if_neg h2]
        by_cases ha : a = i
        · have hb : (n.decl.toNat == b) = false := beq_eq_false_iff_ne.2 (fun e => h2 ⟨ha, e.symm⟩)
          rw [hb]; simp
        · have hb : (a == i) = false := beq_eq_false_iff_ne.2 ha
          rw [hb]; simp
    · rw [if_neg h]
      have : (n.kind == 2 && (!n.delayed && (kindAt ds n.decl != 0 && n.decl.toNat == b))) = false := by
        by_cases hk : n.kind = 2
        · cases hd : n.delayed with
          | true => simp
          | false =>
            have hq : kindAt ds n.decl = 0 := by
              by_cases hz : kindAt ds n.decl = 0
              · exact hz
              · exact absurd ⟨hk, hd, hz⟩ h
            simp [hq]
        · simp [hk]
      rw [this, Bool.false_or]
theorem markAll_eq (ds : List Dc) (ns : List Nd) : ∀ (l : List Dc) (i : Nat) (M : Mx) (a b : Nat), markAll ds ns i l M a b = (M a b || (decide (i ≤ a) && ((l[a - i]?).any fun d => (seg ns d.root d.fin).any fun n => n.kind == 2 && (!n.delayed && (kindAt ds n.decl != 0 && n.decl.toNat == b))))) := by
  intro l
  induction l with
  | nil => intro i M a b; simp [markAll]
  | cons d l ih =>
    intro i M a b
    simp only [markAll]
    rw [ih, markSeg_eq]
    by_cases h : a = i
    · subst h
      have h1 : decide (a + 1 ≤ a) = false := by rw [decide_eq_false_iff_not]; omega
      have h2 : decide (a ≤ a) = true := by rw [decide_eq_true_iff]; omega
      rw [h1, h2, Nat.sub_self, List.getElem?_cons_zero]
      simp
    · by_cases h2 : i ≤ a
      · have e : a - i = (a - (i + 1)) + 1 := by omega
        have g1 : (a == i) = false := beq_eq_false_iff_ne.2 h
        have g2 : decide (i ≤ a) = true := by rw [decide_eq_true_iff]; omega
        have g3 : decide (i + 1 ≤ a) = true := by rw [decide_eq_true_iff]; omega
        rw [e, List.getElem?_cons_succ, g1, g2, g3]
        simp
      · have g1 : (a == i) = false := beq_eq_false_iff_ne.2 h
        have g2 : decide (i ≤ a) = false := by rw [decide_eq_false_iff_not]; omega
        have g3 : decide (i + 1 ≤ a) = false := by rw [decide_eq_false_iff_not]; omega
        rw [g1, g2, g3]
        simp
theorem warsh_part {M rel : Mx} {isE : Nat → Bool} {cnt : Nat → Nat} (hc : ∀ k, cnt (k + 1) = if isE k then cnt k + 1 else cnt k) (h0 : cnt 0 = 0)
    (h1 : ∀ a b, isE a = false → M a b = false) (h2 : ∀ a b, isE a = true → isE b = true → M a b = rel (cnt a) (cnt b)) :
    ∀ k, (∀ a b, isE a = false → warsh M k a b = false) ∧ (∀ a b, isE a = true → isE b = true → warsh M k a b = warsh rel (cnt k) (cnt a) (cnt b)) := by
  intro k
  induction k with
  | zero => rw [h0]; exact ⟨h1, h2⟩
  | succ k ih =>
    obtain ⟨i1, i2⟩ := ih
    refine ⟨fun a b ha => ?_, fun a b ha hb => ?_⟩
    · simp only [warsh, phase]; rw [i1 a b ha, i1 a k ha]; rfl
    · simp only [warsh, phase]
      cases hk : isE k with
      | false => rw [hc, hk, i1 k b hk, i2 a b ha hb]; simp
      | true =>
        rw [hc, hk, i2 a b ha hb, i2 a k ha hk, i2 k b hk hb]
        rfl
def placeD (ts : List Tk) (x : Dl) : Nat := valOf (lAt ts (x.i + 3))
structure DX (ts : List Tk) (f : Nd → Nd) (ns : List Nd) (d : Dc) (x : Dl) : Prop where
  kind : d.kind = x.kind
  pos : d.pos = posD ts x
  name : d.name = nameD ts x
  place : x.kind ≠ 0 → d.place = placeD ts x
  none : x.kind = 0 → seg ns d.root d.fin = []
  some : x.kind ≠ 0 → ∃ o, seg ns d.root d.fin = (flat ts x.t (x.i + 5) 0 o).map f
theorem dx_all (ts : List Tk) (f : Nd → Nd) : ∀ (L : List Dl) (off a b : Nat) (N1 : List Nd), N1.length = off → All2 (DX ts f (N1 ++ (nodesD ts L off).map f)) (declsD ts L off a b) L := by
  intro L
  induction L with
  | nil => intro off a b N1 _; trivial
  | cons x r ih =>
    intro off a b N1 hN
    simp only [declsD, nodesD]
    by_cases hk : x.kind = 0
    · rw [if_pos hk, if_pos hk]
      exact ⟨⟨hk.symm, rfl, rfl, fun h => absurd hk h, fun _ => by simp [seg, dcIn], fun h => absurd hk h⟩, ih off (a + 1) b N1 hN⟩
    · rw [if_neg hk, if_neg hk]
      refine ⟨⟨rfl, rfl, rfl, fun _ => rfl, fun h => absurd h hk, fun _ => ⟨off, ?_⟩⟩, ?_⟩
      · rw [List.map_append]
        exact seg_mid hN.symm (by simp [dcEq, flat_len, hN])
      · have := ih (off + x.t.size) a (b + 1) (N1 ++ (flat ts x.t (x.i + 5) 0 off).map f) (by simp [flat_len, hN])
        rw [List.append_assoc, ← List.map_append] at this
        exact this
theorem All2.getOpt {α β : Type} {R : α → β → Prop} : ∀ {l : List α} {m : List β} (k : Nat), All2 R l m → (l[k]? = none ∧ m[k]? = none) ∨ ∃ a b, l[k]? = some a ∧ m[k]? = some b ∧ R a b := by
  intro l
  induction l with
  | nil => intro m k h; cases m with
    | nil => exact .inl ⟨rfl, rfl⟩
    | cons b m => exact h.elim
  | cons a l ih => intro m k h; cases m with
    | nil => exact h.elim
    | cons b m =>
      cases k with
      | zero => exact .inr ⟨a, b, rfl, rfl, h.1⟩
      | succ k => exact ih k h.2
def isE (L : List Dl) (k : Nat) : Bool := (L[k]?).any fun x => x.kind != 0
def cntE (L : List Dl) (k : Nat) : Nat := (eqL (L.take k)).length
theorem cntE_succ (L : List Dl) (k : Nat) : cntE L (k + 1) = if isE L k then cntE L k + 1 else cntE L k := by
  unfold cntE isE eqL
  rw [List.take_add_one, List.filter_append, List.length_append]
  cases h : L[k]? with
  | none => simp
  | some x =>
    by_cases hk : x.kind = 0
    · simp [hk]
    · simp [hk]
theorem cntE_get : ∀ (L : List Dl) (k : Nat), isE L k = true → (eqL L)[cntE L k]? = L[k]? := by
  intro L
  induction L with
  | nil => intro k h; simp [isE] at h
  | cons x r ih =>
    intro k h
    cases k with
    | zero =>
      have hk : x.kind ≠ 0 := by simpa [isE] using h
      simp [cntE, eqL, hk]
    | succ k =>
      have h' : isE r k = true := by simpa [isE] using h
      have := ih k h'
      rw [List.getElem?_cons_succ, ← this]
      by_cases hk : x.kind = 0
      · simp [cntE, eqL, hk]
      · have e : cntE (x :: r) (k + 1) = cntE r k + 1 := by simp [cntE, eqL, hk]
        have e2 : eqL (x :: r) = x :: eqL r := by simp [eqL, hk]
        rw [e, e2, List.getElem?_cons_succ]
theorem cntE_all (L : List Dl) : cntE L L.length = (eqL L).length := by unfold cntE; rw [List.take_length]
def relR (ts : List Tk) (L : List Dl) : Mx := fun i j =>
  match (eqL L)[i]?, (eqL L)[j]? with
  | some x, some z => hangsR ts x (nameD ts z).data.toList
  | _, _ => false
def firstC (ts : List Tk) (W : Mx) : Nat → List Dl → Option Nat
  | _, [] => none
  | i, x :: r => if W i i then some (posD ts x) else firstC ts W (i + 1) r
def cycR (ts : List Tk) (L : List Dl) : Option Nat := firstC ts (warsh (relR ts L) (eqL L).length) 0 (eqL L)
theorem find_is {ds : List Dc} (own : ∀ j (hj : j < ds.length), findF ds (ds[j]'hj).name = (j : Int)) {b : Nat} {d : Dc} (hd : ds[b]? = some d) (t : ByteArray) (h0 : 0 ≤ findF ds t) : ((findF ds t).toNat == b) = (t.data.toList == d.name.data.toList) := by
  rw [List.getElem?_eq_some_iff] at hd
  obtain ⟨hb, rfl⟩ := hd
  rw [Bool.eq_iff_iff, beq_iff_eq, beq_iff_eq]
  constructor
  · intro h
    unfold findF at h h0
    split at h
    · rename_i i hi
      rw [List.findIdx?_eq_some_iff_getElem] at hi
      obtain ⟨g1, g2, _⟩ := hi
      rw [Int.toNat_natCast] at h
      subst h
      rw [beq_iff_eq] at g2
      exact g2.symm
    · rename_i hi; rw [hi] at h0; simp at h0
  · intro h
    rw [findF_name ds h, own b hb]; rfl
section
variable {ts : List Tk} (hF : ∀ i, TkF (tkAt ts i)) {L : List Dl} {ds : List Dc} (hN : NamesOk ts L ds)
  (hsp : ∀ x ∈ L, x.kind ≠ 0 → Sp ts x.t (x.i + 5) ∧ x.i + 5 + x.t.len ≤ ts.length)
  (hd : ∀ x ∈ L, x.kind ≠ 0 → ∀ y ∈ nmD ts x.t (x.i + 5) false, 0 ≤ findF ds (tkAt ts y.1).text)
include hF hN hsp hd
omit hN hsp hd in
theorem any_flat (q : Nd → Bool) (t : Ast) (i o : Nat) (hs : Sp ts t i) : ((flat ts t i 0 o).map (bindF ds)).any (fun n => n.kind == 2 && q n) = (nmD ts t i false).any fun y => q (bindF ds (nmNd ts y)) := by
  rw [← List.any_filter, bind_filter, flat_names hF t i 0 o hs, List.any_map, List.any_map]
  rfl
omit hF hN hsp hd in
theorem bind_nm (y : Nat × Bool) : bindF ds (nmNd ts y) = { nmNd ts y with decl := findF ds (tkAt ts y.1).text } := by
  unfold bindF; rw [if_pos (by rfl)]; rfl
omit hF hN hsp hd in
theorem mark_none {ns : List Nd} (hdx : All2 (DX ts (bindF ds) ns) ds L) : ∀ a b, isE L a = false → markAll ds ns 0 ds noM a b = false := by
  intro a b h
  rw [markAll_eq]
  rcases hdx.getOpt a with ⟨h1, _⟩ | ⟨d, x, h1, h2, h3⟩
  · rw [Nat.sub_zero, h1]; simp [noM]
  · unfold isE at h
    rw [h2] at h
    have hk : x.kind = 0 := by simpa using h
    rw [Nat.sub_zero, h1]
    simp [noM, h3.none hk]
theorem mark_rel {ns : List Nd} (hdx : All2 (DX ts (bindF ds) ns) ds L) : ∀ a b, isE L a = true → isE L b = true → markAll ds ns 0 ds noM a b = relR ts L (cntE L a) (cntE L b) := by
  intro a b ha hb
  rw [markAll_eq]
  rcases hdx.getOpt a with ⟨_, h2⟩ | ⟨d, x, h1, h2, h3⟩
  · unfold isE at ha; rw [h2] at ha; simp at ha
  rcases hdx.getOpt b with ⟨_, g2⟩ | ⟨e, z, g1, g2, g3⟩
  · unfold isE at hb; rw [g2] at hb; simp at hb
  have hk : x.kind ≠ 0 := by unfold isE at ha; rw [h2] at ha; simpa using ha
  have hx : x ∈ L := List.mem_of_getElem? h2
  obtain ⟨o, ho⟩ := h3.some hk
  have hrel : relR ts L (cntE L a) (cntE L b) = hangsR ts x (nameD ts z).data.toList := by
    unfold relR; rw [cntE_get L a ha, cntE_get L b hb, h2, g2]
  rw [hrel, hangs_nm hF x (hsp x hx hk).1 (hsp x hx hk).2, Nat.sub_zero, h1]
  have hz : (noM a b) = false := rfl
  have hdec : decide (0 ≤ a) = true := by simp
  rw [hz, hdec, Bool.false_or, Bool.true_and, Option.any_some, ho, any_flat hF (fun n => !n.delayed && (kindAt ds n.decl != 0 && n.decl.toNat == b)) x.t (x.i + 5) o (hsp x hx hk).1]
  apply any_congr_mem
  intro y hy
  rw [bind_nm]
  show (!y.2 && (kindAt ds (findF ds (tkAt ts y.1).text) != 0 && (findF ds (tkAt ts y.1).text).toNat == b)) = _
  have hkb : z.kind ≠ 0 := by unfold isE at hb; rw [g2] at hb; simpa using hb
  have hkk : (kindAt ds (findF ds (tkAt ts y.1).text) != 0 && (findF ds (tkAt ts y.1).text).toNat == b) = ((findF ds (tkAt ts y.1).text).toNat == b) := by
    by_cases hq : (findF ds (tkAt ts y.1).text).toNat = b
    · have : kindAt ds (findF ds (tkAt ts y.1).text) = z.kind := by
        unfold kindAt
        rw [hq, List.getD_eq_getElem?_getD, g1, ← g3.kind]; rfl
      rw [this, bne_iff_ne.2 hkb, Bool.true_and]
    · have : ((findF ds (tkAt ts y.1).text).toNat == b) = false := beq_eq_false_iff_ne.2 hq
      rw [this, Bool.and_false]
  rw [hkk, find_is hN.own g1 _ (hd x hx hk y hy), g3.name, Bool.and_comm]
  rfl
theorem cycle_eq {ns : List Nd} (hdx : All2 (DX ts (bindF ds) ns) ds L) : cycleF ds ns = cycR ts L := by
  have hM1 := mark_none hdx (ts := ts)
  have hM2 := mark_rel hF hN hsp hd hdx
  have hw := warsh_part (M := markAll ds ns 0 ds noM) (rel := relR ts L) (isE := isE L) (cnt := cntE L) (cntE_succ L) (by simp [cntE, eqL]) hM1 hM2 ds.length
  have hlen : L.length = ds.length := hdx.len
  unfold cycleF cycR
  rw [← cntE_all L, hlen]
  generalize warsh (markAll ds ns 0 ds noM) ds.length = W at hw ⊢
  generalize warsh (relR ts L) (cntE L ds.length) = W' at hw ⊢
  obtain ⟨hw1, hw2⟩ := hw
  have key : ∀ (L2 L1 : List Dl) (l2 : List Dc), L = L1 ++ L2 → All2 (DX ts (bindF ds) ns) l2 L2 → firstSelf W L1.length l2 = firstC ts W' (cntE L L1.length) (eqL L2) := by
    intro L2
    induction L2 with
    | nil => intro L1 l2 _ h; cases l2 with
      | nil => rfl
      | cons d l2 => exact h.elim
    | cons x r ih => intro L1 l2 hs h; cases l2 with
      | nil => exact h.elim
      | cons d l2 =>
        obtain ⟨h1, h2⟩ := h
        have hget : L[L1.length]? = some x := by rw [hs]; simp
        have hsucc := cntE_succ L L1.length
        have hih := ih (L1 ++ [x]) l2 (by rw [hs]; simp) h2
        rw [List.length_append, List.length_singleton] at hih
        simp only [firstSelf]
        by_cases hk : x.kind = 0
        · have he : isE L L1.length = false := by unfold isE; rw [hget]; simp [hk]
          have e2 : eqL (x :: r) = eqL r := by simp [eqL, hk]
          rw [hw1 _ _ he, if_neg (by simp), hih, e2, hsucc, he]
          simp
        · have he : isE L L1.length = true := by unfold isE; rw [hget]; simp [hk]
          have e2 : eqL (x :: r) = x :: eqL r := by simp [eqL, hk]
          rw [e2]
          simp only [firstC]
          rw [hw2 _ _ he he, hih, hsucc, he, h1.pos]
          simp
  have := key L [] ds rfl hdx
  simpa [cntE, eqL] using this
end
def useOf (ts : List Tk) (x : Dl) (nm : List UInt8) : List Nat := (List.range' (x.i + 5) x.t.len).filter fun j => isNm ts j && lAt ts j == nm
def usesR (ts : List Tk) (L : List Dl) (nm : List UInt8) (q : Nat) : List Nat := (eqL L).flatMap fun x => if placeD ts x = q then useOf ts x nm else []
def lateR (ts : List Tk) (u : List Nat) : Bool := u.all fun k => lAt ts (k - 1) == kFby
def routeAt (ts : List Tk) (L : List Dl) (b : Nat) (x : Dl) (q : Nat) : List Rt :=
  if usesR ts L (nameD ts x).data.toList q ≠ [] ∧ q ≠ placeD ts x then [⟨b, q, lateR ts (usesR ts L (nameD ts x).data.toList q)⟩] else []
def routeTo (ts : List Tk) (L : List Dl) (b : Nat) (x : Dl) : Nat → List Rt
  | 0 => []
  | q + 1 => routeTo ts L b x q ++ routeAt ts L b x q
def routesFrom (ts : List Tk) (L : List Dl) : Nat → List Dl → List Rt
  | _, [] => []
  | b, x :: r => routeTo ts L b x 4 ++ routesFrom ts L (b + 1) r
def routesR (ts : List Tk) (L : List Dl) : List Rt := routesFrom ts L 0 (eqL L)
def waitsP (pl : List Nat) : List Rt → Mx → Mx
  | [], M => M
  | r :: l, M => waitsP pl l (if r.late = true then M else upd M r.dst (pl.getD r.src 0) true)
def firstP (ts : List Tk) (W : Mx) : List Dl → Option Nat
  | [] => none
  | x :: r => if W (placeD ts x) (placeD ts x) then some (posD ts x) else firstP ts W r
def lpR (ts : List Tk) (L : List Dl) : Option Nat := firstP ts (warsh (waitsP ((eqL L).map (placeD ts)) (routesR ts L) noM) 4) (eqL L)
theorem usesSeg_eq (decl : Nat) : ∀ (l : List Nd) (u p : Bool), usesSeg decl l u p = (u || l.any (fun n => n.kind == 2 && decide (n.decl = (decl : Int))), p || l.any (fun n => n.kind == 2 && (decide (n.decl = (decl : Int)) && !n.behind))) := by
  intro l
  induction l with
  | nil => intro u p; simp [usesSeg]
  | cons n l ih =>
    intro u p
    simp only [usesSeg]
    by_cases h : n.kind = 2 ∧ n.decl = (decl : Int)
    · rw [if_pos h, ih, List.any_cons, List.any_cons, h.1, decide_eq_true h.2]
      simp [Bool.or_assoc]
    · rw [if_neg h, ih, List.any_cons, List.any_cons]
      by_cases hk : n.kind = 2
      · have hd : decide (n.decl = (decl : Int)) = false := decide_eq_false (fun e => h ⟨hk, e⟩)
        rw [hd]; simp
      · have hk' : (n.kind == 2) = false := beq_eq_false_iff_ne.2 hk
        rw [hk']; simp
theorem usesAll_eq (ns : List Nd) (decl q : Nat) : ∀ (l : List Dc) (u p : Bool), usesAll ns decl q l u p =
    (u || l.any (fun d => (d.kind != 0 && d.place == q) && (seg ns d.root d.fin).any (fun n => n.kind == 2 && decide (n.decl = (decl : Int)))),
     p || l.any (fun d => (d.kind != 0 && d.place == q) && (seg ns d.root d.fin).any (fun n => n.kind == 2 && (decide (n.decl = (decl : Int)) && !n.behind)))) := by
  intro l
  induction l with
  | nil => intro u p; simp [usesAll]
  | cons d l ih =>
    intro u p
    simp only [usesAll]
    by_cases h : d.kind = 0 ∨ d.place ≠ q
    · have hc : (d.kind != 0 && d.place == q) = false := by
        rcases h with h | h
        · rw [h]; rfl
        · rw [beq_eq_false_iff_ne.2 h, Bool.and_false]
      rw [if_pos h, ih, List.any_cons, List.any_cons, hc]; simp
    · have h1 : d.kind ≠ 0 := fun e => h (.inl e)
      have h2 : d.place = q := Classical.byContradiction fun e => h (.inr e)
      have hc : (d.kind != 0 && d.place == q) = true := by rw [h2]; simp [h1]
      rw [if_neg h, ih, usesSeg_eq, List.any_cons, List.any_cons, hc]
      simp [Bool.or_assoc]
theorem find_int {x : Int} {a : Nat} (h0 : 0 ≤ x) : decide (x = (a : Int)) = (x.toNat == a) := by
  rw [Bool.eq_iff_iff, decide_eq_true_iff, beq_iff_eq]; omega
section
variable {ts : List Tk} (hF : ∀ i, TkF (tkAt ts i)) {L : List Dl} {ds : List Dc} (hN : NamesOk ts L ds)
  (hsp : ∀ x ∈ L, x.kind ≠ 0 → Sp ts x.t (x.i + 5) ∧ x.i + 5 + x.t.len ≤ ts.length)
  (hd : ∀ x ∈ L, x.kind ≠ 0 → ∀ y ∈ nmD ts x.t (x.i + 5) false, 0 ≤ findF ds (tkAt ts y.1).text)
include hF hN hsp hd
omit hN hsp hd in
theorem useOf_any (x : Dl) (hs : Sp ts x.t (x.i + 5)) (nm : List UInt8) (p : Nat → Bool) : (useOf ts x nm).any p = (nmD ts x.t (x.i + 5) false).any fun y => lAt ts y.1 == nm && p y.1 := by
  unfold useOf
  have e : ((List.range' (x.i + 5) x.t.len).filter fun j => isNm ts j && lAt ts j == nm) = ((List.range' (x.i + 5) x.t.len).filter (isNm ts)).filter fun j => lAt ts j == nm := by
    rw [List.filter_filter]
    congr 1
    funext j
    rw [Bool.and_comm]
  rw [e, nm_filter hF x.t (x.i + 5) false hs, List.any_filter, List.any_map]
  rfl
theorem uses_eq {ns : List Nd} (hdx : All2 (DX ts (bindF ds) ns) ds L) {a : Nat} {d : Dc} (ha : ds[a]? = some d) (q : Nat) :
    usesF ds ns a q = (decide (usesR ts L d.name.data.toList q ≠ []), (usesR ts L d.name.data.toList q).any fun k => !(lAt ts (k - 1) == kFby)) := by
  have hin : ∀ x, x ∈ L → x.kind ≠ 0 → ∀ y ∈ nmD ts x.t (x.i + 5) false, decide (findF ds (tkAt ts y.1).text = (a : Int)) = (lAt ts y.1 == d.name.data.toList) := by
    intro x hx hk y hy
    rw [find_int (hd x hx hk y hy), find_is hN.own ha _ (hd x hx hk y hy)]
    rfl
  have hall : ∀ (p : Nat → Bool) (q' : Nd → Bool), (∀ y : Nat × Bool, 5 ≤ y.1 → q' (bindF ds (nmNd ts y)) = p y.1) →
      ds.any (fun e => (e.kind != 0 && e.place == q) && (seg ns e.root e.fin).any (fun n => n.kind == 2 && (decide (n.decl = (a : Int)) && q' n))) = (usesR ts L d.name.data.toList q).any p := by
    intro p q' hq
    unfold usesR
    rw [List.any_flatMap]
    unfold eqL
    rw [List.any_filter]
    have key : ∀ (l : List Dc) (m : List Dl), All2 (DX ts (bindF ds) ns) l m → (∀ x ∈ m, x ∈ L) → l.any (fun e => (e.kind != 0 && e.place == q) && (seg ns e.root e.fin).any (fun n => n.kind == 2 && (decide (n.decl = (a : Int)) && q' n))) = m.any (fun x => x.kind != 0 && (if placeD ts x = q then useOf ts x d.name.data.toList else []).any p) := by
      intro l
      induction l with
      | nil => intro m h _; cases m with
        | nil => rfl
        | cons x m => exact h.elim
      | cons e l ih => intro m h hm; cases m with
        | nil => exact h.elim
        | cons x m =>
          obtain ⟨h1, h2⟩ := h
          rw [List.any_cons, List.any_cons, ih m h2 (fun z hz => hm z (List.mem_cons_of_mem _ hz))]
          congr 1
          by_cases hk : x.kind = 0
          · rw [h1.kind, hk]; rfl
          · have hx := hm x (List.mem_cons_self ..)
            obtain ⟨o, ho⟩ := h1.some hk
            rw [h1.kind, h1.place hk]
            have hkb : (x.kind != 0) = true := by simpa using hk
            rw [hkb, Bool.true_and, Bool.true_and]
            by_cases hp : placeD ts x = q
            · rw [if_pos hp, hp, ho, any_flat hF (fun n => decide (n.decl = (a : Int)) && q' n) x.t (x.i + 5) o (hsp x hx hk).1, useOf_any hF x (hsp x hx hk).1]
              simp only [beq_self_eq_true, Bool.true_and]
              apply any_congr_mem
              intro y hy
              have h5 := (nm_in _ _ _ y hy).1
              rw [hq y (by omega), bind_nm]
              show (decide (findF ds (tkAt ts y.1).text = (a : Int)) && p y.1) = _
              rw [hin x hx hk y hy]
            · rw [if_neg hp, beq_eq_false_iff_ne.2 hp]; rfl
    exact key ds L hdx (fun x hx => hx)
  unfold usesF
  rw [usesAll_eq, Bool.false_or, Bool.false_or]
  have e1 := hall (fun _ => true) (fun _ => true) (fun _ _ => rfl)
  have e2 := hall (fun k => !(lAt ts (k - 1) == kFby)) (fun n => !n.behind) (fun y hy => by
    rw [bind_nm]
    show (!(decide (0 < y.1) && ((tkAt ts (y.1 - 1)).l == kFby))) = _
    rw [decide_eq_true (by omega : 0 < y.1), Bool.true_and])
  simp only [Bool.and_true] at e1
  rw [e1, e2]
  congr 1
  cases usesR ts L d.name.data.toList q with
  | nil => simp
  | cons k r => simp
theorem links_eq {ns : List Nd} (hdx : All2 (DX ts (bindF ds) ns) ds L) (hnum : ∀ a d x, ds[a]? = some d → L[a]? = some x → x.kind ≠ 0 → d.number = cntE L a) : linksF ds ns = routesR ts L := by
  have hto : ∀ a d x, ds[a]? = some d → L[a]? = some x → x.kind ≠ 0 → DX ts (bindF ds) ns d x → ∀ q, linksTo ds ns a d q = routeTo ts L (cntE L a) x q := by
    intro a d x h1 h2 hk h3 q
    induction q with
    | zero => rfl
    | succ q ih =>
      simp only [linksTo, routeTo]
      rw [ih]
      congr 1
      unfold linkAt routeAt
      rw [uses_eq hF hN hsp hd hdx h1 q, h3.name, h3.place hk, hnum a d x h1 h2 hk]
      simp only [decide_eq_true_iff]
      split
      · unfold lateR
        congr 2
        rw [List.not_any_eq_all_not]
        simp
      · rfl
  have key : ∀ (L2 L1 : List Dl) (l2 : List Dc) (l1 : List Dc), L = L1 ++ L2 → ds = l1 ++ l2 → l1.length = L1.length → All2 (DX ts (bindF ds) ns) l2 L2 → linksFrom ds ns L1.length l2 = routesFrom ts L (cntE L L1.length) (eqL L2) := by
    intro L2
    induction L2 with
    | nil => intro L1 l2 l1 _ _ _ h; cases l2 with
      | nil => rfl
      | cons d l2 => exact h.elim
    | cons x r ih => intro L1 l2 l1 hs hs2 hl h; cases l2 with
      | nil => exact h.elim
      | cons d l2 =>
        obtain ⟨h1, h2⟩ := h
        have hget : L[L1.length]? = some x := by rw [hs]; simp
        have hget2 : ds[L1.length]? = some d := by rw [hs2, ← hl]; simp
        have hsucc := cntE_succ L L1.length
        have hih := ih (L1 ++ [x]) l2 (l1 ++ [d]) (by rw [hs]; simp) (by rw [hs2]; simp) (by simp [hl]) h2
        rw [List.length_append, List.length_singleton] at hih
        simp only [linksFrom]
        rw [hih, hsucc, h1.kind]
        by_cases hk : x.kind = 0
        · have he : isE L L1.length = false := by unfold isE; rw [hget]; simp [hk]
          have e2 : eqL (x :: r) = eqL r := by simp [eqL, hk]
          rw [if_pos hk, e2, he]
          simp
        · have he : isE L L1.length = true := by unfold isE; rw [hget]; simp [hk]
          have e2 : eqL (x :: r) = x :: eqL r := by simp [eqL, hk]
          rw [if_neg hk, e2, he, hto _ d x hget2 hget hk h1]
          simp [routesFrom]
  have := key L [] ds [] rfl rfl rfl hdx
  unfold linksF routesR
  simpa [cntE, eqL] using this
omit hF hN hsp hd in
theorem eqs_all {ns : List Nd} {f : Nd → Nd} (hdx : All2 (DX ts f ns) ds L) : All2 (fun d x => d.place = placeD ts x ∧ d.pos = posD ts x) (eqsF ds) (eqL L) := by
  have key : ∀ (l : List Dc) (m : List Dl), All2 (DX ts f ns) l m → All2 (fun d x => d.place = placeD ts x ∧ d.pos = posD ts x) (eqsF l) (eqL m) := by
    intro l
    induction l with
    | nil => intro m h; cases m with
      | nil => trivial
      | cons x m => exact h.elim
    | cons d l ih => intro m h; cases m with
      | nil => exact h.elim
      | cons x m =>
        obtain ⟨h1, h2⟩ := h
        have := ih m h2
        unfold eqsF eqL at this ⊢
        by_cases hk : x.kind = 0
        · rw [List.filter_cons_of_neg (by rw [h1.kind, hk]; simp), List.filter_cons_of_neg (by rw [hk]; simp)]
          exact this
        · rw [List.filter_cons_of_pos (by rw [h1.kind]; simpa using hk), List.filter_cons_of_pos (by simpa using hk)]
          exact ⟨⟨h1.place hk, h1.pos⟩, this⟩
  exact key ds L hdx
omit hF hN hsp hd in
theorem waits_pl (es : List Dc) : ∀ (l : List Rt) (M : Mx), waitsM es l M = waitsP (es.map Dc.place) l M := by
  intro l
  induction l with
  | nil => intro M; rfl
  | cons r l ih =>
    intro M
    simp only [waitsM, waitsP]
    rw [ih]
    congr 3
    rw [List.getD_eq_getElem?_getD, List.getD_eq_getElem?_getD, List.getElem?_map]
    cases es[r.src]? <;> rfl
theorem loop_eq {ns : List Nd} (hdx : All2 (DX ts (bindF ds) ns) ds L) (hnum : ∀ a d x, ds[a]? = some d → L[a]? = some x → x.kind ≠ 0 → d.number = cntE L a) : loopF ds ns = lpR ts L := by
  have he := eqs_all hdx
  have hpl : (eqsF ds).map Dc.place = (eqL L).map (placeD ts) := by
    have key : ∀ (l : List Dc) (m : List Dl), All2 (fun d x => d.place = placeD ts x ∧ d.pos = posD ts x) l m → l.map Dc.place = m.map (placeD ts) := by
      intro l
      induction l with
      | nil => intro m h; cases m with
        | nil => rfl
        | cons x m => exact h.elim
      | cons d l ih => intro m h; cases m with
        | nil => exact h.elim
        | cons x m => rw [List.map_cons, List.map_cons, h.1.1, ih m h.2]
    exact key _ _ he
  have hfirst : ∀ (W : Mx) (l : List Dc) (m : List Dl), All2 (fun d x => d.place = placeD ts x ∧ d.pos = posD ts x) l m → firstAt W l = firstP ts W m := by
    intro W l
    induction l with
    | nil => intro m h; cases m with
      | nil => rfl
      | cons x m => exact h.elim
    | cons d l ih => intro m h; cases m with
      | nil => exact h.elim
      | cons x m => simp only [firstAt, firstP]; rw [h.1.1, h.1.2, ih m h.2]
  unfold loopF lpR
  rw [waits_pl, hpl, links_eq hF hN hsp hd hdx hnum, hfirst _ _ _ he]
end
theorem tk_pos : ∀ n k (l : List UInt8), l.length = n → (∀ t ∈ tk k l, k ≤ t.pos ∧ t.pos < k + l.length) ∧ (tk k l).Pairwise (fun a b => a.pos < b.pos) := by
  intro n
  induction n using Nat.strongRecOn with
  | _ n ih =>
    intro k l hn
    cases l with
    | nil => rw [tk_nil]; exact ⟨fun t ht => by simp at ht, List.Pairwise.nil⟩
    | cons c r =>
      simp only [List.length_cons] at hn
      by_cases h0 : cls c.toNat = 0
      · rw [tk_blank h0]
        obtain ⟨h1, h2⟩ := ih r.length (by omega) (k + 1) r rfl
        exact ⟨fun t ht => by have := h1 t ht; simp only [List.length_cons]; omega, h2⟩
      · by_cases h12 : cls c.toNat = 1 ∨ cls c.toNat = 2
        · rw [tk_word h12]
          have hl := take_drop_len (W (cls c.toNat)) r
          obtain ⟨h1, h2⟩ := ih _ (by omega) (k + 1 + (r.takeWhile (W (cls c.toNat))).length) (r.dropWhile (W (cls c.toNat))) rfl
          refine ⟨fun t ht => ?_, List.Pairwise.cons (fun t ht => ?_) h2⟩
          · simp only [List.length_cons]
            rcases List.mem_cons.1 ht with rfl | ht
            · show k ≤ k ∧ k < _; omega
            · have := h1 t ht; omega
          · have := h1 t ht; show k < t.pos; omega
        · rw [tk_one (by omega)]
          obtain ⟨h1, h2⟩ := ih r.length (by omega) (k + 1) r rfl
          refine ⟨fun t ht => ?_, List.Pairwise.cons (fun t ht => ?_) h2⟩
          · simp only [List.length_cons]
            rcases List.mem_cons.1 ht with rfl | ht
            · show k ≤ k ∧ k < _; omega
            · have := h1 t ht; omega
          · have := h1 t ht; show k < t.pos; omega
theorem toks_pos (s : ByteArray) : PosLt (toks s) := by
  obtain ⟨h1, h2⟩ := tk_pos _ 0 s.data.toList rfl
  have hp : (toks s).Pairwise (fun a b => a.pos < b.pos) := by
    rw [toks_list, List.pairwise_append]
    refine ⟨h2, List.pairwise_singleton _ _, fun a ha b hb => ?_⟩
    rw [List.mem_singleton] at hb
    subst hb
    have := h1 a ha
    show a.pos < s.size
    rw [size_list]; omega
  intro i j hij hj
  have := (List.pairwise_iff_getElem.1 hp) i j (by omega) hj hij
  unfold tkAt
  rw [List.getD_eq_getElem?_getD, List.getD_eq_getElem?_getD, List.getElem?_eq_getElem hj, List.getElem?_eq_getElem (show i < (toks s).length by omega)]
  exact this
theorem toks_end (s : ByteArray) (i : Nat) (h : (tkAt (toks s) i).kind = 0) : (toks s).length ≤ i + 1 := by
  by_cases hi : i < (tk 0 s.data.toList).length
  · exfalso
    rw [toks_list, tkAt_left hi] at h
    exact (tk_kind _ _ _ rfl _ (tkAt_mem hi)).1 h
  · rw [toks_list]; simp; omega
theorem badName_own {all : List Dc} {ns : List Nd} : ∀ (l : List Dc) (i : Nat), badNameF all ns i l = none → ∀ j (hj : j < l.length), findF all (l[j]'hj).name = ((i + j : Nat) : Int) := by
  intro l
  induction l with
  | nil => intro i _ j hj; simp at hj
  | cons d l ih =>
    intro i h j hj
    unfold badNameF at h
    split at h
    · cases h
    · rename_i hd
      have hd' : findF all d.name = (i : Int) := Classical.byContradiction hd
      split at h
      · cases h
      · cases j with
        | zero => exact hd'
        | succ j =>
          have := ih (i + 1) h j (by simpa using hj)
          rw [List.getElem_cons_succ, this]
          congr 1; omega
theorem dx_two {ts : List Tk} {f : Nd → Nd} {ns : List Nd} : ∀ {l : List Dc} {m : List Dl}, All2 (DX ts f ns) l m → l.map (fun d => (d.name, d.kind)) = m.map fun x => (nameD ts x, x.kind) := by
  intro l
  induction l with
  | nil => intro m h; cases m with
    | nil => rfl
    | cons x m => exact h.elim
  | cons d l ih => intro m h; cases m with
    | nil => exact h.elim
    | cons x m => rw [List.map_cons, List.map_cons, h.1.name, h.1.kind, ih h.2]
theorem declsD_num (ts : List Tk) : ∀ (L : List Dl) (off a b k : Nat) (d : Dc) (x : Dl), (declsD ts L off a b)[k]? = some d → L[k]? = some x → x.kind ≠ 0 → d.number = b + cntE L k := by
  intro L
  induction L with
  | nil => intro off a b k d x h; simp [declsD] at h
  | cons z r ih =>
    intro off a b k d x h1 h2 hk
    simp only [declsD] at h1
    cases k with
    | zero =>
      rw [List.getElem?_cons_zero] at h2
      cases h2
      rw [if_neg hk, List.getElem?_cons_zero] at h1
      cases h1
      simp [cntE, eqL, dcEq]
    | succ k =>
      rw [List.getElem?_cons_succ] at h2
      by_cases hz : z.kind = 0
      · rw [if_pos hz, List.getElem?_cons_succ] at h1
        rw [ih _ _ _ k d x h1 h2 hk]
        simp [cntE, eqL, hz]
      · rw [if_neg hz, List.getElem?_cons_succ] at h1
        rw [ih _ _ _ k d x h1 h2 hk]
        simp [cntE, eqL, hz]; omega
def readR (ts : List Tk) (L : List Dl) : Nat × Nat :=
  match manyR ts L with
  | some a => (3, a)
  | none => match namesR ts L with
    | some a => (4, a)
    | none => match typesR ts L with
      | some a => (5, a)
      | none => match cycR ts L with
        | some a => (6, a)
        | none => match lpR ts L with
          | some a => (7, a)
          | none => (0, 0)
theorem meaning_ref {ts : List Tk} (hF : ∀ i, TkF (tkAt ts i)) (hP : PosLt ts) (hE : ∀ i, (tkAt ts i).kind = 0 → ts.length ≤ i + 1) (L : List Dl) (hL : Spell ts L 0) (ht : 0 < ts.length) :
    meaningF (declsD ts L 0 0 0) ((nodesD ts L 0).map (bindF (declsD ts L 0 0 0))) = readR ts L := by
  obtain ⟨ds, hds⟩ : ∃ ds, ds = declsD ts L 0 0 0 := ⟨_, rfl⟩
  obtain ⟨ns, hns⟩ : ∃ ns, ns = (nodesD ts L 0).map (bindF ds) := ⟨_, rfl⟩
  rw [← hds, ← hns]
  have hmany : tooManyF ds = manyR ts L := by rw [hds]; exact many_eq hP L 0 0 0 0 hL (by omega) (by omega)
  have hnm : ds.map Dc.name = L.map (nameD ts) := by rw [hds]; exact declsD_names ts L 0 0 0
  have hnames : badNameF ds ns 0 ds = namesR ts L := by
    have := names_eq hF hE L hL ds hnm L [] 0 0 0 0 [] [] rfl hL (by omega) (by rw [List.nil_append]; exact hds) rfl rfl
    rw [List.nil_append, ← hns, ← hds] at this
    exact this
  have hdx : All2 (DX ts (bindF ds) ns) ds L := by
    have := dx_all ts (bindF ds) L 0 0 0 [] rfl
    rw [List.nil_append, ← hns, ← hds] at this
    exact this
  unfold meaningF readR
  rw [hmany, hnames]
  cases manyR ts L with
  | some a => rfl
  | none =>
    simp only
    cases hn : namesR ts L with
    | some a => rfl
    | none =>
      simp only
      rw [hn] at hnames
      have hN : NamesOk ts L ds := ⟨fun j hj => by have := badName_own ds 0 hnames j hj; rw [this, Nat.zero_add], dx_two hdx⟩
      have hsp : ∀ x ∈ L, x.kind ≠ 0 → Sp ts x.t (x.i + 5) ∧ x.i + 5 + x.t.len ≤ ts.length := by
        intro x hx hk
        obtain ⟨_, h2, h3⟩ := spell_mem _ _ hL x hx
        have hlen : x.len = x.t.len + 6 := by unfold Dl.len; rw [if_neg hk]
        refine ⟨?_, by omega⟩
        rcases h3 with ⟨h, _⟩ | ⟨_, _, _, _, _, h, _⟩
        · exact absurd h hk
        · exact h
      have hd : ∀ x ∈ L, x.kind ≠ 0 → ∀ y ∈ nmD ts x.t (x.i + 5) false, 0 ≤ findF ds (tkAt ts y.1).text := by
        intro x hx hk y hy
        obtain ⟨k, hk2, rfl⟩ := List.getElem_of_mem hx
        rcases hdx.getOpt k with ⟨_, h2⟩ | ⟨d, z, h1, h2, h3⟩
        · rw [List.getElem?_eq_getElem hk2] at h2; cases h2
        · rw [List.getElem?_eq_getElem hk2] at h2
          cases h2
          have hnone := badName_none ds 0 hnames d (List.mem_of_getElem? h1)
          obtain ⟨o, ho⟩ := h3.some hk
          have hmem : bindF ds (nmNd ts y) ∈ seg ns d.root d.fin := by
            rw [ho]
            have : bindF ds (nmNd ts y) ∈ (((flat ts (L[k]'hk2).t ((L[k]'hk2).i + 5) 0 o).map (bindF ds)).filter fun n => n.kind == 2) := by
              rw [bind_filter, flat_names hF _ _ _ _ (hsp _ hx hk).1]
              exact List.mem_map.2 ⟨_, List.mem_map.2 ⟨y, hy, rfl⟩, rfl⟩
            exact (List.mem_filter.1 this).1
          have := badNode_none _ hnone _ hmem (by rw [bind_nm]; rfl)
          rw [bind_nm] at this
          exact this
      have htot : (nodesD ts L 0).length = totN L := nodesD_len ts L 0
      have hnl : ns.length = totN L := by rw [hns, List.length_map, htot]
      have htypes : badTypeF ds 0 ns (roots ds (List.replicate ns.length false)) = typesR ts L := by
        have hT : TrOk L 0 (roots ds (List.replicate ns.length false)) := by
          rw [hds]
          refine roots_ok ts L 0 0 0 _ (fun j _ => ?_) (by simp [hnl])
          rw [List.getD_eq_getElem?_getD, List.getElem?_replicate]
          split <;> rfl
        have := types_eq hF hN L 0 0 (roots ds (List.replicate ns.length false)) hL hT (by rw [roots_len]; simp [hnl]) hd
        rw [← hns] at this
        exact this
      rw [htypes]
      cases typesR ts L with
      | some a => rfl
      | none =>
        simp only
        rw [cycle_eq hF hN hsp hd hdx]
        cases cycR ts L with
        | some a => rfl
        | none =>
          simp only
          rw [loop_eq hF hN hsp hd hdx (fun a d x h1 h2 hk => by rw [hds] at h1; have := declsD_num ts L 0 0 0 a d x h1 h2 hk; rw [this, Nat.zero_add])]
          cases lpR ts L <;> rfl
theorem warsh_up (M : Mx) (i j : Nat) (h : M i j = true) : ∀ n, warsh M n i j = true := by
  intro n
  induction n with
  | zero => exact h
  | succ n ih => show phase (warsh M n) n i j = true; unfold phase; rw [ih]; rfl
theorem warsh_trans (M : Mx) : ∀ n k i j, k < n → warsh M n i k = true → warsh M n k j = true → warsh M n i j = true := by
  intro n
  induction n with
  | zero => intro k i j h; omega
  | succ n ih =>
    intro k i j hk h1 h2
    change phase (warsh M n) n i k = true at h1
    change phase (warsh M n) n k j = true at h2
    show phase (warsh M n) n i j = true
    unfold phase at *
    simp only [Bool.or_eq_true, Bool.and_eq_true] at *
    by_cases e : k = n
    · subst e
      have a1 : warsh M k i k = true := h1.elim id And.left
      have a2 : warsh M k k j = true := h2.elim id And.right
      exact .inr ⟨a1, a2⟩
    · have hk' : k < n := by omega
      rcases h1 with a | ⟨a1, a2⟩ <;> rcases h2 with b | ⟨b1, b2⟩
      · exact .inl (ih k i j hk' a b)
      · exact .inr ⟨ih k i n hk' a b1, b2⟩
      · exact .inr ⟨a1, ih k n j hk' a2 b⟩
      · exact .inr ⟨a1, b2⟩
theorem filter_lt {p q : Nat → Bool} : ∀ (l : List Nat), (∀ x ∈ l, p x = true → q x = true) → (∃ x ∈ l, q x = true ∧ p x = false) → (l.filter p).length < (l.filter q).length := by
  have le : ∀ (l : List Nat), (∀ x ∈ l, p x = true → q x = true) → (l.filter p).length ≤ (l.filter q).length := by
    intro l
    induction l with
    | nil => intro _; exact Nat.le_refl _
    | cons a r ih =>
      intro h
      have ih' := ih fun x hx => h x (List.mem_cons_of_mem _ hx)
      have ha := h a (by simp)
      simp only [List.filter_cons]
      cases hp : p a <;> cases hq : q a
      · simpa using ih'
      · simp; omega
      · rw [ha hp] at hq; cases hq
      · simp; omega
  intro l
  induction l with
  | nil => rintro _ ⟨x, hx, _⟩; simp at hx
  | cons a r ih =>
    rintro h ⟨x, hx, hqx, hpx⟩
    have h' := fun x hx => h x (List.mem_cons_of_mem a hx)
    have ha := h a (by simp)
    have hle := le r h'
    simp only [List.filter_cons]
    rcases List.mem_cons.1 hx with rfl | hx
    · rw [hqx, hpx]; simp; omega
    · have := ih h' ⟨x, hx, hqx, hpx⟩
      cases hp : p a <;> cases hq : q a
      · simpa using this
      · simp; omega
      · rw [ha hp] at hq; cases hq
      · simp; omega
def rankM (M : Mx) (m i : Nat) : Nat := ((List.range m).filter (warsh M m i)).length
theorem rank_lt {M : Mx} {m i : Nat} (hc : warsh M m i i = false) (hi : i < m) : rankM M m i < m := by
  have h := filter_lt (p := warsh M m i) (q := fun _ => true) (List.range m) (fun _ _ _ => rfl) ⟨i, by simpa using hi, rfl, hc⟩
  have e : ((List.range m).filter fun _ => true).length = m := by rw [List.filter_eq_self.2 (fun _ _ => rfl), List.length_range]
  unfold rankM
  omega
theorem rank_less {M : Mx} {m i j : Nat} (hj : j < m) (hc : warsh M m j j = false) (h : M i j = true) : rankM M m j < rankM M m i := by
  have hij := warsh_up M i j h m
  exact filter_lt (List.range m) (fun x _ hx => warsh_trans M m j i x hj hij hx) ⟨j, by simpa using hj, hij, hc⟩
theorem firstC_none {ts : List Tk} {W : Mx} : ∀ (l : List Dl) (i : Nat), firstC ts W i l = none → ∀ k, k < l.length → W (i + k) (i + k) = false := by
  intro l
  induction l with
  | nil => intro i _ k hk; simp at hk
  | cons x r ih =>
    intro i h k hk
    unfold firstC at h
    cases hw : W i i with
    | true => rw [if_pos hw] at h; cases h
    | false =>
      rw [if_neg (by rw [hw]; decide)] at h
      cases k with
      | zero => exact hw
      | succ k => have := ih (i + 1) h k (by simpa using hk); rwa [show i + 1 + k = i + (k + 1) by omega] at this
def rk (ts : List Tk) (L : List Dl) (i : Nat) : Nat := rankM (relR ts L) (eqL L).length i
theorem rk_lt {ts : List Tk} {L : List Dl} (h : cycR ts L = none) {i : Nat} (hi : i < (eqL L).length) : rk ts L i < (eqL L).length :=
  rank_lt (by have := firstC_none _ _ h i hi; rwa [Nat.zero_add] at this) hi
theorem rk_less {ts : List Tk} {L : List Dl} (h : cycR ts L = none) {i j : Nat} (hj : j < (eqL L).length) (hr : relR ts L i j = true) : rk ts L j < rk ts L i :=
  rank_less hj (by have := firstC_none _ _ h j hj; rwa [Nat.zero_add] at this) hr
def w64 (x : Int) : Int := Go.RowKit.wrap64 x
def b2i (b : Bool) : Int := if b then 1 else 0
def apF (o : List UInt8) (a b : Int) : Int :=
  if o = [43] then w64 (a + b) else if o = [45] then w64 (a - b) else if o = [42] then w64 (a * b)
  else if o = [47] then (if b = 0 then 0 else w64 (a.tdiv b)) else if o = [60] then b2i (decide (a < b)) else if o = [61] then b2i (decide (a = b))
  else if o = [38] then b2i (decide (a = 1) && decide (b = 1)) else b2i (decide (a = 1) || decide (b = 1))
def litV (t : Tk) : Int := if t.kind = 3 then (valOf t.l : Int) else b2i (decide (t.l = kTrue))
def evT (ts : List Tk) (V : List UInt8 → Nat → Int) : Ast → Nat → Nat → Int
  | .leaf, i, n => if (tkAt ts i).kind = 1 then V (lAt ts i) n else litV (tkAt ts i)
  | .neg a, i, n => w64 (1 - evT ts V a (i + 2) n)
  | .ite a b c, i, n => if evT ts V a (i + 2) n = 1 then evT ts V b (i + 2 + a.len) n else evT ts V c (i + 2 + a.len + b.len) n
  | .dly _, i, 0 => litV (tkAt ts (i + 1))
  | .dly b, i, n + 1 => evT ts V b (i + 3) n
  | .bin a b, i, n => apF (lAt ts (i + 1 + a.len)) (evT ts V a (i + 1) n) (evT ts V b (i + 2 + a.len) n)
def und (ts : List Tk) : Ast → Nat → List Nat
  | .leaf, i => if (tkAt ts i).kind = 1 then [i] else []
  | .neg a, i => und ts a (i + 2)
  | .ite a b c, i => und ts a (i + 2) ++ (und ts b (i + 2 + a.len) ++ und ts c (i + 2 + a.len + b.len))
  | .dly _, _ => []
  | .bin a b, i => und ts a (i + 1) ++ und ts b (i + 2 + a.len)
def nms (ts : List Tk) : Ast → Nat → List Nat
  | .leaf, i => if (tkAt ts i).kind = 1 then [i] else []
  | .neg a, i => nms ts a (i + 2)
  | .ite a b c, i => nms ts a (i + 2) ++ (nms ts b (i + 2 + a.len) ++ nms ts c (i + 2 + a.len + b.len))
  | .dly b, i => nms ts b (i + 3)
  | .bin a b, i => nms ts a (i + 1) ++ nms ts b (i + 2 + a.len)
theorem und_nms (ts : List Tk) : ∀ (t : Ast) (i : Nat), ∀ j ∈ und ts t i, j ∈ nms ts t i := by
  intro t
  induction t with
  | leaf => intro i j h; exact h
  | neg a iha => intro i j h; exact iha _ j h
  | ite a b c iha ihb ihc =>
    intro i j h
    simp only [und, nms, List.mem_append] at *
    exact h.imp (iha _ j) (Or.imp (ihb _ j) (ihc _ j))
  | dly b ihb => intro i j h; simp [und] at h
  | bin a b iha ihb =>
    intro i j h
    simp only [und, nms, List.mem_append] at *
    exact h.imp (iha _ j) (ihb _ j)
theorem nms_nmD (ts : List Tk) : ∀ (t : Ast) (i : Nat) (dl : Bool), nms ts t i = (nmD ts t i dl).map Prod.fst := by
  intro t
  induction t with
  | leaf => intro i dl; simp only [nms, nmD]; split <;> rfl
  | neg a iha => intro i dl; exact iha _ dl
  | ite a b c iha ihb ihc => intro i dl; simp only [nms, nmD, List.map_append]; rw [iha _ dl, ihb _ dl, ihc _ dl]
  | dly b ihb => intro i dl; exact ihb _ true
  | bin a b iha ihb => intro i dl; simp only [nms, nmD, List.map_append]; rw [iha _ dl, ihb _ dl]
theorem und_nmD (ts : List Tk) : ∀ (t : Ast) (i : Nat), ∀ j ∈ und ts t i, (j, false) ∈ nmD ts t i false := by
  intro t
  induction t with
  | leaf => intro i j h; simp only [und, nmD] at *; split at h <;> simp_all
  | neg a iha => intro i j h; exact iha _ j h
  | ite a b c iha ihb ihc =>
    intro i j h
    simp only [und, nmD, List.mem_append] at *
    exact h.imp (iha _ j) (Or.imp (ihb _ j) (ihc _ j))
  | dly b ihb => intro i j h; simp [und] at h
  | bin a b iha ihb =>
    intro i j h
    simp only [und, nmD, List.mem_append] at *
    exact h.imp (iha _ j) (ihb _ j)
theorem evT_congr (ts : List Tk) {V V' : List UInt8 → Nat → Int} : ∀ (t : Ast) (i n : Nat), (∀ j ∈ und ts t i, V (lAt ts j) n = V' (lAt ts j) n) → (∀ w n', n' < n → V w n' = V' w n') → evT ts V t i n = evT ts V' t i n := by
  intro t
  induction t with
  | leaf =>
    intro i n h _
    unfold evT
    by_cases hk : (tkAt ts i).kind = 1
    · rw [if_pos hk, if_pos hk]; exact h i (by unfold und; rw [if_pos hk]; simp)
    · rw [if_neg hk, if_neg hk]
  | neg a iha => intro i n h h2; simp only [evT]; rw [iha _ n h h2]
  | ite a b c iha ihb ihc =>
    intro i n h h2
    simp only [und, List.mem_append] at h
    simp only [evT]
    rw [iha _ n (fun j hj => h j (.inl hj)) h2, ihb _ n (fun j hj => h j (.inr (.inl hj))) h2, ihc _ n (fun j hj => h j (.inr (.inr hj))) h2]
  | dly b ihb =>
    intro i n h h2
    cases n with
    | zero => rfl
    | succ n => simp only [evT]; exact ihb _ n (fun j _ => h2 _ n (by omega)) (fun w n' hn => h2 w n' (by omega))
  | bin a b iha ihb =>
    intro i n h h2
    simp only [und, List.mem_append] at h
    simp only [evT]
    rw [iha _ n (fun j hj => h j (.inl hj)) h2, ihb _ n (fun j hj => h j (.inr hj)) h2]
def nmIs (ts : List Tk) (w : List UInt8) (x : Dl) : Bool := (nameD ts x).data.toList == w
def inIx (ts : List Tk) (L : List Dl) (w : List UInt8) : Option Nat := (inL L).findIdx? (nmIs ts w)
def eqIx (ts : List Tk) (L : List Dl) (w : List UInt8) : Option Nat := (eqL L).findIdx? (nmIs ts w)
def elemF (ins : List (List Int)) (i k : Nat) : Int := (ins.getD i []).getD k 0
def valV (ts : List Tk) (L : List Dl) (ins : List (List Int)) (R : Nat → Nat → Int) (w : List UInt8) (n : Nat) : Int :=
  match inIx ts L w with
  | some i => elemF ins i n
  | none => match eqIx ts L w with
    | some j => R j n
    | none => 0
def bodyV (ts : List Tk) (E : List Dl) (V : List UInt8 → Nat → Int) (j n : Nat) : Int :=
  match E[j]? with
  | some x => evT ts V x.t (x.i + 5) n
  | none => 0
def solF (ts : List Tk) (L : List Dl) (ins : List (List Int)) : Nat → Nat → Nat → Int
  | 0, _, _ => 0
  | f + 1, j, n => bodyV ts (eqL L) (valV ts L ins (solF ts L ins f)) j n
def sol (ts : List Tk) (L : List Dl) (ins : List (List Int)) (j n : Nat) : Int := solF ts L ins (n * ((eqL L).length + 1) + (eqL L).length + 1) j n
theorem valV_congr {ts : List Tk} {L : List Dl} {ins : List (List Int)} {R R' : Nat → Nat → Int} {w : List UInt8} {n : Nat} (h : ∀ j, eqIx ts L w = some j → R j n = R' j n) : valV ts L ins R w n = valV ts L ins R' w n := by
  unfold valV
  cases inIx ts L w with
  | some i => rfl
  | none =>
    cases he : eqIx ts L w with
    | none => rfl
    | some j => exact h j he
theorem eqIx_some {ts : List Tk} {L : List Dl} {w : List UInt8} {j : Nat} (h : eqIx ts L w = some j) : ∃ x, (eqL L)[j]? = some x ∧ (nameD ts x).data.toList = w := by
  obtain ⟨hj, hp, _⟩ := List.findIdx?_eq_some_iff_getElem.1 h
  exact ⟨(eqL L)[j], List.getElem?_eq_getElem hj, by simpa [nmIs] using hp⟩
theorem rel_und {ts : List Tk} (hF : ∀ i, TkF (tkAt ts i)) {L : List Dl} {i l j : Nat} {x : Dl} (hx : (eqL L)[i]? = some x) (hs : Sp ts x.t (x.i + 5)) (hl : x.i + 5 + x.t.len ≤ ts.length) (hj : j ∈ und ts x.t (x.i + 5)) (he : eqIx ts L (lAt ts j) = some l) : relR ts L i l = true := by
  obtain ⟨z, hz, hn⟩ := eqIx_some he
  unfold relR
  rw [hx, hz]
  show hangsR ts x (nameD ts z).data.toList = true
  rw [hangs_nm hF x hs hl, List.any_eq_true]
  exact ⟨(j, false), und_nmD ts _ _ j hj, by simp [hn]⟩
structure Eqs (ts : List Tk) (L : List Dl) : Prop where
  F : ∀ i, TkF (tkAt ts i)
  sp : ∀ x ∈ eqL L, Sp ts x.t (x.i + 5) ∧ x.i + 5 + x.t.len ≤ ts.length
  cyc : cycR ts L = none
section
variable {ts : List Tk} {L : List Dl} {ins : List (List Int)} (H : Eqs ts L)
include H
theorem sol_stable : ∀ m f f' j n, j < (eqL L).length → n * ((eqL L).length + 1) + rk ts L j ≤ m → m < f → m < f' → solF ts L ins f j n = solF ts L ins f' j n := by
  intro m
  induction m using Nat.strongRecOn with
  | ind m ih =>
    intro f f' j n hj hm hf hf'
    obtain ⟨f, rfl⟩ : ∃ g, f = g + 1 := ⟨f - 1, by omega⟩
    obtain ⟨f', rfl⟩ : ∃ g, f' = g + 1 := ⟨f' - 1, by omega⟩
    have hx : (eqL L)[j]? = some (eqL L)[j] := List.getElem?_eq_getElem hj
    obtain ⟨hs, hl⟩ := H.sp (eqL L)[j] (List.getElem_mem hj)
    simp only [solF, bodyV, hx]
    refine evT_congr ts _ _ _ (fun k hk => valV_congr fun l hl' => ?_) (fun w n' hn => valV_congr fun l hl' => ?_)
    · have hr := rel_und H.F hx hs hl hk hl'
      obtain ⟨z, hz, _⟩ := eqIx_some hl'
      have hlt : l < (eqL L).length := (List.getElem?_eq_some_iff.1 hz).1
      have hrk := rk_less H.cyc hlt hr
      exact ih (n * ((eqL L).length + 1) + rk ts L l) (by omega) f f' l n hlt (Nat.le_refl _) (by omega) (by omega)
    · obtain ⟨z, hz, _⟩ := eqIx_some hl'
      have hlt : l < (eqL L).length := (List.getElem?_eq_some_iff.1 hz).1
      have hrk := rk_lt H.cyc hlt
      have hmul : (n' + 1) * ((eqL L).length + 1) ≤ n * ((eqL L).length + 1) := Nat.mul_le_mul_right _ (by omega)
      rw [Nat.succ_mul] at hmul
      exact ih (n' * ((eqL L).length + 1) + rk ts L l) (by omega) f f' l n' hlt (Nat.le_refl _) (by omega) (by omega)
theorem sol_eq (j n : Nat) (hj : j < (eqL L).length) : sol ts L ins j n = evT ts (valV ts L ins (sol ts L ins)) (eqL L)[j].t ((eqL L)[j].i + 5) n := by
  have hx : (eqL L)[j]? = some (eqL L)[j] := List.getElem?_eq_getElem hj
  obtain ⟨hs, hl⟩ := H.sp (eqL L)[j] (List.getElem_mem hj)
  have hjr := rk_lt H.cyc hj
  show bodyV ts (eqL L) (valV ts L ins (solF ts L ins (n * ((eqL L).length + 1) + (eqL L).length))) j n = _
  simp only [bodyV, hx]
  refine evT_congr ts _ _ _ (fun k hk => valV_congr fun l hl' => ?_) (fun w n' hn => valV_congr fun l hl' => ?_)
  · have hr := rel_und H.F hx hs hl hk hl'
    obtain ⟨z, hz, _⟩ := eqIx_some hl'
    have hlt : l < (eqL L).length := (List.getElem?_eq_some_iff.1 hz).1
    have hrk := rk_less H.cyc hlt hr
    exact sol_stable H (n * ((eqL L).length + 1) + rk ts L l) _ _ l n hlt (Nat.le_refl _) (by omega) (by omega)
  · obtain ⟨z, hz, _⟩ := eqIx_some hl'
    have hlt : l < (eqL L).length := (List.getElem?_eq_some_iff.1 hz).1
    have hrk := rk_lt H.cyc hlt
    have hmul : (n' + 1) * ((eqL L).length + 1) ≤ n * ((eqL L).length + 1) := Nat.mul_le_mul_right _ (by omega)
    rw [Nat.succ_mul] at hmul
    exact sol_stable H (n' * ((eqL L).length + 1) + rk ts L l) _ _ l n' hlt (Nat.le_refl _) (by omega) (by omega)
end
theorem valOf_snoc (l : List UInt8) (d : UInt8) : valOf (l ++ [d]) = valOf l * 10 + (d.toNat - 48) := by
  unfold valOf; rw [List.foldl_append]; rfl
end Go.Proofs.Ytmndgoapkmhglab
