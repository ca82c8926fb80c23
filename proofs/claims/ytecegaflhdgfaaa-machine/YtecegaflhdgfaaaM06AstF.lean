import Derived.Test.YtecegaflhdgfaaaM00Cut
import Derived.Test.YtecegaflhdgfaaaM05AstD
/- Plain mathematics: both readers find the same declarations, or the same first token that cannot stand. -/
namespace Go.Proofs.Ytecegaflhdgfaaa

section
variable {ts : List Tk} (ht : TsOk ts) (hF : ∀ i, TkF (tkAt ts i))
include ht hF

theorem bracketA {d : Nat} {ex : Ex} (hd : d + 1 ≤ 16) (hx : ExA ts (d + 1) ex) {p : PS} (hp : p.next < ts.length) (hdep : p.depth = d) (h40 : lAt ts p.next = [40]) :
    (∀ r p', bracketF ts ex p = .ok (r, p') → ∃ t : Ast, Sp ts t p.next ∧ p.next + t.len < ts.length ∧ r = p.nodes.length ∧
      p' = { p with next := p.next + t.len, nodes := p.nodes ++ flat ts t p.next p.delays p.nodes.length } ∧
      ∀ X n r, X.length ≤ 4 + 3 * d → Ans ts n X d (p.next + t.len) r → ∃ n', Ans ts n' (69 :: X) d p.next r) ∧
    (∀ k, bracketF ts ex p = .error k → k < ts.length ∧ ∀ X, X.length ≤ 4 + 3 * d → ∃ n, Ans ts n (69 :: X) d p.next ((tkAt ts k).pos : Int)) := by
  obtain ⟨_, hl1⟩ := adv_kw ht (p := p) hp (by rw [h40]; decide)
  obtain ⟨ea, _⟩ := adv_kw ht (p := p.add ts ndZero) hp (by show lAt ts p.next ≠ []; rw [h40]; decide)
  have hd16 : (d : Int) < 16 := by omega
  have hnd : (p.add ts ndZero).nodes.getD p.nodes.length ndZero = mkN ts p.next p.delays ndZero := by
    simp [PS.add, mkN, PS.hd]
  have hin := insideA ht hF hd hx (p := { (p.add ts ndZero).adv ts with depth := p.depth + 1 }) (i := p.next) (dl := p.delays) (off := p.nodes.length) (by rw [ea]; rfl) hl1 (by show p.depth + 1 = d + 1; rw [hdep]) (by rw [ea]; rfl) (by rw [ea]; simp [PS.add])
  unfold bracketF
  rw [hnd]
  generalize hq : ({ (p.add ts ndZero).adv ts with depth := p.depth + 1 } : PS) = q at hin ⊢
  have qn : q.nodes = p.nodes ++ [mkN ts p.next p.delays ndZero] := by rw [← hq, ea]; rfl
  have qd : q.depth = d + 1 := by rw [← hq]; show p.depth + 1 = _; rw [hdep]
  have ql : q.delays = p.delays := by rw [← hq, ea]; rfl
  have qc : q.decls = p.decls := by rw [← hq, ea]; rfl
  cases he : insideF ts ex q (mkN ts p.next p.delays ndZero) with
  | error k =>
    rw [he] at hin
    obtain ⟨hk, hA⟩ := hin
    refine ⟨fun r p' h => (by cases h), fun k' h => ?_⟩
    cases h
    refine ⟨hk, fun X hX => ?_⟩
    obtain ⟨n, hn⟩ := hA (41 :: X) (by simp; omega)
    exact ⟨n + 1, Ans.opens hF hp (by omega) h40 hd16 hn⟩
  | ok v =>
    obtain ⟨n', p2⟩ := v
    rw [he] at hin
    obtain ⟨t, m, rest, hm, hsp, hl2, hfl, hp2, hA⟩ := hin
    simp only
    have hset : p2.nodes.set p.nodes.length n' = p.nodes ++ flat ts t p.next p.delays p.nodes.length := by
      rw [hp2, hfl]; simp only [qn]; simp
    have h2n : p2.next = p.next + m + 1 := by rw [hp2]
    unfold PS.take
    have hh : (PS.hd ts { p2 with depth := p2.depth - 1, nodes := p2.nodes.set p.nodes.length n' }) = tkAt ts (p.next + m + 1) := by unfold PS.hd; simp only [h2n]
    rw [hh]
    have hdm : (d : Int) + 1 - 1 = (d : Int) := by omega
    by_cases h41 : lAt ts (p.next + m + 1) = [41]
    · rw [if_pos (show (tkAt ts (p.next + m + 1)).l = [41] from h41)]
      simp only
      obtain ⟨ea2, hl3⟩ := adv_kw ht (p := { p2 with depth := p2.depth - 1, nodes := p2.nodes.set p.nodes.length n' }) (by simp only [h2n]; exact hl2) (by simp only [h2n]; rw [h41]; decide)
      simp only [h2n] at hl3
      refine ⟨fun r p' h => ?_, fun k' h => (by cases h)⟩
      rw [ea2] at h
      cases h
      refine ⟨t, hsp h40 h41, by rw [hm]; omega, rfl, ?_, fun X n r hX hAn => ?_⟩
      · rw [hset, h2n, hp2]
        simp only [qd, ql, qc, hm, ← hdep]
        rfl
      · obtain ⟨n2, hn2⟩ := hA (41 :: X) (n + 1) r (by simp; omega) (Ans.close hF hl2 (by omega) h41 (by rw [hdm, show p.next + m + 1 + 1 = p.next + t.len by omega]; exact hAn))
        exact ⟨n2 + 1, Ans.opens hF hp (by omega) h40 hd16 hn2⟩
    · rw [if_neg (show ¬ (tkAt ts (p.next + m + 1)).l = [41] from h41)]
      simp only
      refine ⟨fun r p' h => (by cases h), fun k' h => ?_⟩
      cases h
      rw [h2n]
      refine ⟨hl2, fun X hX => ?_⟩
      obtain ⟨n2, hn2⟩ := hA (41 :: X) 0 ((tkAt ts (p.next + m + 1)).pos : Int) (by simp; omega) (Ans.nosign hF 41 (by omega) hl2 (by omega) h41)
      exact ⟨n2 + 1, Ans.opens hF hp (by omega) h40 hd16 hn2⟩

theorem exprA : ∀ f d, d + f = 16 → ExA ts d (exprF ts f) := by
  have hatom : ∀ (p : PS) (br : Except Nat (Nat × PS)), lAt ts p.next ≠ [40] → atomF ts p br = if leafT (tkAt ts p.next) = true then .ok (leafF ts p (leafN0 (tkAt ts p.next))) else .error p.next := by
    intro p br h40
    unfold atomF
    rw [if_neg (show ¬ (p.hd ts).l = [40] from h40)]
    unfold leafN0 leafT litT PS.hd
    by_cases h1 : (tkAt ts p.next).l = kTrue
    · simp [h1]
    by_cases h2 : (tkAt ts p.next).l = kFalse
    · rw [if_neg h1, if_pos h2, if_neg h1, if_pos h2]; simp [h2]
    by_cases h3 : (tkAt ts p.next).kind = 3
    · simp [h1, h2, h3]
    by_cases h4 : (tkAt ts p.next).kind = 1
    · simp [h1, h2, h4]
    · simp [h1, h2, h3, h4]
  have hleaf : ∀ (d : Nat) (p : PS) (br : Except Nat (Nat × PS)), d ≤ 16 → p.next < ts.length → lAt ts p.next ≠ [40] →
      (∀ r p', atomF ts p br = .ok (r, p') → ∃ t : Ast, Sp ts t p.next ∧ p.next + t.len < ts.length ∧ r = p.nodes.length ∧
        p' = { p with next := p.next + t.len, nodes := p.nodes ++ flat ts t p.next p.delays p.nodes.length } ∧
        ∀ X n r, X.length ≤ 4 + 3 * d → Ans ts n X d (p.next + t.len) r → ∃ n', Ans ts n' (69 :: X) d p.next r) ∧
      (∀ k, atomF ts p br = .error k → k < ts.length ∧ ∀ X, X.length ≤ 4 + 3 * d → ∃ n, Ans ts n (69 :: X) d p.next ((tkAt ts k).pos : Int)) := by
    intro d p br hd hp h40
    rw [hatom p br h40]
    by_cases hl : leafT (tkAt ts p.next) = true
    · rw [if_pos hl]
      obtain ⟨_, hl1⟩ := adv_kw ht (p := p) hp (leaf_nil hF hl)
      refine ⟨fun r p' h => ?_, fun k h => (by cases h)⟩
      cases h
      refine ⟨.leaf, ⟨hl, h40⟩, hl1, rfl, ?_, fun X n r hX hA => ⟨n + 1, ?_⟩⟩
      · obtain ⟨ea, _⟩ := adv_kw ht (p := p.add ts (leafN0 (tkAt ts p.next))) hp (leaf_nil hF hl)
        rw [ea]; rfl
      · exact Ans.leaf hF hp (by omega) hl h40 hA
    · rw [if_neg hl]
      refine ⟨fun r p' h => (by cases h), fun k h => ?_⟩
      cases h
      exact ⟨hp, fun X hX => ⟨0, Ans.noleaf hF hp (by omega) (by simpa using hl) h40⟩⟩
  intro f
  induction f with
  | zero =>
    intro d hd
    refine ⟨fun p r p' hp he hdep => ?_, fun p k hp he hdep => ?_, fun p k he h40 => ?_⟩
    · by_cases h40 : lAt ts p.next = [40]
      · exfalso
        have he' : atomF ts p (.error p.next) = .ok (r, p') := he
        unfold atomF at he'
        rw [if_pos (show (p.hd ts).l = [40] from h40)] at he'
        cases he'
      · exact (hleaf d p _ (by omega) hp h40).1 r p' he
    · by_cases h40 : lAt ts p.next = [40]
      · have he' : atomF ts p (.error p.next) = .error k := he
        unfold atomF at he'
        rw [if_pos (show (p.hd ts).l = [40] from h40)] at he'
        cases he'
        exact ⟨hp, fun X hX => ⟨0, Ans.deep hF hp (by omega) h40 (by omega)⟩⟩
      · exact (hleaf d p _ (by omega) hp h40).2 k he
    · have he' : atomF ts p (.error p.next) = .error k := he
      rw [hatom p _ h40] at he'
      split at he'
      · cases he'
      · rename_i hl; cases he'; exact ⟨rfl, by simpa using hl⟩
  | succ f ih =>
    intro d hd
    have hx := ih (d + 1) (by omega)
    refine ⟨fun p r p' hp he hdep => ?_, fun p k hp he hdep => ?_, fun p k he h40 => ?_⟩
    · have he' : atomF ts p (bracketF ts (exprF ts f) p) = .ok (r, p') := he
      by_cases h40 : lAt ts p.next = [40]
      · unfold atomF at he'
        rw [if_pos (show (p.hd ts).l = [40] from h40)] at he'
        exact (bracketA ht hF (by omega) hx hp hdep h40).1 r p' he'
      · exact (hleaf d p _ (by omega) hp h40).1 r p' he'
    · have he' : atomF ts p (bracketF ts (exprF ts f) p) = .error k := he
      by_cases h40 : lAt ts p.next = [40]
      · unfold atomF at he'
        rw [if_pos (show (p.hd ts).l = [40] from h40)] at he'
        exact (bracketA ht hF (by omega) hx hp hdep h40).2 k he'
      · exact (hleaf d p _ (by omega) hp h40).2 k he'
    · have he' : atomF ts p (bracketF ts (exprF ts f) p) = .error k := he
      rw [hatom p _ h40] at he'
      split at he'
      · cases he'
      · rename_i hl; cases he'; exact ⟨rfl, by simpa using hl⟩

end

/-- a declaration: its kind (0 an input, 1 a number, 2 a truth), its first token, its expression. -/
structure Dl where
  kind : Nat
  i : Nat
  t : Ast

def Dl.len (x : Dl) : Nat := if x.kind = 0 then 3 else x.t.len + 6

def DlOk (ts : List Tk) (x : Dl) : Prop :=
  (x.kind = 0 ∧ lAt ts x.i = kIn ∧ (tkAt ts (x.i + 1)).kind = 1 ∧ lAt ts (x.i + 2) = [59]) ∨
  (((x.kind = 1 ∧ lAt ts x.i = kInt) ∨ (x.kind = 2 ∧ lAt ts x.i = kBool)) ∧ (tkAt ts (x.i + 1)).kind = 1 ∧ lAt ts (x.i + 2) = kAt ∧ ((tkAt ts (x.i + 3)).kind = 3 ∧ valOf (lAt ts (x.i + 3)) < 4) ∧
    lAt ts (x.i + 4) = [61] ∧ Sp ts x.t (x.i + 5) ∧ lAt ts (x.i + 5 + x.t.len) = [59])

/-- declarations from token i on, up to the end. -/
def Spell (ts : List Tk) : List Dl → Nat → Prop
  | [], i => i < ts.length ∧ (tkAt ts i).kind = 0
  | x :: r, i => x.i = i ∧ i + x.len < ts.length ∧ DlOk ts x ∧ Spell ts r (i + x.len)

def nodesD (ts : List Tk) : List Dl → Nat → List Nd
  | [], _ => []
  | x :: r, off => if x.kind = 0 then nodesD ts r off else flat ts x.t (x.i + 5) 0 off ++ nodesD ts r (off + x.t.size)

def dcIn (ts : List Tk) (x : Dl) (a : Nat) : Dc := ⟨0, a, (tkAt ts (x.i + 1)).text, (tkAt ts (x.i + 1)).pos, 0, 0, 0⟩
def dcEq (ts : List Tk) (x : Dl) (b off : Nat) : Dc := ⟨x.kind, b, (tkAt ts (x.i + 1)).text, (tkAt ts (x.i + 1)).pos, valOf (lAt ts (x.i + 3)), off, off + x.t.size⟩
def declsD (ts : List Tk) : List Dl → Nat → Nat → Nat → List Dc
  | [], _, _, _ => []
  | x :: r, off, a, b => if x.kind = 0 then dcIn ts x a :: declsD ts r off (a + 1) b else dcEq ts x b off :: declsD ts r (off + x.t.size) a (b + 1)

def insN (l : List Dc) : Nat := (l.filter fun d => d.kind == 0).length
theorem sameSort_ins (d : Dc) (l : List Dc) (h : d.kind = 0) : sameSort d l = insN l := by
  unfold sameSort insN; rw [h]; congr 1; apply List.filter_congr; intro a _; simp

section
variable {ts : List Tk} (ht : TsOk ts) (hF : ∀ i, TkF (tkAt ts i))
include ht hF

omit ht in
theorem Ans.name {n : Nat} {X : List UInt8} {d : Int} {i : Nat} {r : Int} (hi : i < ts.length) (hX : X.length ≤ 99) (h : (tkAt ts i).kind = 1) (hn : Ans ts n X d (i + 1) r) : Ans ts (n + 1) (97 :: X) d i r := by
  have hl : leafT (tkAt ts i) = true := by unfold leafT; rw [h]; simp
  obtain ⟨_, _, a, b⟩ := leaf_ne2 hF hl
  refine Ans.use hi hX (by decide) (m := []) ?_ a b hn
  have := c97 (tkAt ts i)
  unfold ruleF
  rw [if_neg (by decide), if_pos (by decide), this, h]; rfl
omit ht hF in
theorem Ans.noname {X : List UInt8} {d : Int} {i : Nat} (hi : i < ts.length) (hX : X.length ≤ 99) (h : (tkAt ts i).kind ≠ 1) : Ans ts 0 (97 :: X) d i ((tkAt ts i).pos : Int) := by
  refine Ans.fail 0 _ X d i hi hX (fun h => absurd h.1 (by decide)) ?_
  have := c97 (tkAt ts i)
  unfold ruleF
  rw [if_neg (by decide), if_pos (by decide), this]; simpa using h
omit ht in
theorem rule84 (i : Nat) (d : Int) : ruleF 84 (rtok (tkAt ts i)) d = ([], true, lAt ts i == kAt) := by
  unfold ruleF
  rw [if_neg (by decide), if_neg (by decide), if_pos (by decide), (hF i).eq (by decide)]
omit ht in
theorem Ans.isAt {n : Nat} {X : List UInt8} {d : Int} {i : Nat} {r : Int} (hi : i < ts.length) (hX : X.length ≤ 99) (h : lAt ts i = kAt) (hn : Ans ts n X d (i + 1) r) : Ans ts (n + 1) (84 :: X) d i r :=
  Ans.use hi hX (by decide) (m := []) (by have := rule84 hF i d; rw [h] at this; exact this) (by rw [h]; decide) (by rw [h]; decide) hn
omit ht in
theorem Ans.noAt {X : List UInt8} {d : Int} {i : Nat} (hi : i < ts.length) (hX : X.length ≤ 99) (h : lAt ts i ≠ kAt) : Ans ts 0 (84 :: X) d i ((tkAt ts i).pos : Int) :=
  Ans.fail 0 _ X d i hi hX (fun h => absurd h.1 (by decide)) (by
    show (ruleF 84 (rtok (tkAt ts i)) d).2.2 = false
    rw [rule84 hF]; simpa using h)
omit ht hF in
theorem rule81 (i : Nat) (d : Int) : (ruleF 81 (rtok (tkAt ts i)) d) = ([], true, decide ((tkAt ts i).kind = 3 ∧ valOf (lAt ts i) < 4)) := by
  have := c110 (tkAt ts i)
  unfold ruleF
  rw [if_neg (by decide), if_neg (by decide), if_neg (by decide), if_pos (by decide), this]
  by_cases h : (tkAt ts i).kind = 3
  · rw [rn3 h]; simp [h]
  · simp [h]
omit ht in
theorem Ans.place {n : Nat} {X : List UInt8} {d : Int} {i : Nat} {r : Int} (hi : i < ts.length) (hX : X.length ≤ 99) (h : (tkAt ts i).kind = 3 ∧ valOf (lAt ts i) < 4) (hn : Ans ts n X d (i + 1) r) : Ans ts (n + 1) (81 :: X) d i r := by
  have hl : leafT (tkAt ts i) = true := by unfold leafT litT; rw [h.1]; simp
  obtain ⟨_, _, a, b⟩ := leaf_ne2 hF hl
  exact Ans.use hi hX (by decide) (m := []) (by have := rule81 (ts := ts) i d; rw [decide_eq_true h] at this; exact this) a b hn
omit ht hF in
theorem Ans.noplace {X : List UInt8} {d : Int} {i : Nat} (hi : i < ts.length) (hX : X.length ≤ 99) (h : ¬ ((tkAt ts i).kind = 3 ∧ valOf (lAt ts i) < 4)) : Ans ts 0 (81 :: X) d i ((tkAt ts i).pos : Int) :=
  Ans.fail 0 _ X d i hi hX (fun h => absurd h.1 (by decide)) (by
    show (ruleF 81 (rtok (tkAt ts i)) d).2.2 = false
    rw [rule81]; simp only [decide_eq_false_iff_not]; exact h)
omit ht in
theorem rule80 (i : Nat) (d : Int) : ruleF 80 (rtok (tkAt ts i)) d = if lAt ts i = kIn then ([97, 59, 80], true, true) else ([97, 84, 81, 61, 69, 59, 80], true, lAt ts i == kInt || lAt ts i == kBool) := by
  unfold ruleF
  rw [if_pos (by decide), (hF i).if (by decide), (hF i).eq (by decide), (hF i).eq (by decide)]
omit ht in
theorem Ans.declIn {n : Nat} {i : Nat} {r : Int} (hi : i < ts.length) (h : lAt ts i = kIn) (hn : Ans ts n [97, 59, 80] 0 (i + 1) r) : Ans ts (n + 1) [80] 0 i r := by
  refine Ans.step n 80 [] 0 i r [97, 59, 80] true hi (by simp) (fun hk => (hF i).not0 (by show kwL.contains (lAt ts i) = true; rw [h]; decide) hk.2) ?_ ?_
  · have := rule80 hF i 0
    rw [if_pos h] at this
    exact this
  · rw [if_neg (by rw [h]; decide), if_neg (by rw [h]; decide), if_pos rfl]; exact hn
omit ht in
theorem Ans.declEq {n : Nat} {i : Nat} {r : Int} (hi : i < ts.length) (h : lAt ts i = kInt ∨ lAt ts i = kBool) (hn : Ans ts n [97, 84, 81, 61, 69, 59, 80] 0 (i + 1) r) : Ans ts (n + 1) [80] 0 i r := by
  refine Ans.step n 80 [] 0 i r [97, 84, 81, 61, 69, 59, 80] true hi (by simp) (fun hk => (hF i).not0 (by show kwL.contains (lAt ts i) = true; rcases h with h | h <;> rw [h] <;> decide) hk.2) ?_ ?_
  · have := rule80 hF i 0
    rcases h with h | h
    · rw [if_neg (by rw [h]; decide), h] at this; exact this
    · rw [if_neg (by rw [h]; decide), h] at this; exact this
  · rcases h with h | h
    · rw [if_neg (by rw [h]; decide), if_neg (by rw [h]; decide), if_pos rfl]; exact hn
    · rw [if_neg (by rw [h]; decide), if_neg (by rw [h]; decide), if_pos rfl]; exact hn
omit ht in
theorem Ans.nodecl {i : Nat} (hi : i < ts.length) (h0 : (tkAt ts i).kind ≠ 0) (h1 : lAt ts i ≠ kIn) (h2 : lAt ts i ≠ kInt) (h3 : lAt ts i ≠ kBool) : Ans ts 0 [80] 0 i ((tkAt ts i).pos : Int) := by
  refine Ans.fail 0 80 [] 0 i hi (by simp) (fun hk => h0 hk.2) ?_
  show (ruleF 80 (rtok (tkAt ts i)) 0).2.2 = false
  rw [rule80 hF, if_neg h1]; simp [h2, h3]

end

end Go.Proofs.Ytecegaflhdgfaaa

/- Plain mathematics: both readers find the same declarations: the proof. -/
namespace Go.Proofs.Ytecegaflhdgfaaa

section
variable {ts : List Tk} (ht : TsOk ts) (hF : ∀ i, TkF (tkAt ts i))
include ht hF

omit hF in
theorem takeY {p : PS} {l : List UInt8} (hl : l ≠ []) (hp : p.next < ts.length) (h : lAt ts p.next = l) : p.take ts l = .ok { p with next := p.next + 1 } ∧ p.next + 1 < ts.length := by
  obtain ⟨ea, hl1⟩ := adv_kw ht (p := p) hp (by rw [h]; exact hl)
  unfold PS.take
  rw [if_pos (show (p.hd ts).l = l from h), ea]
  exact ⟨rfl, hl1⟩
omit ht hF in
theorem takeN {p : PS} {l : List UInt8} (h : lAt ts p.next ≠ l) : p.take ts l = .error p.next := by
  unfold PS.take
  rw [if_neg (show ¬ (p.hd ts).l = l from h)]

/-- what one declaration leaves. -/
def afterD (ts : List Tk) (p : PS) (x : Dl) : PS :=
  { p with next := p.next + x.len, decls := p.decls ++ [if x.kind = 0 then dcIn ts x (insN p.decls) else dcEq ts x (eqsF p.decls).length p.nodes.length], nodes := p.nodes ++ (if x.kind = 0 then [] else flat ts x.t (x.i + 5) 0 p.nodes.length) }

theorem inputA {p : PS} (hp : p.next < ts.length) (h : lAt ts p.next = kIn) :
    (∀ p', inputF ts p = .ok p' → ∃ x : Dl, x.i = p.next ∧ p.next + x.len < ts.length ∧ DlOk ts x ∧ p' = afterD ts p x ∧ ∀ n r, Ans ts n [80] 0 (p.next + x.len) r → ∃ n', Ans ts n' [80] 0 p.next r) ∧
    (∀ k, inputF ts p = .error k → k < ts.length ∧ ∃ n, Ans ts n [80] 0 p.next ((tkAt ts k).pos : Int)) := by
  obtain ⟨ea, hl1⟩ := adv_kw ht (p := p) hp (by rw [h]; decide)
  unfold inputF
  rw [ea]
  have hh : PS.hd ts { p with next := p.next + 1 } = tkAt ts (p.next + 1) := rfl
  rw [hh]
  by_cases hk : (tkAt ts (p.next + 1)).kind = 1
  · rw [if_pos hk]
    have hne : lAt ts (p.next + 1) ≠ [] := (hF _).pos (by rw [hk]; decide)
    obtain ⟨eb, hl2⟩ := adv_kw ht (p := { p with next := p.next + 1 }) hl1 hne
    rw [eb]
    by_cases hs : lAt ts (p.next + 2) = [59]
    · obtain ⟨e3, hl3⟩ := takeY ht (p := PS.declare { p with next := p.next + 1 + 1 } ⟨0, 0, (tkAt ts (p.next + 1)).text, (tkAt ts (p.next + 1)).pos, 0, 0, 0⟩) (l := [59]) (by decide) hl2 hs
      have hl3' : p.next + 1 + 1 + 1 < ts.length := hl3
      rw [e3]
      refine ⟨fun p' he => ?_, fun k he => (by cases he)⟩
      cases he
      refine ⟨⟨0, p.next, .leaf⟩, rfl, hl3', .inl ⟨rfl, h, hk, hs⟩, ?_, fun n r hA => ⟨n + 1 + 1 + 1, ?_⟩⟩
      · unfold afterD PS.declare
        simp only [Dl.len, if_true, List.append_nil]
        congr 1
        rw [sameSort_ins _ _ rfl, Nat.zero_add]
        rfl
      · exact Ans.declIn hF hp h (Ans.name hF hl1 (by simp) hk (Ans.sign hF 59 (.inl rfl) hl2 (by simp) hs hA))
    · rw [takeN (p := PS.declare { p with next := p.next + 1 + 1 } ⟨0, 0, (tkAt ts (p.next + 1)).text, (tkAt ts (p.next + 1)).pos, 0, 0, 0⟩) (l := [59]) hs]
      refine ⟨fun p' he => (by cases he), fun k he => ?_⟩
      cases he
      exact ⟨hl2, 2, Ans.declIn hF hp h (Ans.name hF hl1 (by simp) hk (Ans.nosign hF 59 (.inl rfl) hl2 (by simp) hs))⟩
  · rw [if_neg hk]
    refine ⟨fun p' he => (by cases he), fun k he => ?_⟩
    cases he
    exact ⟨hl1, 1, Ans.declIn hF hp h (Ans.noname hl1 (by simp) hk)⟩

theorem equationA {p : PS} (kind : Nat) (hp : p.next < ts.length) (hdep : p.depth = 0) (hdl : p.delays = 0) (h : (kind = 1 ∧ lAt ts p.next = kInt) ∨ (kind = 2 ∧ lAt ts p.next = kBool)) :
    (∀ p', equationF ts kind p = .ok p' → ∃ x : Dl, x.i = p.next ∧ p.next + x.len < ts.length ∧ DlOk ts x ∧ p' = afterD ts p x ∧ ∀ n r, Ans ts n [80] 0 (p.next + x.len) r → ∃ n', Ans ts n' [80] 0 p.next r) ∧
    (∀ k, equationF ts kind p = .error k → k < ts.length ∧ ∃ n, Ans ts n [80] 0 p.next ((tkAt ts k).pos : Int)) := by
  have hor : lAt ts p.next = kInt ∨ lAt ts p.next = kBool := h.elim (fun h => .inl h.2) (fun h => .inr h.2)
  have hk0 : kind ≠ 0 := by omega
  obtain ⟨ea, hl1⟩ := adv_kw ht (p := p) hp (by rcases hor with h | h <;> rw [h] <;> decide)
  unfold equationF
  rw [ea]
  have hh : PS.hd ts { p with next := p.next + 1 } = tkAt ts (p.next + 1) := rfl
  rw [hh]
  by_cases hk : (tkAt ts (p.next + 1)).kind = 1
  case neg =>
    rw [if_neg hk]
    refine ⟨fun p' he => (by cases he), fun k he => ?_⟩
    cases he
    exact ⟨hl1, 1, Ans.declEq hF hp hor (Ans.noname hl1 (by simp) hk)⟩
  rw [if_pos hk]
  have hne : lAt ts (p.next + 1) ≠ [] := (hF _).pos (by rw [hk]; decide)
  obtain ⟨eb, hl2⟩ := adv_kw ht (p := { p with next := p.next + 1 }) hl1 hne
  have hl2' : p.next + 2 < ts.length := hl2
  rw [eb]
  by_cases hat : lAt ts (p.next + 2) = kAt
  case neg =>
    rw [takeN (p := { p with next := p.next + 1 + 1 }) (l := kAt) hat]
    refine ⟨fun p' he => (by cases he), fun k he => ?_⟩
    cases he
    exact ⟨hl2, 2, Ans.declEq hF hp hor (Ans.name hF hl1 (by simp) hk (Ans.noAt hF hl2 (by simp) hat))⟩
  obtain ⟨e3, hl3⟩ := takeY ht (p := { p with next := p.next + 1 + 1 }) (l := kAt) (by decide) hl2 hat
  have hl3' : p.next + 3 < ts.length := hl3
  rw [e3]
  simp only
  unfold placeF
  have hh3 : PS.hd ts { p with next := p.next + 1 + 1 + 1 } = tkAt ts (p.next + 3) := rfl
  rw [hh3]
  by_cases hpl : (tkAt ts (p.next + 3)).kind = 3 ∧ valOf (tkAt ts (p.next + 3)).l < 4
  case neg =>
    rw [if_neg hpl]
    refine ⟨fun p' he => (by cases he), fun k he => ?_⟩
    cases he
    exact ⟨hl3, 3, Ans.declEq hF hp hor (Ans.name hF hl1 (by simp) hk (Ans.isAt hF hl2 (by simp) hat (Ans.noplace hl3' (by simp) hpl)))⟩
  rw [if_pos hpl]
  have hne3 : lAt ts (p.next + 3) ≠ [] := (hF _).pos (by rw [hpl.1]; decide)
  obtain ⟨e4, hl4⟩ := adv_kw ht (p := { p with next := p.next + 1 + 1 + 1 }) hl3 hne3
  have hl4' : p.next + 4 < ts.length := hl4
  rw [e4]
  simp only
  by_cases heq : lAt ts (p.next + 4) = [61]
  case neg =>
    rw [takeN (p := { p with next := p.next + 1 + 1 + 1 + 1 }) (l := [61]) heq]
    refine ⟨fun p' he => (by cases he), fun k he => ?_⟩
    cases he
    exact ⟨hl4, 4, Ans.declEq hF hp hor (Ans.name hF hl1 (by simp) hk (Ans.isAt hF hl2 (by simp) hat (Ans.place hF hl3' (by simp) hpl (Ans.nosign hF 61 (.inr (.inl rfl)) hl4' (by simp) heq))))⟩
  obtain ⟨e5, hl5⟩ := takeY ht (p := { p with next := p.next + 1 + 1 + 1 + 1 }) (l := [61]) (by decide) hl4 heq
  have hl5' : p.next + 5 < ts.length := hl5
  rw [e5]
  simp only
  have hx := exprA ht hF 16 0 rfl
  have hcome : ∀ n r, Ans ts n (69 :: [59, 80]) 0 (p.next + 5) r → ∃ n', Ans ts n' [80] 0 p.next r := fun n r hA =>
    ⟨n + 1 + 1 + 1 + 1 + 1, Ans.declEq hF hp hor (Ans.name hF hl1 (by simp) hk (Ans.isAt hF hl2 (by simp) hat (Ans.place hF hl3' (by simp) hpl (Ans.sign hF 61 (.inr rfl) hl4' (by simp) heq hA))))⟩
  generalize hQ : ({ next := p.next + 1 + 1 + 1 + 1 + 1, depth := p.depth, delays := p.delays, decls := p.decls, nodes := p.nodes } : PS) = q
  have q1 : q.next = p.next + 5 := by rw [← hQ]
  have q2 : q.depth = 0 := by rw [← hQ]; exact hdep
  have q3 : q.delays = 0 := by rw [← hQ]; exact hdl
  have q4 : q.nodes = p.nodes := by rw [← hQ]
  have q5 : q.decls = p.decls := by rw [← hQ]
  cases he : exprF ts 16 q with
  | error k =>
    simp only
    obtain ⟨hkl, hA⟩ := hx.bad q k (by rw [q1]; exact hl5') he q2
    refine ⟨fun p' he => (by cases he), fun k he => ?_⟩
    cases he
    obtain ⟨n, hn⟩ := hA [59, 80] (by simp)
    rw [q1] at hn
    exact ⟨hkl, hcome n _ hn⟩
  | ok v =>
    obtain ⟨r0, p4⟩ := v
    simp only
    obtain ⟨t, hs, hl, hr, hp4, hA⟩ := hx.ok q r0 p4 (by rw [q1]; exact hl5') he q2
    rw [q1] at hs hl hA
    have n4 : p4.next = p.next + 5 + t.len := by rw [hp4, q1]
    by_cases hs9 : lAt ts (p.next + 5 + t.len) = [59]
    · obtain ⟨e9, hl9⟩ := takeY ht (p := p4.declare ⟨kind, 0, (tkAt ts (p.next + 1)).text, (tkAt ts (p.next + 1)).pos, valOf (tkAt ts (p.next + 3)).l, r0, p4.nodes.length⟩) (l := [59]) (by decide) (by show p4.next < _; rw [n4]; exact hl) (by show lAt ts p4.next = _; rw [n4]; exact hs9)
      have hl9' : p4.next + 1 < ts.length := hl9
      rw [n4] at hl9'
      rw [e9]
      refine ⟨fun p' he => ?_, fun k he => (by cases he)⟩
      cases he
      refine ⟨⟨kind, p.next, t⟩, rfl, by simp [Dl.len, hk0]; omega, .inr ⟨h, hk, hat, hpl, heq, hs, hs9⟩, ?_, fun n r hA9 => ?_⟩
      · unfold afterD PS.declare
        rw [sameSort_eqs _ _ hk0]
        simp only [Dl.len, if_neg hk0, n4, Nat.zero_add]
        rw [hp4, q2, q3, q4, q5, q1, hr, q4, ← hdep]
        simp only [dcEq, List.length_append, flat_len]
        congr 1
        · omega
        · omega
      · obtain ⟨n2, hn2⟩ := hA [59, 80] (n + 1) r (by simp) (Ans.sign hF 59 (.inl rfl) hl (by simp) hs9 (by
          have e : p.next + 5 + t.len + 1 = p.next + (⟨kind, p.next, t⟩ : Dl).len := by simp [Dl.len, hk0]; omega
          rw [e]; exact hA9))
        exact hcome n2 r hn2
    · rw [takeN (p := p4.declare ⟨kind, 0, (tkAt ts (p.next + 1)).text, (tkAt ts (p.next + 1)).pos, valOf (tkAt ts (p.next + 3)).l, r0, p4.nodes.length⟩) (l := [59]) (by show lAt ts p4.next ≠ _; rw [n4]; exact hs9)]
      refine ⟨fun p' he => (by cases he), fun k he => ?_⟩
      have ek : k = p.next + 5 + t.len := by rw [← n4]; cases he; rfl
      subst ek
      obtain ⟨n2, hn2⟩ := hA [59, 80] 0 ((tkAt ts (p.next + 5 + t.len)).pos : Int) (by simp) (Ans.nosign hF 59 (.inl rfl) hl (by simp) hs9)
      exact ⟨hl, hcome n2 _ hn2⟩

theorem declarationA {p : PS} (hp : p.next < ts.length) (hdep : p.depth = 0) (hdl : p.delays = 0) (h0 : (tkAt ts p.next).kind ≠ 0) :
    (∀ p', declarationF ts p = .ok p' → ∃ x : Dl, x.i = p.next ∧ p.next + x.len < ts.length ∧ DlOk ts x ∧ p' = afterD ts p x ∧ ∀ n r, Ans ts n [80] 0 (p.next + x.len) r → ∃ n', Ans ts n' [80] 0 p.next r) ∧
    (∀ k, declarationF ts p = .error k → k < ts.length ∧ ∃ n, Ans ts n [80] 0 p.next ((tkAt ts k).pos : Int)) := by
  unfold declarationF
  by_cases h1 : lAt ts p.next = kIn
  · rw [if_pos (show (p.hd ts).l = kIn from h1)]; exact inputA ht hF hp h1
  rw [if_neg (show ¬ (p.hd ts).l = kIn from h1)]
  by_cases h2 : lAt ts p.next = kInt
  · rw [if_pos (show (p.hd ts).l = kInt from h2)]; exact equationA ht hF 1 hp hdep hdl (.inl ⟨rfl, h2⟩)
  rw [if_neg (show ¬ (p.hd ts).l = kInt from h2)]
  by_cases h3 : lAt ts p.next = kBool
  · rw [if_pos (show (p.hd ts).l = kBool from h3)]; exact equationA ht hF 2 hp hdep hdl (.inr ⟨rfl, h3⟩)
  rw [if_neg (show ¬ (p.hd ts).l = kBool from h3)]
  refine ⟨fun p' he => (by cases he), fun k he => ?_⟩
  cases he
  exact ⟨hp, 0, Ans.nodecl hF hp h0 h1 h2 h3⟩

theorem declsA : ∀ f (p : PS), ts.length ≤ f + p.next → p.next < ts.length → p.depth = 0 → p.delays = 0 →
    (∀ p', declsF ts f p = .ok p' → ∃ L, Spell ts L p.next ∧ p'.decls = p.decls ++ declsD ts L p.nodes.length (insN p.decls) (eqsF p.decls).length ∧ p'.nodes = p.nodes ++ nodesD ts L p.nodes.length ∧ ∃ n, Ans ts n [80] 0 p.next (-1)) ∧
    (∀ k, declsF ts f p = .error k → k < ts.length ∧ ∃ n, Ans ts n [80] 0 p.next ((tkAt ts k).pos : Int)) := by
  intro f
  induction f with
  | zero => intro p h1 h2; omega
  | succ f ih =>
    intro p hf hp hdep hdl
    unfold declsF
    by_cases h0 : (tkAt ts p.next).kind = 0
    · rw [if_pos (show (p.hd ts).kind = 0 from h0)]
      refine ⟨fun p' he => ?_, fun k he => (by cases he)⟩
      cases he
      exact ⟨[], ⟨hp, h0⟩, by simp [declsD], by simp [nodesD], 0, Ans.done 0 [] 0 p.next hp (by simp) h0⟩
    · rw [if_neg (show ¬ (p.hd ts).kind = 0 from h0)]
      obtain ⟨hok, hbad⟩ := declarationA ht hF hp hdep hdl h0
      cases he : declarationF ts p with
      | error k =>
        refine ⟨fun p' he => (by cases he), fun k' he' => ?_⟩
        cases he'
        exact hbad k he
      | ok q =>
        obtain ⟨x, hxi, hxl, hxo, hq, hA⟩ := hok q he
        simp only
        have hlen : 0 < x.len := by unfold Dl.len; split <;> omega
        have qn : q.next = p.next + x.len := by rw [hq]; rfl
        obtain ⟨ok2, bad2⟩ := ih q (by rw [qn]; omega) (by rw [qn]; exact hxl) (by rw [hq]; exact hdep) (by rw [hq]; exact hdl)
        rw [qn] at ok2 bad2
        refine ⟨fun p' he' => ?_, fun k he' => ?_⟩
        · obtain ⟨L, hL, hd, hn, n, hAn⟩ := ok2 p' he'
          obtain ⟨n2, hn2⟩ := hA n _ hAn
          refine ⟨x :: L, ⟨hxi, hxl, hxo, hL⟩, ?_, ?_, n2, hn2⟩
          · rw [hd, hq]
            simp only [afterD, declsD]
            by_cases hk : x.kind = 0
            · simp only [hk, if_true]
              simp [insN, eqsF, dcIn, List.filter_append]
            · simp only [if_neg hk]
              have hk2 : (x.kind == 0) = false := by simpa using hk
              simp [insN, eqsF, dcEq, List.filter_append, hk, flat_len]
          · rw [hn, hq]
            simp only [afterD, nodesD]
            by_cases hk : x.kind = 0
            · simp only [hk, if_true]; simp
            · simp only [if_neg hk]; simp [flat_len]
        · obtain ⟨hk, n, hAn⟩ := bad2 k he'
          obtain ⟨n2, hn2⟩ := hA n _ hAn
          exact ⟨hk, n2, hn2⟩

end

/-- the text's parts. -/
theorem parseA (s : ByteArray) (hs : s.size ≤ 1500) :
    (∀ p, parseF s = .ok p → ∃ L, Spell (toks s) L 0 ∧ p.decls = declsD (toks s) L 0 0 0 ∧ p.nodes = nodesD (toks s) L 0 ∧ ∃ n, Ans (toks s) n [80] 0 0 (-1)) ∧
    (∀ k, parseF s = .error k → k < (toks s).length ∧ ∃ n, Ans (toks s) n [80] 0 0 ((tkAt (toks s) k).pos : Int)) := by
  have ht := toks_ok s hs
  have h := declsA ht (toks_F s) (toks s).length pZero (by simp) ht.pos rfl rfl
  refine ⟨fun p hp => ?_, fun k hk => h.2 k hk⟩
  obtain ⟨L, h1, h2, h3, h4⟩ := h.1 p hp
  exact ⟨L, h1, by rw [h2]; rfl, by rw [h3]; rfl, h4⟩

end Go.Proofs.Ytecegaflhdgfaaa
