import Derived.Test.Ytmndgoapkmhglabc00Base
import Derived.Test.Ytmndgoapkmhglabc02RefClass
namespace Go.Proofs.Ytmndgoapkmhglab
abbrev Mx := Nat → Nat → Bool
def phase (M : Mx) (k : Nat) : Mx := fun i j => M i j || (M i k && M k j)
def warsh (M : Mx) : Nat → Mx
  | 0 => M
  | k + 1 => phase (warsh M k) k
def midM (M : Mx) (k f m : Nat) : Mx := fun i j => if i < f ∨ (i = f ∧ j < m) then phase M k i j else M i j
theorem phase_row (M : Mx) (k j : Nat) : phase M k k j = M k j := by
  unfold phase; cases h : M k j <;> simp
theorem midM_zero (M : Mx) (k : Nat) : midM M k 0 0 = M := by
  funext i j; unfold midM; rw [if_neg (by omega)]
theorem midM_between (M : Mx) (k f m j : Nat) (h : ¬ (k = f ∧ j < m)) : midM M k f m k j = M k j := by
  unfold midM
  by_cases h1 : k < f
  · rw [if_pos (.inl h1)]; exact phase_row M k j
  · rw [if_neg (by omega)]
theorem midM_here (M : Mx) (k f m j : Nat) (h : m ≤ j) : midM M k f m f j = M f j := by
  unfold midM; rw [if_neg (by omega)]
def upd (M : Mx) (a b : Nat) (v : Bool) : Mx := fun i j => if i = a ∧ j = b then v else M i j
theorem midM_set (M : Mx) (k f m : Nat) (h1 : M f k = true) (h2 : M k m = true) : upd (midM M k f m) f m true = midM M k f (m + 1) := by
  funext i j
  unfold upd midM
  by_cases e : i = f ∧ j = m
  · obtain ⟨rfl, rfl⟩ := e
    rw [if_pos ⟨rfl, rfl⟩, if_pos (.inr ⟨rfl, by omega⟩)]
    unfold phase; rw [h1, h2]; simp
  · rw [if_neg e]
    by_cases h : i < f ∨ (i = f ∧ j < m)
    · rw [if_pos h, if_pos (by omega)]
    · rw [if_neg h, if_neg (by omega)]
theorem midM_skip (M : Mx) (k f m : Nat) (h2 : M k m = false) : midM M k f m = midM M k f (m + 1) := by
  funext i j
  unfold midM
  by_cases h : i < f ∨ (i = f ∧ j < m)
  · rw [if_pos h, if_pos (by omega)]
  · rw [if_neg h]
    by_cases e : i = f ∧ j = m
    · obtain ⟨rfl, rfl⟩ := e
      rw [if_pos (.inr ⟨rfl, by omega⟩)]
      unfold phase; rw [h2]; simp
    · rw [if_neg (by omega)]
def agree (n : Nat) (A B : Mx) : Prop := ∀ i j, i < n → j < n → A i j = B i j
theorem midM_done (M : Mx) (n k f m : Nat) (hm : n ≤ m) : agree n (midM M k f m) (midM M k (f + 1) 0) := by
  intro i j _ hj
  unfold midM
  by_cases h : i < f ∨ (i = f ∧ j < m)
  · rw [if_pos h, if_pos (by omega)]
  · rw [if_neg h, if_neg (by omega)]
theorem midM_pass (M : Mx) (n k f : Nat) (h : M f k = false) : agree n (midM M k f 0) (midM M k (f + 1) 0) := by
  intro i j _ _
  unfold midM
  by_cases h1 : i < f
  · rw [if_pos (.inl h1), if_pos (by omega)]
  · rw [if_neg (by omega)]
    by_cases e : i = f
    · subst e
      rw [if_pos (by omega)]
      unfold phase; rw [h]; simp
    · rw [if_neg (by omega)]
theorem midM_all (M : Mx) (n k f : Nat) (h : n ≤ f) : agree n (midM M k f 0) (phase M k) := by
  intro i j hi _
  unfold midM
  rw [if_pos (by omega)]
structure Step (ts : List Tk) (p p' : PS) : Prop where
  lt : p.next < p'.next
  next : p'.next < ts.length
  depth : p'.depth = p.depth
  delays : p'.delays = p.delays
  decls : p'.decls = p.decls
  nodes : ∃ l, p'.nodes = p.nodes ++ l
  len : p'.nodes.length ≤ p'.next
theorem Step.wf {ts : List Tk} {p p' : PS} (h : Step ts p p') (hw : p.Wf ts) : p'.Wf ts :=
  ⟨h.next, h.len, by rw [h.decls]; exact Nat.le_trans hw.decls (Nat.le_of_lt h.lt), by rw [h.delays, h.depth]; exact hw.delays, by rw [h.depth]; exact hw.depth⟩
theorem Step.trans {ts : List Tk} {p p1 p2 : PS} (h : Step ts p p1) (k : Step ts p1 p2) : Step ts p p2 := by
  obtain ⟨l, hl⟩ := h.nodes
  obtain ⟨m, hm⟩ := k.nodes
  exact ⟨Nat.lt_trans h.lt k.lt, k.next, k.depth.trans h.depth, k.delays.trans h.delays, k.decls.trans h.decls, ⟨l ++ m, by rw [hm, hl, List.append_assoc]⟩, k.len⟩
def ExOk (ts : List Tk) (d : Nat) (ex : Ex) : Prop :=
  ∀ p, p.Wf ts → p.depth = d → (∀ r p', ex p = .ok (r, p') → Step ts p p' ∧ r = p.nodes.length ∧ r < p'.nodes.length) ∧ (∀ k, ex p = .error k → k < ts.length)
theorem adv_wf {ts : List Tk} {p : PS} (h : p.Wf ts) : (p.adv ts).Wf ts :=
  ⟨adv_lt h.next, by rw [adv_nodes]; exact Nat.le_trans h.nodes (adv_ge ts p), by rw [adv_decls]; exact Nat.le_trans h.decls (adv_ge ts p), by simp [h.delays], by simp [h.depth]⟩
theorem adv_step {ts : List Tk} (ht : TsOk ts) {p : PS} (h : p.Wf ts) (hk : (p.hd ts).kind ≠ 0 ∨ (p.hd ts).l ≠ []) : Step ts p (p.adv ts) := by
  rw [adv_next ht h.next hk]
  have := ht.last h.next hk
  exact ⟨Nat.lt_succ_self _, this, rfl, rfl, rfl, ⟨[], by simp⟩, Nat.le_succ_of_le h.nodes⟩
theorem take_ok {ts : List Tk} (ht : TsOk ts) {p p' : PS} {l : List UInt8} (h : p.Wf ts) (hl : l ≠ []) (he : p.take ts l = .ok p') : p' = p.adv ts ∧ Step ts p p' := by
  unfold PS.take at he
  split at he
  · rename_i hh
    cases he
    exact ⟨rfl, adv_step ht h (.inr (by rw [hh]; exact hl))⟩
  · cases he
theorem take_err {ts : List Tk} {p : PS} {l : List UInt8} {k : Nat} (h : p.next < ts.length) (he : p.take ts l = .error k) : k = p.next ∧ k < ts.length := by
  unfold PS.take at he
  split at he
  · cases he
  · cases he; exact ⟨rfl, h⟩
theorem leaf_step {ts : List Tk} (ht : TsOk ts) {p : PS} {n : Nd} (h : p.Wf ts) (hk : (p.hd ts).kind ≠ 0 ∨ (p.hd ts).l ≠ []) :
    Step ts p (leafF ts p n).2 ∧ (leafF ts p n).1 = p.nodes.length ∧ (leafF ts p n).1 < (leafF ts p n).2.nodes.length := by
  have hl := ht.last h.next hk
  have e : (p.add ts n).adv ts = { p.add ts n with next := p.next + 1 } := adv_next ht (p := p.add ts n) h.next hk
  unfold leafF
  rw [e]
  refine ⟨⟨Nat.lt_succ_self _, hl, rfl, rfl, rfl, ⟨_, rfl⟩, ?_⟩, rfl, ?_⟩
  · simp [PS.add]; exact h.nodes
  · simp [PS.add]
theorem inside_ok {ts : List Tk} (ht : TsOk ts) {d : Nat} {ex : Ex} (hx : ExOk ts d ex) {p : PS} (h : p.Wf ts) (hd : p.depth = d) (hdl : p.delays + 1 ≤ d) (n : Nd) :
    (∀ n' p', insideF ts ex p n = .ok (n', p') → Step ts p p') ∧ (∀ k, insideF ts ex p n = .error k → k < ts.length) := by
  unfold insideF
  split
  · rename_i hl
    have hs := adv_step ht h (.inr (by rw [hl]; decide))
    have hx1 := hx (p.adv ts) (hs.wf h) (by rw [hs.depth, hd])
    unfold notF
    constructor
    · intro n' p' he
      split at he
      · cases he
      · rename_i a p1 h1; cases he
        exact hs.trans (hx1.1 _ _ h1).1
    · intro k he
      split at he
      · rename_i e h1; cases he; exact hx1.2 _ h1
      · cases he
  split
  · rename_i hl0 hl
    have hs := adv_step ht h (.inr (by rw [hl]; decide))
    have hx1 := hx (p.adv ts) (hs.wf h) (by rw [hs.depth, hd])
    unfold choiceF
    constructor
    · intro n' p' he
      split at he
      · cases he
      · rename_i a p1 h1
        have s1 := hs.trans (hx1.1 _ _ h1).1
        have hx2 := hx p1 (s1.wf h) (by rw [s1.depth, hd])
        split at he
        · cases he
        · rename_i b p2 h2
          have s2 := s1.trans (hx2.1 _ _ h2).1
          have hx3 := hx p2 (s2.wf h) (by rw [s2.depth, hd])
          split at he
          · cases he
          · rename_i c p3 h3; cases he
            exact s2.trans (hx3.1 _ _ h3).1
    · intro k he
      split at he
      · rename_i e h1; cases he; exact hx1.2 _ h1
      · rename_i a p1 h1
        have s1 := hs.trans (hx1.1 _ _ h1).1
        have hx2 := hx p1 (s1.wf h) (by rw [s1.depth, hd])
        split at he
        · rename_i e h2; cases he; exact hx2.2 _ h2
        · rename_i b p2 h2
          have s2 := s1.trans (hx2.1 _ _ h2).1
          have hx3 := hx p2 (s2.wf h) (by rw [s2.depth, hd])
          split at he
          · rename_i e h3; cases he; exact hx3.2 _ h3
          · cases he
  · have hx1 := hx p h hd
    unfold infixF
    constructor
    · intro n' p' he
      split at he
      · cases he
      · rename_i a p1 h1
        have s1 := (hx1.1 _ _ h1).1
        have hw1 := s1.wf h
        split at he
        · rename_i hl
          have hs := adv_step ht hw1 (.inr (by rw [hl.2]; decide))
          have hw2 := hs.wf hw1
          unfold delayF at he
          have hw3 : ({ p1.adv ts with delays := (p1.adv ts).delays + 1 } : PS).Wf ts := ⟨hw2.next, hw2.nodes, hw2.decls, by simp; rw [s1.delays, s1.depth, hd]; exact hdl, hw2.depth⟩
          have hx3 := hx _ hw3 (by simp; rw [s1.depth, hd])
          split at he
          · cases he
          · rename_i b p2 h2; cases he
            have s3 := (hx3.1 _ _ h2).1
            refine (s1.trans hs).trans ⟨s3.lt, s3.next, s3.depth, ?_, s3.decls, s3.nodes, s3.len⟩
            show p2.delays - 1 = _
            rw [s3.delays]; simp
        · unfold infixRest at he
          split at he
          · cases he
          · rename_i op ho
            have hs := adv_step ht hw1 (.inr (by intro e; rw [e] at ho; simp [opOf] at ho))
            have hx2 := hx _ (hs.wf hw1) (by rw [hs.depth, s1.depth, hd])
            split at he
            · cases he
            · rename_i b p2 h2; cases he
              exact (s1.trans hs).trans (hx2.1 _ _ h2).1
    · intro k he
      split at he
      · rename_i e h1; cases he; exact hx1.2 _ h1
      · rename_i a p1 h1
        have s1 := (hx1.1 _ _ h1).1
        have hw1 := s1.wf h
        split at he
        · rename_i hl
          have hs := adv_step ht hw1 (.inr (by rw [hl.2]; decide))
          have hw2 := hs.wf hw1
          unfold delayF at he
          have hw3 : ({ p1.adv ts with delays := (p1.adv ts).delays + 1 } : PS).Wf ts := ⟨hw2.next, hw2.nodes, hw2.decls, by simp; rw [s1.delays, s1.depth, hd]; exact hdl, hw2.depth⟩
          have hx3 := hx _ hw3 (by simp; rw [s1.depth, hd])
          split at he
          · rename_i e h2; cases he; exact hx3.2 _ h2
          · cases he
        · unfold infixRest at he
          split at he
          · cases he; exact hw1.next
          · rename_i op ho
            have hs := adv_step ht hw1 (.inr (by intro e; rw [e] at ho; simp [opOf] at ho))
            have hx2 := hx _ (hs.wf hw1) (by rw [hs.depth, s1.depth, hd])
            split at he
            · rename_i e h2; cases he; exact hx2.2 _ h2
            · cases he
def inBr (ts : List Tk) (p : PS) : PS := { (p.add ts ndZero).adv ts with depth := p.depth + 1 }
theorem inBr_wf {ts : List Tk} (ht : TsOk ts) {p : PS} (h : p.Wf ts) (hd : p.depth < 16) (hk : (p.hd ts).kind ≠ 0 ∨ (p.hd ts).l ≠ []) : (inBr ts p).Wf ts ∧ (inBr ts p).next = p.next + 1 := by
  have hl := ht.last h.next hk
  have e : (p.add ts ndZero).adv ts = { p.add ts ndZero with next := p.next + 1 } := adv_next ht (p := p.add ts ndZero) h.next hk
  unfold inBr
  rw [e]
  have := h.nodes
  have := h.decls
  have := h.delays
  exact ⟨⟨hl, by simp [PS.add]; omega, by simp [PS.add]; omega, by simp [PS.add]; omega, by simp; omega⟩, rfl⟩
theorem bracket_ok {ts : List Tk} (ht : TsOk ts) {d : Nat} {ex : Ex} (hx : ExOk ts (d + 1) ex) {p : PS} (h : p.Wf ts) (hd : p.depth = d) (hd16 : d < 16) (hk : (p.hd ts).l = [40]) :
    (∀ r p', bracketF ts ex p = .ok (r, p') → Step ts p p' ∧ r = p.nodes.length ∧ r < p'.nodes.length) ∧ (∀ k, bracketF ts ex p = .error k → k < ts.length) := by
  obtain ⟨hw, hn⟩ := inBr_wf ht h (by omega) (.inr (by rw [hk]; decide))
  have hin := inside_ok ht hx hw (by simp [inBr, hd]) (by have := h.delays; simp [inBr, PS.add]; omega) ((p.add ts ndZero).nodes.getD p.nodes.length ndZero)
  unfold bracketF
  constructor
  · intro r p' he
    split at he
    · cases he
    · rename_i n p2 h2
      have s2 := hin.1 _ _ h2
      obtain ⟨l, hl⟩ := s2.nodes
      have hln : (inBr ts p).nodes.length = p.nodes.length + 1 := by simp [inBr, PS.add]
      have hlen2 : p.nodes.length < p2.nodes.length := by rw [hl, List.length_append, hln]; omega
      split at he
      · cases he
      · rename_i p3 h3
        have hw2 := s2.wf hw
        have hw2' : ({ p2 with depth := p2.depth - 1, nodes := p2.nodes.set p.nodes.length n } : PS).Wf ts := by
          refine ⟨hw2.next, by simp; exact hw2.nodes, hw2.decls, ?_, ?_⟩
          · show p2.delays ≤ p2.depth - 1
            rw [s2.delays, s2.depth]
            have := h.delays
            simp [inBr, PS.add]; omega
          · show p2.depth - 1 ≤ 16
            rw [s2.depth]; simp [inBr]; exact h.depth
        obtain ⟨rfl, s3⟩ := take_ok ht hw2' (by decide) h3
        cases he
        refine ⟨⟨?_, s3.next, ?_, ?_, ?_, ?_, s3.len⟩, rfl, ?_⟩
        · have := s2.lt; have := s3.lt; simp at this; omega
        · rw [s3.depth]; show p2.depth - 1 = _; rw [s2.depth]; simp [inBr]
        · rw [s3.delays]; show p2.delays = _; rw [s2.delays]; simp [inBr, PS.add]
        · rw [s3.decls]; show p2.decls = _; rw [s2.decls]; simp [inBr, PS.add]
        · refine ⟨n :: l, ?_⟩
          rw [adv_nodes]
          show p2.nodes.set p.nodes.length n = _
          rw [hl]
          have : (inBr ts p).nodes = p.nodes ++ [(p.add ts ndZero).nodes.getD p.nodes.length ndZero] := by simp [inBr, PS.add]
          rw [this, List.append_assoc, List.set_append_right _ _ (Nat.le_refl _), Nat.sub_self]
          rfl
        · rw [adv_nodes]; simpa using hlen2
  · intro k he
    split at he
    · rename_i e h2; cases he; exact hin.2 _ h2
    · rename_i n p2 h2
      split at he
      · rename_i e h3; cases he
        exact (take_err (p := { p2 with depth := p2.depth - 1, nodes := p2.nodes.set p.nodes.length n }) (hin.1 _ _ h2).next h3).2
      · cases he
theorem expr_ok {ts : List Tk} (ht : TsOk ts) : ∀ f d, d + f = 16 → ExOk ts d (exprF ts f) := by
  intro f
  induction f with
  | zero =>
    intro d hd p hw hpd
    simp only [exprF, atomF]
    split
    · exact ⟨fun r p' he => (by cases he), fun k he => (by cases he; exact hw.next)⟩
    split
    · rename_i hl; exact ⟨fun r p' he => by cases he; exact leaf_step ht hw (.inr (by rw [hl]; decide)), fun k he => by cases he⟩
    split
    · rename_i hl; exact ⟨fun r p' he => by cases he; exact leaf_step ht hw (.inr (by rw [hl]; decide)), fun k he => by cases he⟩
    split
    · rename_i hl; exact ⟨fun r p' he => by cases he; exact leaf_step ht hw (.inl (by rw [hl]; decide)), fun k he => by cases he⟩
    split
    · rename_i hl; exact ⟨fun r p' he => by cases he; exact leaf_step ht hw (.inl (by rw [hl]; decide)), fun k he => by cases he⟩
    · exact ⟨fun r p' he => (by cases he), fun k he => (by cases he; exact hw.next)⟩
  | succ f ih =>
    intro d hd p hw hpd
    simp only [exprF, atomF]
    split
    · rename_i hl; exact bracket_ok ht (ih (d + 1) (by omega)) hw hpd (by omega) hl
    split
    · rename_i hl; exact ⟨fun r p' he => by cases he; exact leaf_step ht hw (.inr (by rw [hl]; decide)), fun k he => by cases he⟩
    split
    · rename_i hl; exact ⟨fun r p' he => by cases he; exact leaf_step ht hw (.inr (by rw [hl]; decide)), fun k he => by cases he⟩
    split
    · rename_i hl; exact ⟨fun r p' he => by cases he; exact leaf_step ht hw (.inl (by rw [hl]; decide)), fun k he => by cases he⟩
    split
    · rename_i hl; exact ⟨fun r p' he => by cases he; exact leaf_step ht hw (.inl (by rw [hl]; decide)), fun k he => by cases he⟩
    · exact ⟨fun r p' he => (by cases he), fun k he => (by cases he; exact hw.next)⟩
structure DStep (ts : List Tk) (p p' : PS) : Prop where
  lt : p.next < p'.next
  wf : p'.Wf ts
  depth : p'.depth = p.depth
  delays : p'.delays = p.delays
theorem place_step {ts : List Tk} (ht : TsOk ts) {p p' : PS} {r : Nat} (h : p.Wf ts) (he : placeF ts p = .ok (r, p')) : Step ts p p' ∧ r < 4 := by
  unfold placeF at he
  split at he
  · rename_i hh
    cases he
    exact ⟨adv_step ht h (.inl (by rw [hh.1]; decide)), hh.2⟩
  · cases he
theorem declare_wf {ts : List Tk} {p : PS} {d : Dc} (h : p.Wf ts) (hd : p.decls.length + 1 ≤ p.next) : (p.declare d).Wf ts :=
  ⟨h.next, h.nodes, by simp [PS.declare]; exact hd, h.delays, h.depth⟩
theorem declaration_step {ts : List Tk} (ht : TsOk ts) {p p' : PS} (h : p.Wf ts) (hd0 : p.depth = 0) (he : declarationF ts p = .ok p') : DStep ts p p' := by
  unfold declarationF at he
  have inp : (p.hd ts).l ≠ [] → inputF ts p = .ok p' → DStep ts p p' := by
    intro hk he
    have s1 := adv_step ht h (.inr hk)
    have w1 := s1.wf h
    unfold inputF at he
    split at he
    · rename_i hn
      have s2 := adv_step ht w1 (.inl (by rw [hn]; decide))
      have w2 := s2.wf w1
      have hdl : ((p.adv ts).adv ts).decls.length + 1 ≤ ((p.adv ts).adv ts).next := by
        have := h.decls; have := s1.lt; have := s2.lt; simp; omega
      obtain ⟨_, s3⟩ := take_ok ht (declare_wf (d := ⟨0, 0, ((p.adv ts).hd ts).text, ((p.adv ts).hd ts).pos, 0, 0, 0⟩) w2 hdl) (by decide) he
      have e1 := s1.lt
      have e2 := s2.lt
      have e3 : ((p.adv ts).adv ts).next < p'.next := s3.lt
      refine ⟨by omega, ?_, ?_, ?_⟩
      · exact s3.wf (declare_wf w2 hdl)
      · rw [s3.depth]; simp [PS.declare]
      · rw [s3.delays]; simp [PS.declare]
    · cases he
  have eqn : ∀ kind, (p.hd ts).l ≠ [] → equationF ts kind p = .ok p' → DStep ts p p' := by
    intro kind hk he
    have s1 := adv_step ht h (.inr hk)
    have w1 := s1.wf h
    unfold equationF at he
    split at he
    · rename_i hn
      have s2 := adv_step ht w1 (.inl (by rw [hn]; decide))
      have w2 := s2.wf w1
      split at he
      · cases he
      rename_i p3 h3
      obtain ⟨_, s3⟩ := take_ok ht w2 (by decide) h3
      have w3 := s3.wf w2
      split at he
      · cases he
      rename_i pl p4 h4
      obtain ⟨s4, _⟩ := place_step ht w3 h4
      have w4 := s4.wf w3
      split at he
      · cases he
      rename_i p5 h5
      obtain ⟨_, s5⟩ := take_ok ht w4 (by decide) h5
      have w5 := s5.wf w4
      split at he
      · cases he
      rename_i r p6 h6
      have hd5 : p5.depth = 0 := by rw [s5.depth, s4.depth, s3.depth, s2.depth, s1.depth]; exact hd0
      obtain ⟨s6, _⟩ := (expr_ok ht 16 0 (by omega) p5 w5 hd5).1 _ _ h6
      have w6 := s6.wf w5
      have sAll := ((((s1.trans s2).trans s3).trans s4).trans s5).trans s6
      have hdl : p6.decls.length + 1 ≤ p6.next := by
        rw [sAll.decls]; have := h.decls; have := sAll.lt; omega
      obtain ⟨_, s7⟩ := take_ok ht (declare_wf (d := ⟨kind, 0, ((p.adv ts).hd ts).text, ((p.adv ts).hd ts).pos, pl, r, p6.nodes.length⟩) w6 hdl) (by decide) he
      have e1 := sAll.lt
      have e2 : p6.next < p'.next := s7.lt
      refine ⟨by omega, s7.wf (declare_wf w6 hdl), ?_, ?_⟩
      · rw [s7.depth]; show p6.depth = _; exact sAll.depth
      · rw [s7.delays]; show p6.delays = _; exact sAll.delays
    · cases he
  split at he
  · rename_i hl; exact inp (by rw [hl]; decide) he
  split at he
  · rename_i hl; exact eqn 1 (by rw [hl]; decide) he
  split at he
  · rename_i hl; exact eqn 2 (by rw [hl]; decide) he
  · cases he
def pZero : PS := ⟨0, 0, 0, [], []⟩
def parseF (s : ByteArray) : Except Nat PS := declsF (toks s) (toks s).length pZero
theorem pZero_wf {ts : List Tk} (ht : TsOk ts) : pZero.Wf ts := ⟨ht.pos, Nat.le_refl _, Nat.le_refl _, Nat.le_refl _, by decide⟩
theorem findF_hit (l : List Dc) (name : ByteArray) (k : Nat) (h : k < l.length) (hk : (l[k]'h).name.data.toList = name.data.toList) (hb : ∀ j (hj : j < k), (l[j]'(by omega)).name.data.toList ≠ name.data.toList) : findF l name = (k : Int) := by
  unfold findF
  have : l.findIdx? (fun d => d.name.data.toList == name.data.toList) = some k := by
    rw [List.findIdx?_eq_some_iff_getElem]
    refine ⟨h, by simpa using hk, ?_⟩
    intro j hj
    simpa using hb j hj
  rw [this]
theorem findF_miss (l : List Dc) (name : ByteArray) (hb : ∀ j (hj : j < l.length), (l[j]'hj).name.data.toList ≠ name.data.toList) : findF l name = -1 := by
  unfold findF
  have : l.findIdx? (fun d => d.name.data.toList == name.data.toList) = none := by
    rw [List.findIdx?_eq_none_iff]
    intro d hd
    obtain ⟨j, hj, rfl⟩ := List.getElem_of_mem hd
    simpa using hb j hj
  rw [this]
def most (d : Dc) : Nat := if d.kind = 0 then 4 else 12
def tooManyF : List Dc → Option Nat
  | [] => none
  | d :: r => if most d ≤ d.number then some d.pos else tooManyF r
def seg (ns : List Nd) (a b : Nat) : List Nd := (ns.drop a).take (b - a)
def badNodeF : List Nd → Option Nat
  | [] => none
  | n :: r => if n.kind = 2 ∧ n.decl < 0 then some n.pos else badNodeF r
def badNameF (all : List Dc) (ns : List Nd) : Nat → List Dc → Option Nat
  | _, [] => none
  | i, d :: r =>
    if findF all d.name ≠ (i : Int) then some d.pos
    else match badNodeF (seg ns d.root d.fin) with
      | some a => some a
      | none => badNameF all ns (i + 1) r
def takesT (op : Nat) : Bool := op == 11 || op == 12
def makesT (op : Nat) : Bool := op == 9 || op == 10 || takesT op
def kindAt (ds : List Dc) (i : Int) : Nat := (ds.getD i.toNat ⟨0, 0, ⟨#[]⟩, 0, 0, 0, 0⟩).kind
def fitsF (ds : List Dc) (n : Nd) (truth : Bool) : Bool :=
  if n.kind = 0 then !truth
  else if n.kind = 1 ∨ n.kind = 3 then truth
  else if n.kind = 2 then truth == (kindAt ds n.decl == 2)
  else if n.kind = 6 then truth == makesT n.op
  else true
def tell (n : Nd) (t : Bool) (tr : List Bool) : List Bool :=
  if n.kind = 3 then tr.set n.a true
  else if n.kind = 4 then ((tr.set n.a true).set n.b t).set n.c t
  else if n.kind = 5 then (tr.set n.a t).set n.b t
  else if n.kind = 6 then (tr.set n.a (takesT n.op)).set n.b (takesT n.op)
  else tr
def badTypeF (ds : List Dc) : Nat → List Nd → List Bool → Option Nat
  | _, [], _ => none
  | i, n :: r, tr => if fitsF ds n (tr.getD i false) then badTypeF ds (i + 1) r (tell n (tr.getD i false) tr) else some n.pos
def roots : List Dc → List Bool → List Bool
  | [], tr => tr
  | d :: r, tr => roots r (if d.kind = 2 then tr.set d.root true else tr)
def markSeg (ds : List Dc) (i : Nat) : List Nd → Mx → Mx
  | [], M => M
  | n :: r, M => markSeg ds i r (if n.kind = 2 ∧ n.delayed = false ∧ kindAt ds n.decl ≠ 0 then upd M i n.decl.toNat true else M)
def markAll (ds : List Dc) (ns : List Nd) : Nat → List Dc → Mx → Mx
  | _, [], M => M
  | i, d :: r, M => markAll ds ns (i + 1) r (markSeg ds i (seg ns d.root d.fin) M)
def firstSelf (M : Mx) : Nat → List Dc → Option Nat
  | _, [] => none
  | i, d :: r => if M i i then some d.pos else firstSelf M (i + 1) r
def noM : Mx := fun _ _ => false
def cycleF (ds : List Dc) (ns : List Nd) : Option Nat := firstSelf (warsh (markAll ds ns 0 ds noM) ds.length) 0 ds
structure ProgWf (ds : List Dc) (ns : List Nd) : Prop where
  dl : ds.length ≤ 1501
  nl : ns.length ≤ 1501
  segs : ∀ d ∈ ds, (d.root = 0 ∧ d.fin = 0 ∧ d.kind = 0) ∨ (d.root < d.fin ∧ d.fin ≤ ns.length)
  parts : ∀ n ∈ ns, n.a < ns.length ∧ n.b < ns.length ∧ n.c < ns.length
  decl : ∀ n ∈ ns, n.kind = 2 → -1 ≤ n.decl ∧ n.decl < (ds.length : Int)
  kind : ∀ n ∈ ns, n.kind ≤ 6
  place : ∀ d ∈ ds, d.place < 4
  later : ∀ i (h : i < ns.length), ((ns[i]'h).kind = 3 → i < (ns[i]'h).a) ∧ ((ns[i]'h).kind = 4 → i < (ns[i]'h).a ∧ (ns[i]'h).a < (ns[i]'h).b ∧ (ns[i]'h).b < (ns[i]'h).c) ∧ ((ns[i]'h).kind = 5 ∨ (ns[i]'h).kind = 6 → i < (ns[i]'h).a ∧ (ns[i]'h).a < (ns[i]'h).b)
def DigTok (t : Tk) : Prop := t.kind = 3 → t.text.size ≤ 18 ∧ ∀ c ∈ t.text.data.toList, 48 ≤ c.toNat ∧ c.toNat ≤ 57
def TsDig (ts : List Tk) : Prop := ∀ i, i < ts.length → DigTok (tkAt ts i)
theorem runTo_all (s : ByteArray) (cl : Nat) : ∀ f k j, k ≤ j → j < runTo s cl f k → cls (byt s j) = cl ∧ j < s.size := by
  intro f
  induction f with
  | zero => intro k j h1 h2; simp only [runTo] at h2; omega
  | succ f ih =>
    intro k j h1 h2
    simp only [runTo] at h2
    split at h2
    · rename_i hc
      by_cases e : j = k
      · subst e; exact ⟨hc.2, hc.1⟩
      · exact ih (k + 1) j (by omega) h2
    · omega
theorem cls_two {c : Nat} (h : cls c = 2) : 48 ≤ c ∧ c ≤ 57 := by
  unfold cls at h
  split at h
  · cases h
  split at h
  · cases h
  split at h
  · assumption
  split at h <;> cases h
theorem toks_dig (s : ByteArray) : TsDig (toks s) := by
  have key : ∀ f k, ∀ t ∈ toksFrom s f k, DigTok t := by
    intro f
    induction f with
    | zero => intro k t ht; simp [toksFrom] at ht
    | succ f ih =>
      intro k t ht
      simp only [toksFrom] at ht
      split at ht
      · rename_i hk
        split at ht
        · exact ih _ t ht
        · rcases List.mem_cons.1 ht with rfl | ht
          · intro hkind
            have hk2 : kindK (s.extract k (endOf s k)).data.toList (cls (byt s k)) = 3 := hkind
            unfold kindK at hk2
            split at hk2
            · unfold wordK at hk2
              split at hk2
              · cases hk2
              split at hk2 <;> cases hk2
            split at hk2
            · rename_i hc2
              unfold numK at hk2
              split at hk2
              · cases hk2
              rename_i h18
              have hsz : (s.extract k (endOf s k)).data.toList.length = (s.extract k (endOf s k)).size := size_len _
              refine ⟨by show (s.extract k (endOf s k)).size ≤ 18; omega, ?_⟩
              show ∀ c ∈ (s.extract k (endOf s k)).data.toList, 48 ≤ c.toNat ∧ c.toNat ≤ 57
              intro c hc
              obtain ⟨j, hj, rfl⟩ := List.getElem_of_mem hc
              have hle := endOf_le s k hk
              have hjs : j < endOf s k - k := by
                rw [hsz, ByteArray.size_extract] at hj
                omega
              have hkj : k + j < s.size := by omega
              have hcl : cls (byt s (k + j)) = 2 := by
                by_cases e : j = 0
                · subst e; exact hc2
                · have he : endOf s k = runTo s 2 (s.size - (k + 1)) (k + 1) := by unfold endOf; rw [if_pos (.inr hc2), hc2]
                  rw [he] at hjs
                  exact (runTo_all s 2 (s.size - (k + 1)) (k + 1) (k + j) (by omega) (by omega)).1
              have hget : (s.extract k (endOf s k)).data.toList[j]'hj = s.data.toList[k + j]'(by rw [size_len]; exact hkj) := by
                simp
              have hb : byt s (k + j) = ((s.extract k (endOf s k)).data.toList[j]'hj).toNat := by
                rw [hget]
                unfold byt
                simp [hkj]
              have h2 := cls_two hcl
              rw [hb] at h2
              exact h2
            · split at hk2 <;> cases hk2
          · exact ih _ t ht
      · simp at ht
  intro i hi
  have hm : tkAt (toks s) i ∈ toks s := by
    unfold tkAt
    rw [List.getD_eq_getElem?_getD, List.getElem?_eq_getElem hi]
    exact List.getElem_mem hi
  generalize tkAt (toks s) i = t at hm ⊢
  unfold toks at hm
  rcases List.mem_append.1 hm with h | h
  · exact key _ _ _ h
  · simp at h
    rw [h]
    intro hk
    cases hk
def usesSeg (decl : Nat) : List Nd → Bool → Bool → Bool × Bool
  | [], u, p => (u, p)
  | n :: r, u, p => if n.kind = 2 ∧ n.decl = (decl : Int) then usesSeg decl r true (p || !n.behind) else usesSeg decl r u p
def usesAll (ns : List Nd) (decl place : Nat) : List Dc → Bool → Bool → Bool × Bool
  | [], u, p => (u, p)
  | d :: r, u, p => if d.kind = 0 ∨ d.place ≠ place then usesAll ns decl place r u p
      else usesAll ns decl place r (usesSeg decl (seg ns d.root d.fin) u p).1 (usesSeg decl (seg ns d.root d.fin) u p).2
def usesF (ds : List Dc) (ns : List Nd) (decl place : Nat) : Bool × Bool := usesAll ns decl place ds false false
structure Rt where
  src : Nat
  dst : Nat
  late : Bool
def linkAt (ds : List Dc) (ns : List Nd) (i : Nat) (d : Dc) (q : Nat) : List Rt :=
  if (usesF ds ns i q).1 = true ∧ q ≠ d.place then [⟨d.number, q, !(usesF ds ns i q).2⟩] else []
def linksTo (ds : List Dc) (ns : List Nd) (i : Nat) (d : Dc) : Nat → List Rt
  | 0 => []
  | q + 1 => linksTo ds ns i d q ++ linkAt ds ns i d q
def linksFrom (ds : List Dc) (ns : List Nd) : Nat → List Dc → List Rt
  | _, [] => []
  | i, d :: r => (if d.kind = 0 then [] else linksTo ds ns i d 4) ++ linksFrom ds ns (i + 1) r
def linksF (ds : List Dc) (ns : List Nd) : List Rt := linksFrom ds ns 0 ds
def eqsF (ds : List Dc) : List Dc := ds.filter fun d => d.kind != 0
def waitsM (es : List Dc) : List Rt → Mx → Mx
  | [], M => M
  | r :: l, M => waitsM es l (if r.late = true then M else upd M r.dst (es.getD r.src ⟨0, 0, ⟨#[]⟩, 0, 0, 0, 0⟩).place true)
def firstAt (M : Mx) : List Dc → Option Nat
  | [] => none
  | d :: r => if M d.place d.place then some d.pos else firstAt M r
def loopF (ds : List Dc) (ns : List Nd) : Option Nat := firstAt (warsh (waitsM (eqsF ds) (linksF ds ns) noM) 4) (eqsF ds)
theorem linksTo_len (ds : List Dc) (ns : List Nd) (i : Nat) (d : Dc) : ∀ q, (linksTo ds ns i d q).length ≤ q := by
  intro q
  induction q with
  | zero => simp [linksTo]
  | succ q ih =>
    simp only [linksTo, List.length_append, linkAt]
    split <;> simp <;> omega
def meaningF (ds : List Dc) (ns : List Nd) : Nat × Nat :=
  match tooManyF ds with
  | some a => (3, a)
  | none => match badNameF ds ns 0 ds with
    | some a => (4, a)
    | none => match badTypeF ds 0 ns (roots ds (List.replicate ns.length false)) with
      | some a => (5, a)
      | none => match cycleF ds ns with
        | some a => (6, a)
        | none => match loopF ds ns with
          | some a => (7, a)
          | none => (0, 0)
structure Good (ds : List Dc) (ns : List Nd) : Prop where
  wf : ProgWf ds ns
  names : badNameF ds ns 0 ds = none → ∀ n ∈ ns, n.kind = 2 → 0 ≤ n.decl
  links : ∀ r ∈ linksF ds ns, r.src < (eqsF ds).length ∧ r.dst < 4
  many : (linksF ds ns).length ≤ 6100
def boundN (p : PS) : List Nd := p.nodes.map (bindF p.decls)
def textF (s : ByteArray) : Nat × Nat :=
  if 1500 < s.size then (1, 0)
  else match parseF s with
    | .error k => (2, (tkAt (toks s) k).pos)
    | .ok p => meaningF p.decls (boundN p)
structure NdOk (N i : Nat) (n : Nd) : Prop where
  kind : n.kind ≤ 6
  a : n.a < N
  b : n.b < N
  c : n.c < N
  k3 : n.kind = 3 → i < n.a
  k4 : n.kind = 4 → i < n.a ∧ n.a < n.b ∧ n.b < n.c
  k5 : n.kind = 5 ∨ n.kind = 6 → i < n.a ∧ n.a < n.b
theorem NdOk.mono {N M i : Nat} {n : Nd} (h : NdOk N i n) (hm : N ≤ M) : NdOk M i n :=
  ⟨h.kind, Nat.lt_of_lt_of_le h.a hm, Nat.lt_of_lt_of_le h.b hm, Nat.lt_of_lt_of_le h.c hm, h.k3, h.k4, h.k5⟩
def NInv (ns : List Nd) : Prop := ∀ (i : Nat) (n : Nd), ns[i]? = some n → NdOk ns.length i n
structure Grow (p p' : PS) : Prop where
  decls : p'.decls = p.decls
  nodes : ∃ l, p'.nodes = p.nodes ++ l
  inv : NInv p.nodes → NInv p'.nodes
theorem Grow.trans {p q r : PS} (h : Grow p q) (k : Grow q r) : Grow p r := by
  obtain ⟨l, hl⟩ := h.nodes
  obtain ⟨m, hm⟩ := k.nodes
  exact ⟨k.decls.trans h.decls, ⟨l ++ m, by rw [hm, hl, List.append_assoc]⟩, fun x => k.inv (h.inv x)⟩
theorem Grow.of {p q : PS} (h1 : q.decls = p.decls) (h2 : q.nodes = p.nodes) : Grow p q := ⟨h1, ⟨[], by simp [h2]⟩, fun h => by rw [h2]; exact h⟩
theorem Grow.adv (ts : List Tk) (p : PS) : Grow p (p.adv ts) := Grow.of (by simp) (by simp)
theorem Grow.len {p q : PS} (h : Grow p q) : p.nodes.length ≤ q.nodes.length := by
  obtain ⟨l, hl⟩ := h.nodes; rw [hl]; simp
theorem NInv.push {ns : List Nd} {n : Nd} (h : NInv ns) (hn : NdOk (ns.length + 1) ns.length n) : NInv (ns ++ [n]) := by
  intro i m hm
  rw [List.length_append, List.length_singleton]
  rw [List.getElem?_append] at hm
  split at hm
  · exact (h i m hm).mono (by omega)
  · rename_i hi
    cases e : i - ns.length with
    | zero =>
      rw [e] at hm
      cases hm
      have : i = ns.length := by omega
      subst this
      exact hn
    | succ j => rw [e] at hm; simp at hm
theorem take_grow {ts : List Tk} {p p' : PS} {l : List UInt8} (h : p.take ts l = .ok p') : p' = p.adv ts ∧ (p.hd ts).l = l := by
  unfold PS.take at h
  split at h
  · rename_i hl; cases h; exact ⟨rfl, hl⟩
  · cases h
def ExN (ex : Ex) : Prop := ∀ p r p', ex p = .ok (r, p') → Grow p p' ∧ r = p.nodes.length ∧ r < p'.nodes.length
theorem insideN {ts : List Tk} {ex : Ex} (hx : ExN ex) {p p' : PS} {n n' : Nd} {i : Nat} (hi : i < p.nodes.length) (h0 : n.b = 0) (h1 : n.c = 0) (he : insideF ts ex p n = .ok (n', p')) :
    Grow p p' ∧ NdOk p'.nodes.length i n' := by
  unfold insideF at he
  split at he
  · unfold notF at he
    split at he
    · cases he
    · rename_i a p1 e1
      cases he
      obtain ⟨g1, ha, hb⟩ := hx _ _ _ e1
      rw [adv_nodes] at ha
      have := g1.len
      rw [adv_nodes] at this
      exact ⟨(Grow.adv ts p).trans g1, ⟨by simp, hb, by show n.b < _; omega, by show n.c < _; omega, fun _ => by show i < a; omega, fun h => by simp at h, fun h => by simp at h⟩⟩
  split at he
  · unfold choiceF at he
    split at he
    · cases he
    · rename_i a p1 e1
      obtain ⟨g1, ha, hla⟩ := hx _ _ _ e1
      rw [adv_nodes] at ha
      split at he
      · cases he
      · rename_i b p2 e2
        obtain ⟨g2, hb, hlb⟩ := hx _ _ _ e2
        split at he
        · cases he
        · rename_i c p3 e3
          obtain ⟨g3, hc, hlc⟩ := hx _ _ _ e3
          cases he
          have l1 := g1.len
          have l2 := g2.len
          have l3 := g3.len
          rw [adv_nodes] at l1
          exact ⟨(((Grow.adv ts p).trans g1).trans g2).trans g3, ⟨by simp, by show a < _; omega, by show b < _; omega, by show c < _; omega, fun h => by simp at h, fun _ => ⟨by show i < a; omega, by show a < b; omega, by show b < c; omega⟩, fun h => by simp at h⟩⟩
  · unfold infixF at he
    split at he
    · cases he
    · rename_i a p1 e1
      obtain ⟨g1, ha, hla⟩ := hx _ _ _ e1
      have l1 := g1.len
      split at he
      · unfold delayF at he
        split at he
        · cases he
        · rename_i b p2 e2
          obtain ⟨g2, hb, hlb⟩ := hx _ _ _ e2
          cases he
          have hb' : b = p1.nodes.length := by rw [hb]; show (p1.adv ts).nodes.length = _; rw [adv_nodes]
          have g : Grow p1 { p1.adv ts with delays := (p1.adv ts).delays + 1 } := Grow.of (by simp) (by simp)
          refine ⟨((g1.trans g).trans g2).trans (Grow.of rfl rfl), ⟨by simp, by show a < p2.nodes.length; omega, by show b < p2.nodes.length; omega, by show n.c < p2.nodes.length; omega, fun h => by simp at h, fun h => by simp at h, fun _ => ⟨by show i < a; omega, by show a < b; omega⟩⟩⟩
      · unfold infixRest at he
        split at he
        · cases he
        · rename_i op ho
          split at he
          · cases he
          · rename_i b p2 e2
            obtain ⟨g2, hb, hlb⟩ := hx _ _ _ e2
            cases he
            rw [adv_nodes] at hb
            refine ⟨(g1.trans (Grow.adv ts p1)).trans g2, ⟨by simp, by show a < _; omega, by show b < _; omega, by show n.c < _; omega, fun h => by simp at h, fun h => by simp at h, fun _ => ⟨by show i < a; omega, by show a < b; omega⟩⟩⟩
theorem leafN (ts : List Tk) (p : PS) (n : Nd) (hk : n.kind ≤ 2) (ha : n.a = 0) (hb : n.b = 0) (hc : n.c = 0) :
    Grow p (leafF ts p n).2 ∧ (leafF ts p n).1 = p.nodes.length ∧ (leafF ts p n).1 < (leafF ts p n).2.nodes.length := by
  unfold leafF
  refine ⟨?_, rfl, by simp [PS.add]⟩
  refine Grow.trans (q := p.add ts n) ⟨rfl, ⟨_, rfl⟩, fun h => ?_⟩ (Grow.adv ts _)
  refine NInv.push h ⟨by show n.kind ≤ 6; omega, by show n.a < _; omega, by show n.b < _; omega, by show n.c < _; omega, fun h => ?_, fun h => ?_, fun h => ?_⟩
  · have : n.kind = 3 := h
    omega
  · have : n.kind = 4 := h
    omega
  · have : n.kind = 5 ∨ n.kind = 6 := h
    omega
theorem bracketN {ts : List Tk} {ex : Ex} (hx : ExN ex) {p p' : PS} {r : Nat} (he : bracketF ts ex p = .ok (r, p')) : Grow p p' ∧ r = p.nodes.length ∧ r < p'.nodes.length := by
  unfold bracketF at he
  split at he
  · cases he
  · rename_i n p2 e2
    have hnd : (p.add ts ndZero).nodes.getD p.nodes.length ndZero = { ndZero with pos := (p.hd ts).pos, delayed := decide (0 < p.delays), behind := decide (0 < p.next) && ((tkAt ts (p.next - 1)).l == kFby) } := by
      simp [PS.add]
    have hlen1 : ({ (p.add ts ndZero).adv ts with depth := p.depth + 1 } : PS).nodes.length = p.nodes.length + 1 := by simp [PS.add]
    obtain ⟨g2, hn⟩ := insideN hx (i := p.nodes.length) (by rw [hlen1]; omega) (by rw [hnd]; rfl) (by rw [hnd]; rfl) e2
    split at he
    · cases he
    · rename_i p3 e3
      obtain ⟨rfl, _⟩ := take_grow e3
      cases he
      obtain ⟨l, hl⟩ := g2.nodes
      have hl2 := g2.len
      rw [hlen1] at hl2
      refine ⟨?_, rfl, by simp; omega⟩
      refine Grow.trans ⟨?_, ?_, ?_⟩ (Grow.adv ts _)
      · show p2.decls = _; rw [g2.decls]; simp [PS.add]
      · refine ⟨n :: l, ?_⟩
        show p2.nodes.set p.nodes.length n = _
        rw [hl]
        simp [PS.add]
      · intro h
        have h2 := g2.inv (by
          show NInv ((p.add ts ndZero).adv ts).nodes
          rw [adv_nodes]
          exact NInv.push h ⟨by show (0:Nat) ≤ 6; omega, by show (0:Nat) < _; omega, by show (0:Nat) < _; omega, by show (0:Nat) < _; omega, fun h => (by cases h), fun h => (by cases h), fun h => (by rcases h with h | h <;> cases h)⟩)
        intro i m hm
        have hm' : (p2.nodes.set p.nodes.length n)[i]? = some m := hm
        show NdOk (p2.nodes.set p.nodes.length n).length i m
        rw [List.length_set]
        rw [List.getElem?_set] at hm'
        split at hm'
        · split at hm'
          · rename_i e _
            cases hm'
            subst e
            exact hn
          · cases hm'
        · exact h2 i m hm'
theorem exprN (ts : List Tk) : ∀ f, ExN (exprF ts f) := by
  have hatom : ∀ (p : PS) (br : Except Nat (Nat × PS)) (r : Nat) (p' : PS), (∀ r p', br = .ok (r, p') → Grow p p' ∧ r = p.nodes.length ∧ r < p'.nodes.length) → atomF ts p br = .ok (r, p') → Grow p p' ∧ r = p.nodes.length ∧ r < p'.nodes.length := by
    intro p br r p' hbr he
    unfold atomF at he
    split at he
    · exact hbr _ _ he
    split at he
    · cases he; exact leafN ts p _ (by simp) rfl rfl rfl
    split at he
    · cases he; exact leafN ts p _ (by simp) rfl rfl rfl
    split at he
    · cases he; exact leafN ts p _ (by simp) rfl rfl rfl
    split at he
    · cases he; exact leafN ts p _ (by simp) rfl rfl rfl
    · cases he
  intro f
  induction f with
  | zero => intro p r p' he; exact hatom p _ r p' (fun _ _ h => by cases h) he
  | succ f ih => intro p r p' he; exact hatom p _ r p' (fun _ _ h => bracketN ih h) he
structure DInv (p : PS) : Prop where
  nodes : NInv p.nodes
  segs : ∀ d ∈ p.decls, (d.root = 0 ∧ d.fin = 0 ∧ d.kind = 0) ∨ (d.root < d.fin ∧ d.fin ≤ p.nodes.length)
  place : ∀ d ∈ p.decls, d.place < 4
  number : ∀ d ∈ p.decls, d.kind ≠ 0 → d.number < (eqsF p.decls).length
  cover : ∀ i, i < p.nodes.length → ∃ d ∈ p.decls, d.root ≤ i ∧ i < d.fin
theorem DInv.start : DInv pZero :=
  ⟨fun i n h => (by simp [pZero] at h), fun d h => (by simp [pZero] at h), fun d h => (by simp [pZero] at h), fun d h => (by simp [pZero] at h), fun i h => (by simp [pZero] at h)⟩
theorem DInv.of {p q : PS} (h : DInv p) (h1 : q.decls = p.decls) (h2 : q.nodes = p.nodes) : DInv q := by
  obtain ⟨a, b, c, d, e⟩ := h
  exact ⟨by rw [h2]; exact a, by rw [h1, h2]; exact b, by rw [h1]; exact c, by rw [h1]; exact d, by rw [h1, h2]; exact e⟩
theorem sameSort_eqs (d : Dc) (l : List Dc) (hk : d.kind ≠ 0) : sameSort d l = (eqsF l).length := by
  unfold sameSort eqsF
  congr 1
  apply List.filter_congr
  intro a _
  have : (d.kind == 0) = false := by simpa using hk
  rw [this]
  cases h : (a.kind == 0) <;> simp [bne, h]
theorem declareInv {p p1 : PS} {d : Dc} (h : DInv p) (g : Grow p p1) (h0 : d.number = 0) (hp : d.place < 4)
    (hk : (d.kind = 0 ∧ d.root = 0 ∧ d.fin = 0 ∧ p1.nodes = p.nodes) ∨ (d.kind ≠ 0 ∧ d.root = p.nodes.length ∧ d.fin = p1.nodes.length ∧ d.root < d.fin)) : DInv (p1.declare d) := by
  have hlen := g.len
  have hds : p1.decls = p.decls := g.decls
  have hmem : ∀ e, e ∈ (p1.declare d).decls → e ∈ p.decls ∨ e = { d with number := d.number + sameSort d p1.decls } := by
    intro e he
    unfold PS.declare at he
    rw [← hds]
    simpa using he
  have heq : (eqsF (p1.declare d).decls).length = (eqsF p.decls).length + (if d.kind = 0 then 0 else 1) := by
    unfold PS.declare eqsF
    simp only [List.filter_append, List.length_append, hds]
    congr 1
    by_cases hz : d.kind = 0
    · simp [hz]
    · simp [hz]
  refine ⟨g.inv h.nodes, ?_, ?_, ?_, ?_⟩
  · intro e he
    show _ ∨ (_ ∧ e.fin ≤ p1.nodes.length)
    rcases hmem e he with he | rfl
    · rcases h.segs e he with h1 | ⟨h1, h2⟩
      · exact .inl h1
      · exact .inr ⟨h1, Nat.le_trans h2 hlen⟩
    · rcases hk with ⟨k1, k2, k3, _⟩ | ⟨k1, k2, k3, k4⟩
      · exact .inl ⟨k2, k3, k1⟩
      · exact .inr ⟨k4, Nat.le_of_eq k3⟩
  · intro e he
    rcases hmem e he with he | rfl
    · exact h.place e he
    · exact hp
  · intro e he hke
    rw [heq]
    rcases hmem e he with he | rfl
    · have := h.number e he hke; omega
    · show d.number + sameSort d p1.decls < _
      have hkd : d.kind ≠ 0 := hke
      rw [sameSort_eqs d _ hkd, hds, h0, if_neg hkd]; omega
  · intro i hi
    have hi' : i < p1.nodes.length := hi
    have hin : ∀ e, e ∈ p.decls → e ∈ (p1.declare d).decls := by intro e he; unfold PS.declare; simp [hds, he]
    rcases hk with ⟨_, _, _, k4⟩ | ⟨k1, k2, k3, k4⟩
    · rw [k4] at hi'
      obtain ⟨e, he, h1, h2⟩ := h.cover i hi'
      exact ⟨e, hin e he, h1, h2⟩
    · by_cases hc : i < p.nodes.length
      · obtain ⟨e, he, h1, h2⟩ := h.cover i hc
        exact ⟨e, hin e he, h1, h2⟩
      · exact ⟨{ d with number := d.number + sameSort d p1.decls }, by unfold PS.declare; simp, by show d.root ≤ i; omega, by show i < d.fin; omega⟩
theorem declarationInv {ts : List Tk} {p p' : PS} (h : DInv p) (he : declarationF ts p = .ok p') : DInv p' := by
  have inp : inputF ts p = .ok p' → DInv p' := by
    intro he
    unfold inputF at he
    split at he
    · obtain ⟨rfl, _⟩ := take_grow he
      refine DInv.of ?_ (adv_decls ts _) (adv_nodes ts _)
      exact declareInv h ((Grow.adv ts p).trans (Grow.adv ts _)) rfl (by show (0:Nat) < 4; decide) (.inl ⟨rfl, rfl, rfl, by simp⟩)
    · cases he
  have eqn : ∀ kind, kind ≠ 0 → equationF ts kind p = .ok p' → DInv p' := by
    intro kind hk he
    unfold equationF at he
    split at he
    · split at he
      · cases he
      rename_i p1 e1
      obtain ⟨rfl, _⟩ := take_grow e1
      split at he
      · cases he
      rename_i pl p2 e2
      unfold placeF at e2
      split at e2
      · rename_i hpl
        cases e2
        split at he
        · cases he
        rename_i p3 e3
        obtain ⟨rfl, _⟩ := take_grow e3
        split at he
        · cases he
        rename_i r p4 e4
        obtain ⟨g, hr, hlt⟩ := exprN ts 16 _ _ _ e4
        obtain ⟨rfl, _⟩ := take_grow he
        have g0 : Grow p p4 := Grow.trans (Grow.of (by simp) (by simp)) g
        have hr' : r = p.nodes.length := by rw [hr]; simp
        refine DInv.of ?_ (adv_decls ts _) (adv_nodes ts _)
        exact declareInv h g0 rfl hpl.2 (.inr ⟨hk, hr', rfl, hlt⟩)
      · cases e2
    · cases he
  unfold declarationF at he
  split at he
  · exact inp he
  split at he
  · exact eqn 1 (by decide) he
  split at he
  · exact eqn 2 (by decide) he
  · cases he
theorem declsInv {ts : List Tk} : ∀ f p p', DInv p → declsF ts f p = .ok p' → DInv p' := by
  intro f
  induction f with
  | zero => intro p p' h he; cases he; exact h
  | succ f ih =>
    intro p p' h he
    unfold declsF at he
    split at he
    · cases he; exact h
    · split at he
      · cases he
      · rename_i q e1
        exact ih _ _ (declarationInv h e1) he
theorem declsWf {ts : List Tk} (ht : TsOk ts) : ∀ f p p', p.Wf ts → p.depth = 0 → declsF ts f p = .ok p' → p'.Wf ts := by
  intro f
  induction f with
  | zero => intro p p' h _ he; cases he; exact h
  | succ f ih =>
    intro p p' h h0 he
    unfold declsF at he
    split at he
    · cases he; exact h
    · split at he
      · cases he
      · rename_i q e1
        have s := declaration_step ht h h0 e1
        exact ih _ _ s.wf (s.depth.trans h0) he
theorem bindF_keep (l : List Dc) (n : Nd) : (bindF l n).kind = n.kind ∧ (bindF l n).a = n.a ∧ (bindF l n).b = n.b ∧ (bindF l n).c = n.c := by
  unfold bindF; split <;> exact ⟨rfl, rfl, rfl, rfl⟩
theorem findF_range (l : List Dc) (name : ByteArray) : -1 ≤ findF l name ∧ findF l name < (l.length : Int) := by
  unfold findF
  split
  · rename_i i h
    have := List.findIdx?_eq_some_iff_getElem.1 h
    obtain ⟨h1, _⟩ := this
    omega
  · omega
theorem badName_none {all : List Dc} {ns : List Nd} : ∀ l i, badNameF all ns i l = none → ∀ d ∈ l, badNodeF (seg ns d.root d.fin) = none := by
  intro l
  induction l with
  | nil => intro i _ d hd; simp at hd
  | cons e l ih =>
    intro i h d hd
    unfold badNameF at h
    split at h
    · cases h
    · split at h
      · cases h
      · rename_i hb
        rcases List.mem_cons.1 hd with rfl | hd
        · exact hb
        · exact ih _ h d hd
theorem badNode_none : ∀ l : List Nd, badNodeF l = none → ∀ n ∈ l, n.kind = 2 → 0 ≤ n.decl := by
  intro l
  induction l with
  | nil => intro _ n hn; simp at hn
  | cons m l ih =>
    intro h n hn hk
    unfold badNodeF at h
    split at h
    · cases h
    · rename_i hm
      rcases List.mem_cons.1 hn with rfl | hn
      · exact Int.not_lt.1 (fun hlt => hm ⟨hk, hlt⟩)
      · exact ih h n hn hk
theorem links_src {ds : List Dc} {ns : List Nd} (P : Nat → Prop) : ∀ l i, (∀ d ∈ l, d.kind ≠ 0 → P d.number) → ∀ r ∈ linksFrom ds ns i l, P r.src ∧ r.dst < 4 := by
  have hto : ∀ i d q, ∀ r ∈ linksTo ds ns i d q, r.src = d.number ∧ r.dst < q := by
    intro i d q
    induction q with
    | zero => intro r hr; simp [linksTo] at hr
    | succ q ih =>
      intro r hr
      simp only [linksTo, List.mem_append] at hr
      rcases hr with hr | hr
      · have := ih r hr; exact ⟨this.1, by omega⟩
      · unfold linkAt at hr
        split at hr
        · simp at hr; subst hr; exact ⟨rfl, Nat.lt_succ_self _⟩
        · simp at hr
  intro l
  induction l with
  | nil => intro i _ r hr; simp [linksFrom] at hr
  | cons d l ih =>
    intro i h r hr
    simp only [linksFrom, List.mem_append] at hr
    rcases hr with hr | hr
    · split at hr
      · simp at hr
      · rename_i hk
        obtain ⟨h1, h2⟩ := hto i d 4 r hr
        exact ⟨by rw [h1]; exact h d (List.mem_cons_self ..) hk, h2⟩
    · exact ih (i + 1) (fun e he => h e (List.mem_cons_of_mem _ he)) r hr
theorem links_len {ds : List Dc} {ns : List Nd} : ∀ l i, (linksFrom ds ns i l).length ≤ 4 * l.length := by
  intro l
  induction l with
  | nil => intro i; simp [linksFrom]
  | cons d l ih =>
    intro i
    simp only [linksFrom, List.length_append, List.length_cons]
    have := ih (i + 1)
    have := linksTo_len ds ns i d 4
    split
    · simp; omega
    · omega
theorem good_parse (s : ByteArray) (hs : s.size ≤ 1500) (p : PS) (h : parseF s = .ok p) : Good p.decls (boundN p) := by
  have ht := toks_ok s hs
  have hi := declsInv _ _ _ DInv.start h
  have hw := declsWf ht _ _ _ (pZero_wf ht) rfl h
  have hl := ht.1
  have hn := hw.next
  have hnn := hw.nodes
  have hnd := hw.decls
  have hbl : (boundN p).length = p.nodes.length := by simp [boundN]
  have hget : ∀ i (hi' : i < (boundN p).length), ∃ m, p.nodes[i]? = some m ∧ (boundN p)[i]'hi' = bindF p.decls m := by
    intro i hi'
    have : i < p.nodes.length := by rw [← hbl]; exact hi'
    exact ⟨p.nodes[i]'this, by simp [this], by simp [boundN]⟩
  have hmem : ∀ n ∈ boundN p, ∃ (i : Nat) (m : Nd), p.nodes[i]? = some m ∧ n = bindF p.decls m := by
    intro n hn
    obtain ⟨i, hi', rfl⟩ := List.getElem_of_mem hn
    obtain ⟨m, h1, h2⟩ := hget i hi'
    exact ⟨i, m, h1, h2⟩
  refine ⟨⟨by omega, by omega, ?_, ?_, ?_, ?_, hi.place, ?_⟩, ?_, ?_, ?_⟩
  · rw [hbl]; exact hi.segs
  · intro n hn
    obtain ⟨i, m, h1, rfl⟩ := hmem n hn
    obtain ⟨_, e2, e3, e4⟩ := bindF_keep p.decls m
    have := hi.nodes i m h1
    rw [hbl, e2, e3, e4]
    exact ⟨this.a, this.b, this.c⟩
  · intro n hn hk
    obtain ⟨i, m, h1, rfl⟩ := hmem n hn
    have hk' : m.kind = 2 := by rw [← (bindF_keep p.decls m).1]; exact hk
    unfold bindF
    rw [if_pos hk']
    exact findF_range _ _
  · intro n hn
    obtain ⟨i, m, h1, rfl⟩ := hmem n hn
    rw [(bindF_keep p.decls m).1]
    exact (hi.nodes i m h1).kind
  · intro i hi'
    obtain ⟨m, h1, h2⟩ := hget i hi'
    obtain ⟨e1, e2, e3, e4⟩ := bindF_keep p.decls m
    rw [h2, e1, e2, e3, e4]
    have := hi.nodes i m h1
    exact ⟨this.k3, this.k4, this.k5⟩
  · intro hb n hn hk
    obtain ⟨i, hi', rfl⟩ := List.getElem_of_mem hn
    obtain ⟨d, hd, h1, h2⟩ := hi.cover i (by rw [← hbl]; exact hi')
    refine badNode_none _ (badName_none _ _ hb d hd) _ ?_ hk
    unfold seg
    refine List.mem_iff_getElem.2 ⟨i - d.root, ?_, ?_⟩
    · simp; omega
    · simp [Nat.add_sub_cancel' h1]
  · intro r hr
    exact links_src (fun k => k < (eqsF p.decls).length) _ _ (fun d hd hk => hi.number d hd hk) r hr
  · have := links_len (ds := p.decls) (ns := boundN p) p.decls 0
    show (linksFrom p.decls (boundN p) 0 p.decls).length ≤ 6100
    omega
structure RTk where
  c : Nat
  word : ByteArray
  pos : Nat
  n : Nat
def rtok (t : Tk) : RTk :=
  ⟨if t.kind = 0 then 101 else if t.kind = 1 then 97 else if t.kind = 2 then 107 else if t.kind = 3 then 110 else if t.kind = 4 then 115 else 120,
   if t.kind = 1 ∨ t.kind = 2 ∨ t.kind = 4 then t.text else ⟨#[]⟩, t.pos, if t.kind = 3 then valOf t.text.data.toList else 0⟩
def RTk.l (t : RTk) : List UInt8 := t.word.data.toList
def rlit (t : RTk) : Bool := t.c == 110 || t.l == kTrue || t.l == kFalse
def rop (l : List UInt8) : Bool := (opOf l).isSome
def insF (t : RTk) : List UInt8 × Bool × Bool :=
  if t.l = kNot then ([69], true, true)
  else if t.l = kIf then ([69, 69, 69], true, true)
  else if rlit t = true then ([76], true, true)
  else if t.c = 97 then ([79], true, true)
  else ([69, 79], false, t.l == [40])
def ruleF (x : Nat) (t : RTk) (depth : Int) : List UInt8 × Bool × Bool :=
  if x = 80 then (if t.l = kIn then ([97, 59, 80], true, true) else ([97, 84, 81, 61, 69, 59, 80], true, t.l == kInt || t.l == kBool))
  else if x = 97 then ([], true, t.c == 97)
  else if x = 84 then ([], true, t.l == kAt)
  else if x = 81 then ([], true, t.c == 110 && decide (t.n < 4))
  else if x = 69 then (if t.l = [40] then ([73, 41], true, decide (depth < 16)) else ([], true, rlit t || t.c == 97))
  else if x = 73 then insF t
  else if x = 76 then ([69], true, rop t.l || t.l == kFby)
  else if x = 79 then ([69], true, rop t.l)
  else ([], true, t.c == 115 && ((t.l.getD 0 0).toNat == x))
def All2 {α β : Type} (R : α → β → Prop) : List α → List β → Prop
  | [], [] => True
  | a :: l, b :: m => R a b ∧ All2 R l m
  | _, _ => False
theorem All2.len {α β : Type} {R : α → β → Prop} : ∀ {l : List α} {m : List β}, All2 R l m → m.length = l.length := by
  intro l
  induction l with
  | nil => intro m h; cases m with
    | nil => rfl
    | cons b m => exact h.elim
  | cons a l ih => intro m h; cases m with
    | nil => exact h.elim
    | cons b m => simp [ih h.2]
theorem All2.filter {α β : Type} {R : α → β → Prop} {f : α → Bool} {g : β → Bool} (hfg : ∀ a b, R a b → g b = f a) : ∀ {l : List α} {m : List β}, All2 R l m → All2 R (l.filter f) (m.filter g) := by
  intro l
  induction l with
  | nil => intro m h; cases m with
    | nil => exact h
    | cons b m => exact h.elim
  | cons c l ih => intro m h; cases m with
    | nil => exact h.elim
    | cons d m =>
      rw [List.filter_cons, List.filter_cons, hfg c d h.1]
      split
      · exact ⟨h.1, ih h.2⟩
      · exact ih h.2
end Go.Proofs.Ytmndgoapkmhglab
namespace Go.Proofs.Ytmndgoapkmhglab
open Go.RowKit
theorem Try.infoU8 : (Try.prog.info? 5).map (fun i => (i.zero, i.size, i.bytes)) = some (some (.int .u8 0), 1, 1) := by kernel_rfl
end Go.Proofs.Ytmndgoapkmhglab
