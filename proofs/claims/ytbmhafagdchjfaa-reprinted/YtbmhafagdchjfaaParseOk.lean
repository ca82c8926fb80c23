import Derived.Test.YtbmhafagdchjfaaParse
/- Plain mathematics: what the parser's steps keep. -/
namespace Go.Proofs.Ytbmhafagdchjfaa

/-- from one state to a later one: tokens have been used up, nodes have come. -/
structure Step (ts : List Tk) (p p' : PS) : Prop where
  lt : p.next < p'.next
  next : p'.next < ts.length
  depth : p'.depth = p.depth
  delays : p'.delays = p.delays
  decls : p'.decls = p.decls
  nodes : ∃ l, p'.nodes = p.nodes ++ l
  len : p'.nodes.length ≤ p'.next

theorem Step.wf {ts : List Tk} {p p' : PS} (h : Step ts p p') (hw : p.Wf ts) : p'.Wf ts :=
  ⟨h.next, h.len, by rw [h.decls]; exact Nat.le_trans hw.decls (Nat.le_of_lt h.lt), by rw [h.delays, h.depth]; exact hw.delays, by rw [h.depth]; exact hw.depth⟩

theorem Step.trans {ts : List Tk} {p p1 p2 : PS} (h : Step ts p p1) (k : Step ts p1 p2) : Step ts p p2 := by
  obtain ⟨l, hl⟩ := h.nodes
  obtain ⟨m, hm⟩ := k.nodes
  exact ⟨Nat.lt_trans h.lt k.lt, k.next, k.depth.trans h.depth, k.delays.trans h.delays, k.decls.trans h.decls, ⟨l ++ m, by rw [hm, hl, List.append_assoc]⟩, k.len⟩

def ExOk (ts : List Tk) (d : Nat) (ex : Ex) : Prop :=
  ∀ p, p.Wf ts → p.depth = d → (∀ r p', ex p = .ok (r, p') → Step ts p p' ∧ r = p.nodes.length ∧ r < p'.nodes.length) ∧ (∀ k, ex p = .error k → k < ts.length)

theorem adv_wf {ts : List Tk} {p : PS} (h : p.Wf ts) : (p.adv ts).Wf ts :=
  ⟨adv_lt h.next, by rw [adv_nodes]; exact Nat.le_trans h.nodes (adv_ge ts p), by rw [adv_decls]; exact Nat.le_trans h.decls (adv_ge ts p), by simp [h.delays], by simp [h.depth]⟩

/-- a step over a token that is not the end. -/
theorem adv_step {ts : List Tk} (ht : TsOk ts) {p : PS} (h : p.Wf ts) (hk : (p.hd ts).kind ≠ 0 ∨ (p.hd ts).l ≠ []) : Step ts p (p.adv ts) := by
  rw [adv_next ht h.next hk]
  have := ht.last h.next hk
  exact ⟨Nat.lt_succ_self _, this, rfl, rfl, rfl, ⟨[], by simp⟩, Nat.le_succ_of_le h.nodes⟩

theorem take_ok {ts : List Tk} (ht : TsOk ts) {p p' : PS} {l : List UInt8} (h : p.Wf ts) (hl : l ≠ []) (he : p.take ts l = .ok p') : p' = p.adv ts ∧ Step ts p p' := by
  unfold PS.take at he
  split at he
  · rename_i hh
    cases he
    exact ⟨rfl, adv_step ht h (.inr (by rw [hh]; exact hl))⟩
  · cases he
theorem take_err {ts : List Tk} {p : PS} {l : List UInt8} {k : Nat} (h : p.next < ts.length) (he : p.take ts l = .error k) : k = p.next ∧ k < ts.length := by
  unfold PS.take at he
  split at he
  · cases he
  · cases he; exact ⟨rfl, h⟩

theorem leaf_step {ts : List Tk} (ht : TsOk ts) {p : PS} {n : Nd} (h : p.Wf ts) (hk : (p.hd ts).kind ≠ 0 ∨ (p.hd ts).l ≠ []) :
    Step ts p (leafF ts p n).2 ∧ (leafF ts p n).1 = p.nodes.length ∧ (leafF ts p n).1 < (leafF ts p n).2.nodes.length := by
  have hl := ht.last h.next hk
  have e : (p.add ts n).adv ts = { p.add ts n with next := p.next + 1 } := adv_next ht (p := p.add ts n) h.next hk
  unfold leafF
  rw [e]
  refine ⟨⟨Nat.lt_succ_self _, hl, rfl, rfl, rfl, ⟨_, rfl⟩, ?_⟩, rfl, ?_⟩
  · simp [PS.add]; exact h.nodes
  · simp [PS.add]

theorem inside_ok {ts : List Tk} (ht : TsOk ts) {d : Nat} {ex : Ex} (hx : ExOk ts d ex) {p : PS} (h : p.Wf ts) (hd : p.depth = d) (hdl : p.delays + 1 ≤ d) (n : Nd) :
    (∀ n' p', insideF ts ex p n = .ok (n', p') → Step ts p p') ∧ (∀ k, insideF ts ex p n = .error k → k < ts.length) := by
  unfold insideF
  split
  · rename_i hl
    have hs := adv_step ht h (.inr (by rw [hl]; decide))
    have hx1 := hx (p.adv ts) (hs.wf h) (by rw [hs.depth, hd])
    unfold notF
    constructor
    · intro n' p' he
      split at he
      · cases he
      · rename_i a p1 h1; cases he
        exact hs.trans (hx1.1 _ _ h1).1
    · intro k he
      split at he
      · rename_i e h1; cases he; exact hx1.2 _ h1
      · cases he
  split
  · rename_i hl0 hl
    have hs := adv_step ht h (.inr (by rw [hl]; decide))
    have hx1 := hx (p.adv ts) (hs.wf h) (by rw [hs.depth, hd])
    unfold choiceF
    constructor
    · intro n' p' he
      split at he
      · cases he
      · rename_i a p1 h1
        have s1 := hs.trans (hx1.1 _ _ h1).1
        have hx2 := hx p1 (s1.wf h) (by rw [s1.depth, hd])
        split at he
        · cases he
        · rename_i b p2 h2
          have s2 := s1.trans (hx2.1 _ _ h2).1
          have hx3 := hx p2 (s2.wf h) (by rw [s2.depth, hd])
          split at he
          · cases he
          · rename_i c p3 h3; cases he
            exact s2.trans (hx3.1 _ _ h3).1
    · intro k he
      split at he
      · rename_i e h1; cases he; exact hx1.2 _ h1
      · rename_i a p1 h1
        have s1 := hs.trans (hx1.1 _ _ h1).1
        have hx2 := hx p1 (s1.wf h) (by rw [s1.depth, hd])
        split at he
        · rename_i e h2; cases he; exact hx2.2 _ h2
        · rename_i b p2 h2
          have s2 := s1.trans (hx2.1 _ _ h2).1
          have hx3 := hx p2 (s2.wf h) (by rw [s2.depth, hd])
          split at he
          · rename_i e h3; cases he; exact hx3.2 _ h3
          · cases he
  · have hx1 := hx p h hd
    unfold infixF
    constructor
    · intro n' p' he
      split at he
      · cases he
      · rename_i a p1 h1
        have s1 := (hx1.1 _ _ h1).1
        have hw1 := s1.wf h
        split at he
        · rename_i hl
          have hs := adv_step ht hw1 (.inr (by rw [hl.2]; decide))
          have hw2 := hs.wf hw1
          unfold delayF at he
          have hw3 : ({ p1.adv ts with delays := (p1.adv ts).delays + 1 } : PS).Wf ts := ⟨hw2.next, hw2.nodes, hw2.decls, by simp; rw [s1.delays, s1.depth, hd]; exact hdl, hw2.depth⟩
          have hx3 := hx _ hw3 (by simp; rw [s1.depth, hd])
          split at he
          · cases he
          · rename_i b p2 h2; cases he
            have s3 := (hx3.1 _ _ h2).1
            refine (s1.trans hs).trans ⟨s3.lt, s3.next, s3.depth, ?_, s3.decls, s3.nodes, s3.len⟩
            show p2.delays - 1 = _
            rw [s3.delays]; simp
        · unfold infixRest at he
          split at he
          · cases he
          · rename_i op ho
            have hs := adv_step ht hw1 (.inr (by intro e; rw [e] at ho; simp [opOf] at ho))
            have hx2 := hx _ (hs.wf hw1) (by rw [hs.depth, s1.depth, hd])
            split at he
            · cases he
            · rename_i b p2 h2; cases he
              exact (s1.trans hs).trans (hx2.1 _ _ h2).1
    · intro k he
      split at he
      · rename_i e h1; cases he; exact hx1.2 _ h1
      · rename_i a p1 h1
        have s1 := (hx1.1 _ _ h1).1
        have hw1 := s1.wf h
        split at he
        · rename_i hl
          have hs := adv_step ht hw1 (.inr (by rw [hl.2]; decide))
          have hw2 := hs.wf hw1
          unfold delayF at he
          have hw3 : ({ p1.adv ts with delays := (p1.adv ts).delays + 1 } : PS).Wf ts := ⟨hw2.next, hw2.nodes, hw2.decls, by simp; rw [s1.delays, s1.depth, hd]; exact hdl, hw2.depth⟩
          have hx3 := hx _ hw3 (by simp; rw [s1.depth, hd])
          split at he
          · rename_i e h2; cases he; exact hx3.2 _ h2
          · cases he
        · unfold infixRest at he
          split at he
          · cases he; exact hw1.next
          · rename_i op ho
            have hs := adv_step ht hw1 (.inr (by intro e; rw [e] at ho; simp [opOf] at ho))
            have hx2 := hx _ (hs.wf hw1) (by rw [hs.depth, s1.depth, hd])
            split at he
            · rename_i e h2; cases he; exact hx2.2 _ h2
            · cases he

/-- the state inside a bracket. -/
def inBr (ts : List Tk) (p : PS) : PS := { (p.add ts ndZero).adv ts with depth := p.depth + 1 }

theorem inBr_wf {ts : List Tk} (ht : TsOk ts) {p : PS} (h : p.Wf ts) (hd : p.depth < 16) (hk : (p.hd ts).kind ≠ 0 ∨ (p.hd ts).l ≠ []) : (inBr ts p).Wf ts ∧ (inBr ts p).next = p.next + 1 := by
  have hl := ht.last h.next hk
  have e : (p.add ts ndZero).adv ts = { p.add ts ndZero with next := p.next + 1 } := adv_next ht (p := p.add ts ndZero) h.next hk
  unfold inBr
  rw [e]
  have := h.nodes
  have := h.decls
  have := h.delays
  exact ⟨⟨hl, by simp [PS.add]; omega, by simp [PS.add]; omega, by simp [PS.add]; omega, by simp; omega⟩, rfl⟩

theorem bracket_ok {ts : List Tk} (ht : TsOk ts) {d : Nat} {ex : Ex} (hx : ExOk ts (d + 1) ex) {p : PS} (h : p.Wf ts) (hd : p.depth = d) (hd16 : d < 16) (hk : (p.hd ts).l = [40]) :
    (∀ r p', bracketF ts ex p = .ok (r, p') → Step ts p p' ∧ r = p.nodes.length ∧ r < p'.nodes.length) ∧ (∀ k, bracketF ts ex p = .error k → k < ts.length) := by
  obtain ⟨hw, hn⟩ := inBr_wf ht h (by omega) (.inr (by rw [hk]; decide))
  have hin := inside_ok ht hx hw (by simp [inBr, hd]) (by have := h.delays; simp [inBr, PS.add]; omega) ((p.add ts ndZero).nodes.getD p.nodes.length ndZero)
  unfold bracketF
  constructor
  · intro r p' he
    split at he
    · cases he
    · rename_i n p2 h2
      have s2 := hin.1 _ _ h2
      obtain ⟨l, hl⟩ := s2.nodes
      have hln : (inBr ts p).nodes.length = p.nodes.length + 1 := by simp [inBr, PS.add]
      have hlen2 : p.nodes.length < p2.nodes.length := by rw [hl, List.length_append, hln]; omega
      split at he
      · cases he
      · rename_i p3 h3
        have hw2 := s2.wf hw
        have hw2' : ({ p2 with depth := p2.depth - 1, nodes := p2.nodes.set p.nodes.length n } : PS).Wf ts := by
          refine ⟨hw2.next, by simp; exact hw2.nodes, hw2.decls, ?_, ?_⟩
          · show p2.delays ≤ p2.depth - 1
            rw [s2.delays, s2.depth]
            have := h.delays
            simp [inBr, PS.add]; omega
          · show p2.depth - 1 ≤ 16
            rw [s2.depth]; simp [inBr]; exact h.depth
        obtain ⟨rfl, s3⟩ := take_ok ht hw2' (by decide) h3
        cases he
        refine ⟨⟨?_, s3.next, ?_, ?_, ?_, ?_, s3.len⟩, rfl, ?_⟩
        · have := s2.lt; have := s3.lt; simp at this; omega
        · rw [s3.depth]; show p2.depth - 1 = _; rw [s2.depth]; simp [inBr]
        · rw [s3.delays]; show p2.delays = _; rw [s2.delays]; simp [inBr, PS.add]
        · rw [s3.decls]; show p2.decls = _; rw [s2.decls]; simp [inBr, PS.add]
        · refine ⟨n :: l, ?_⟩
          rw [adv_nodes]
          show p2.nodes.set p.nodes.length n = _
          rw [hl]
          have : (inBr ts p).nodes = p.nodes ++ [(p.add ts ndZero).nodes.getD p.nodes.length ndZero] := by simp [inBr, PS.add]
          rw [this, List.append_assoc, List.set_append_right _ _ (Nat.le_refl _), Nat.sub_self]
          rfl
        · rw [adv_nodes]; simpa using hlen2
  · intro k he
    split at he
    · rename_i e h2; cases he; exact hin.2 _ h2
    · rename_i n p2 h2
      split at he
      · rename_i e h3; cases he
        exact (take_err (p := { p2 with depth := p2.depth - 1, nodes := p2.nodes.set p.nodes.length n }) (hin.1 _ _ h2).next h3).2
      · cases he

theorem expr_ok {ts : List Tk} (ht : TsOk ts) : ∀ f d, d + f = 16 → ExOk ts d (exprF ts f) := by
  intro f
  induction f with
  | zero =>
    intro d hd p hw hpd
    simp only [exprF, atomF]
    split
    · exact ⟨fun r p' he => (by cases he), fun k he => (by cases he; exact hw.next)⟩
    split
    · rename_i hl; exact ⟨fun r p' he => by cases he; exact leaf_step ht hw (.inr (by rw [hl]; decide)), fun k he => by cases he⟩
    split
    · rename_i hl; exact ⟨fun r p' he => by cases he; exact leaf_step ht hw (.inr (by rw [hl]; decide)), fun k he => by cases he⟩
    split
    · rename_i hl; exact ⟨fun r p' he => by cases he; exact leaf_step ht hw (.inl (by rw [hl]; decide)), fun k he => by cases he⟩
    split
    · rename_i hl; exact ⟨fun r p' he => by cases he; exact leaf_step ht hw (.inl (by rw [hl]; decide)), fun k he => by cases he⟩
    · exact ⟨fun r p' he => (by cases he), fun k he => (by cases he; exact hw.next)⟩
  | succ f ih =>
    intro d hd p hw hpd
    simp only [exprF, atomF]
    split
    · rename_i hl; exact bracket_ok ht (ih (d + 1) (by omega)) hw hpd (by omega) hl
    split
    · rename_i hl; exact ⟨fun r p' he => by cases he; exact leaf_step ht hw (.inr (by rw [hl]; decide)), fun k he => by cases he⟩
    split
    · rename_i hl; exact ⟨fun r p' he => by cases he; exact leaf_step ht hw (.inr (by rw [hl]; decide)), fun k he => by cases he⟩
    split
    · rename_i hl; exact ⟨fun r p' he => by cases he; exact leaf_step ht hw (.inl (by rw [hl]; decide)), fun k he => by cases he⟩
    split
    · rename_i hl; exact ⟨fun r p' he => by cases he; exact leaf_step ht hw (.inl (by rw [hl]; decide)), fun k he => by cases he⟩
    · exact ⟨fun r p' he => (by cases he), fun k he => (by cases he; exact hw.next)⟩

end Go.Proofs.Ytbmhafagdchjfaa
