import Derived.Deep.OwnRows
import Derived.Test.Ytmndgoapkmhglabo00Base
namespace Go.Proofs.Ytmndgoapkmhglab
structure Nd where
  kind : Nat
  pos : Nat
  value : Nat
  name : ByteArray
  decl : Int
  op : Nat
  a : Nat
  b : Nat
  c : Nat
  delayed : Bool
  behind : Bool
structure Dc where
  kind : Nat
  number : Nat
  name : ByteArray
  pos : Nat
  place : Nat
  root : Nat
  fin : Nat
structure PS where
  next : Nat
  depth : Nat
  delays : Nat
  decls : List Dc
  nodes : List Nd
def ndZero : Nd := ⟨0, 0, 0, ⟨#[]⟩, 0, 0, 0, 0, 0, false, false⟩
def tkEnd : Tk := ⟨0, 0, ⟨#[]⟩⟩
def tkAt (ts : List Tk) (i : Nat) : Tk := ts.getD i tkEnd
def Tk.l (t : Tk) : List UInt8 := t.text.data.toList
def PS.hd (ts : List Tk) (p : PS) : Tk := tkAt ts p.next
def PS.adv (ts : List Tk) (p : PS) : PS := if p.next + 1 < ts.length then { p with next := p.next + 1 } else p
def PS.take (ts : List Tk) (p : PS) (l : List UInt8) : Except Nat PS := if (p.hd ts).l = l then .ok (p.adv ts) else .error p.next
def PS.add (ts : List Tk) (p : PS) (n : Nd) : PS :=
  { p with nodes := p.nodes ++ [{ n with pos := (p.hd ts).pos, delayed := decide (0 < p.delays), behind := decide (0 < p.next) && ((tkAt ts (p.next - 1)).l == kFby) }] }
def leafF (ts : List Tk) (p : PS) (n : Nd) : Nat × PS := (p.nodes.length, (p.add ts n).adv ts)
def opOf (l : List UInt8) : Option Nat :=
  if l = [43] then some 5 else if l = [45] then some 6 else if l = [42] then some 7 else if l = [47] then some 8
  else if l = [60] then some 9 else if l = [61] then some 10 else if l = [38] then some 11 else if l = [124] then some 12 else none
abbrev Ex := PS → Except Nat (Nat × PS)
def notF (ts : List Tk) (ex : Ex) (p : PS) (n : Nd) : Except Nat (Nd × PS) :=
  match ex (p.adv ts) with
  | .error e => .error e
  | .ok (a, p1) => .ok ({ n with kind := 3, a := a }, p1)
def choiceF (ts : List Tk) (ex : Ex) (p : PS) (n : Nd) : Except Nat (Nd × PS) :=
  match ex (p.adv ts) with
  | .error e => .error e
  | .ok (a, p1) =>
    match ex p1 with
    | .error e => .error e
    | .ok (b, p2) =>
      match ex p2 with
      | .error e => .error e
      | .ok (c, p3) => .ok ({ n with kind := 4, a := a, b := b, c := c }, p3)
def delayF (ex : Ex) (p : PS) (n : Nd) : Except Nat (Nd × PS) :=
  match ex { p with delays := p.delays + 1 } with
  | .error e => .error e
  | .ok (b, p1) => .ok ({ n with kind := 5, b := b }, { p1 with delays := p1.delays - 1 })
def isLit (n : Nd) : Bool := n.kind == 0 || n.kind == 1
def infixRest (ts : List Tk) (ex : Ex) (p1 : PS) (n : Nd) : Except Nat (Nd × PS) :=
  match opOf (p1.hd ts).l with
  | none => .error p1.next
  | some op =>
    match ex (p1.adv ts) with
    | .error e => .error e
    | .ok (b, p2) => .ok ({ n with kind := 6, op := op, b := b }, p2)
def infixF (ts : List Tk) (ex : Ex) (p : PS) (n : Nd) : Except Nat (Nd × PS) :=
  match ex p with
  | .error e => .error e
  | .ok (a, p1) =>
    if isLit (p1.nodes.getD a ndZero) = true ∧ (p1.hd ts).l = kFby then delayF ex (p1.adv ts) { n with a := a }
    else infixRest ts ex p1 { n with a := a }
def insideF (ts : List Tk) (ex : Ex) (p : PS) (n : Nd) : Except Nat (Nd × PS) :=
  if (p.hd ts).l = kNot then notF ts ex p n else if (p.hd ts).l = kIf then choiceF ts ex p n else infixF ts ex p n
def bracketF (ts : List Tk) (ex : Ex) (p : PS) : Except Nat (Nat × PS) :=
  match insideF ts ex { (p.add ts ndZero).adv ts with depth := p.depth + 1 } ((p.add ts ndZero).nodes.getD p.nodes.length ndZero) with
  | .error e => .error e
  | .ok (n, p2) =>
    match PS.take ts { p2 with depth := p2.depth - 1, nodes := p2.nodes.set p.nodes.length n } [41] with
    | .error e => .error e
    | .ok p3 => .ok (p.nodes.length, p3)
def atomF (ts : List Tk) (p : PS) (br : Except Nat (Nat × PS)) : Except Nat (Nat × PS) :=
  if (p.hd ts).l = [40] then br
  else if (p.hd ts).l = kTrue then .ok (leafF ts p { ndZero with kind := 1, value := 1 })
  else if (p.hd ts).l = kFalse then .ok (leafF ts p { ndZero with kind := 1 })
  else if (p.hd ts).kind = 3 then .ok (leafF ts p { ndZero with kind := 0, value := valOf (p.hd ts).l })
  else if (p.hd ts).kind = 1 then .ok (leafF ts p { ndZero with kind := 2, name := (p.hd ts).text })
  else .error p.next
def exprF (ts : List Tk) : Nat → PS → Except Nat (Nat × PS)
  | 0, p => atomF ts p (.error p.next)
  | f + 1, p => atomF ts p (bracketF ts (exprF ts f) p)
def placeF (ts : List Tk) (p : PS) : Except Nat (Nat × PS) :=
  if (p.hd ts).kind = 3 ∧ valOf (p.hd ts).l < 4 then .ok (valOf (p.hd ts).l, p.adv ts) else .error p.next
def sameSort (d : Dc) (l : List Dc) : Nat := (l.filter fun a => (a.kind == 0) == (d.kind == 0)).length
def PS.declare (p : PS) (d : Dc) : PS := { p with decls := p.decls ++ [{ d with number := d.number + sameSort d p.decls }] }
def inputF (ts : List Tk) (p : PS) : Except Nat PS :=
  if ((p.adv ts).hd ts).kind = 1 then
    PS.take ts (((p.adv ts).adv ts).declare ⟨0, 0, ((p.adv ts).hd ts).text, ((p.adv ts).hd ts).pos, 0, 0, 0⟩) [59]
  else .error (p.adv ts).next
def equationF (ts : List Tk) (kind : Nat) (p : PS) : Except Nat PS :=
  if ((p.adv ts).hd ts).kind = 1 then
    match PS.take ts ((p.adv ts).adv ts) kAt with
    | .error e => .error e
    | .ok p1 =>
      match placeF ts p1 with
      | .error e => .error e
      | .ok (pl, p2) =>
        match PS.take ts p2 [61] with
        | .error e => .error e
        | .ok p3 =>
          match exprF ts 16 p3 with
          | .error e => .error e
          | .ok (r, p4) => PS.take ts (p4.declare ⟨kind, 0, ((p.adv ts).hd ts).text, ((p.adv ts).hd ts).pos, pl, r, p4.nodes.length⟩) [59]
  else .error (p.adv ts).next
def declarationF (ts : List Tk) (p : PS) : Except Nat PS :=
  if (p.hd ts).l = kIn then inputF ts p else if (p.hd ts).l = kInt then equationF ts 1 p else if (p.hd ts).l = kBool then equationF ts 2 p else .error p.next
def declsF (ts : List Tk) : Nat → PS → Except Nat PS
  | 0, p => .ok p
  | f + 1, p =>
    if (p.hd ts).kind = 0 then .ok p
    else match declarationF ts p with
      | .error e => .error e
      | .ok p' => declsF ts f p'
def findF (l : List Dc) (name : ByteArray) : Int :=
  match l.findIdx? (fun d => d.name.data.toList == name.data.toList) with
  | some i => i
  | none => -1
def bindF (l : List Dc) (n : Nd) : Nd := if n.kind = 2 then { n with decl := findF l n.name } else n
def TsOk (ts : List Tk) : Prop := ts.length ≤ 1501 ∧ ∃ l k, ts = l ++ [⟨0, k, ⟨#[]⟩⟩]
theorem toks_ok (s : ByteArray) (h : s.size ≤ 1500) : TsOk (toks s) := by
  refine ⟨?_, toksFrom s s.size 0, s.size, rfl⟩
  have := toksFrom_length s s.size 0
  simp [toks]; omega
theorem TsOk.pos {ts : List Tk} (h : TsOk ts) : 0 < ts.length := by
  obtain ⟨_, l, k, rfl⟩ := h; simp
theorem TsOk.last {ts : List Tk} (h : TsOk ts) {i : Nat} (hi : i < ts.length) (hk : (tkAt ts i).kind ≠ 0 ∨ (tkAt ts i).l ≠ []) : i + 1 < ts.length := by
  obtain ⟨_, l, k, rfl⟩ := h
  by_cases e : i = l.length
  · subst e
    exfalso
    have : tkAt (l ++ [⟨0, k, ⟨#[]⟩⟩]) l.length = ⟨0, k, ⟨#[]⟩⟩ := by simp [tkAt]
    rw [this] at hk
    rcases hk with hk | hk
    · exact hk rfl
    · exact hk rfl
  · simp at hi ⊢; omega
theorem adv_next {ts : List Tk} (h : TsOk ts) {p : PS} (hi : p.next < ts.length) (hk : (p.hd ts).kind ≠ 0 ∨ (p.hd ts).l ≠ []) : p.adv ts = { p with next := p.next + 1 } := by
  unfold PS.adv
  rw [if_pos (h.last hi hk)]
theorem adv_lt {ts : List Tk} {p : PS} (hi : p.next < ts.length) : (p.adv ts).next < ts.length := by
  unfold PS.adv
  split
  · assumption
  · exact hi
@[simp] theorem adv_depth (ts : List Tk) (p : PS) : (p.adv ts).depth = p.depth := by unfold PS.adv; split <;> rfl
@[simp] theorem adv_delays (ts : List Tk) (p : PS) : (p.adv ts).delays = p.delays := by unfold PS.adv; split <;> rfl
@[simp] theorem adv_nodes (ts : List Tk) (p : PS) : (p.adv ts).nodes = p.nodes := by unfold PS.adv; split <;> rfl
@[simp] theorem adv_decls (ts : List Tk) (p : PS) : (p.adv ts).decls = p.decls := by unfold PS.adv; split <;> rfl
theorem adv_ge (ts : List Tk) (p : PS) : p.next ≤ (p.adv ts).next := by unfold PS.adv; split <;> simp
structure PS.Wf (ts : List Tk) (p : PS) : Prop where
  next : p.next < ts.length
  nodes : p.nodes.length ≤ p.next
  decls : p.decls.length ≤ p.next
  delays : p.delays ≤ p.depth
  depth : p.depth ≤ 16
structure Step (ts : List Tk) (p p' : PS) : Prop where
  lt : p.next < p'.next
  next : p'.next < ts.length
  depth : p'.depth = p.depth
  delays : p'.delays = p.delays
  decls : p'.decls = p.decls
  nodes : ∃ l, p'.nodes = p.nodes ++ l
  len : p'.nodes.length ≤ p'.next
theorem Step.wf {ts : List Tk} {p p' : PS} (h : Step ts p p') (hw : p.Wf ts) : p'.Wf ts :=
  ⟨h.next, h.len, by rw [h.decls]; exact Nat.le_trans hw.decls (Nat.le_of_lt h.lt), by rw [h.delays, h.depth]; exact hw.delays, by rw [h.depth]; exact hw.depth⟩
theorem Step.trans {ts : List Tk} {p p1 p2 : PS} (h : Step ts p p1) (k : Step ts p1 p2) : Step ts p p2 := by
  obtain ⟨l, hl⟩ := h.nodes
  obtain ⟨m, hm⟩ := k.nodes
  exact ⟨Nat.lt_trans h.lt k.lt, k.next, k.depth.trans h.depth, k.delays.trans h.delays, k.decls.trans h.decls, ⟨l ++ m, by rw [hm, hl, List.append_assoc]⟩, k.len⟩
def ExOk (ts : List Tk) (d : Nat) (ex : Ex) : Prop :=
  ∀ p, p.Wf ts → p.depth = d → (∀ r p', ex p = .ok (r, p') → Step ts p p' ∧ r = p.nodes.length ∧ r < p'.nodes.length) ∧ (∀ k, ex p = .error k → k < ts.length)
theorem adv_wf {ts : List Tk} {p : PS} (h : p.Wf ts) : (p.adv ts).Wf ts :=
  ⟨adv_lt h.next, by rw [adv_nodes]; exact Nat.le_trans h.nodes (adv_ge ts p), by rw [adv_decls]; exact Nat.le_trans h.decls (adv_ge ts p), by simp [h.delays], by simp [h.depth]⟩
theorem adv_step {ts : List Tk} (ht : TsOk ts) {p : PS} (h : p.Wf ts) (hk : (p.hd ts).kind ≠ 0 ∨ (p.hd ts).l ≠ []) : Step ts p (p.adv ts) := by
  rw [adv_next ht h.next hk]
  have := ht.last h.next hk
  exact ⟨Nat.lt_succ_self _, this, rfl, rfl, rfl, ⟨[], by simp⟩, Nat.le_succ_of_le h.nodes⟩
theorem take_ok {ts : List Tk} (ht : TsOk ts) {p p' : PS} {l : List UInt8} (h : p.Wf ts) (hl : l ≠ []) (he : p.take ts l = .ok p') : p' = p.adv ts ∧ Step ts p p' := by
  unfold PS.take at he
  split at he
  · rename_i hh
    cases he
    exact ⟨rfl, adv_step ht h (.inr (by rw [hh]; exact hl))⟩
  · cases he
theorem take_err {ts : List Tk} {p : PS} {l : List UInt8} {k : Nat} (h : p.next < ts.length) (he : p.take ts l = .error k) : k = p.next ∧ k < ts.length := by
  unfold PS.take at he
  split at he
  · cases he
  · cases he; exact ⟨rfl, h⟩
theorem leaf_step {ts : List Tk} (ht : TsOk ts) {p : PS} {n : Nd} (h : p.Wf ts) (hk : (p.hd ts).kind ≠ 0 ∨ (p.hd ts).l ≠ []) :
    Step ts p (leafF ts p n).2 ∧ (leafF ts p n).1 = p.nodes.length ∧ (leafF ts p n).1 < (leafF ts p n).2.nodes.length := by
  have hl := ht.last h.next hk
  have e : (p.add ts n).adv ts = { p.add ts n with next := p.next + 1 } := adv_next ht (p := p.add ts n) h.next hk
  unfold leafF
  rw [e]
  refine ⟨⟨Nat.lt_succ_self _, hl, rfl, rfl, rfl, ⟨_, rfl⟩, ?_⟩, rfl, ?_⟩
  · simp [PS.add]; exact h.nodes
  · simp [PS.add]
theorem inside_ok {ts : List Tk} (ht : TsOk ts) {d : Nat} {ex : Ex} (hx : ExOk ts d ex) {p : PS} (h : p.Wf ts) (hd : p.depth = d) (hdl : p.delays + 1 ≤ d) (n : Nd) :
    (∀ n' p', insideF ts ex p n = .ok (n', p') → Step ts p p') ∧ (∀ k, insideF ts ex p n = .error k → k < ts.length) := by
  unfold insideF
  split
  · rename_i hl
    have hs := adv_step ht h (.inr (by rw [hl]; decide))
    have hx1 := hx (p.adv ts) (hs.wf h) (by rw [hs.depth, hd])
    unfold notF
    constructor
    · intro n' p' he
      split at he
      · cases he
      · rename_i a p1 h1; cases he
        exact hs.trans (hx1.1 _ _ h1).1
    · intro k he
      split at he
      · rename_i e h1; cases he; exact hx1.2 _ h1
      · cases he
  split
  · rename_i hl0 hl
    have hs := adv_step ht h (.inr (by rw [hl]; decide))
    have hx1 := hx (p.adv ts) (hs.wf h) (by rw [hs.depth, hd])
    unfold choiceF
    constructor
    · intro n' p' he
      split at he
      · cases he
      · rename_i a p1 h1
        have s1 := hs.trans (hx1.1 _ _ h1).1
        have hx2 := hx p1 (s1.wf h) (by rw [s1.depth, hd])
        split at he
        · cases he
        · rename_i b p2 h2
          have s2 := s1.trans (hx2.1 _ _ h2).1
          have hx3 := hx p2 (s2.wf h) (by rw [s2.depth, hd])
          split at he
          · cases he
          · rename_i c p3 h3; cases he
            exact s2.trans (hx3.1 _ _ h3).1
    · intro k he
      split at he
      · rename_i e h1; cases he; exact hx1.2 _ h1
      · rename_i a p1 h1
        have s1 := hs.trans (hx1.1 _ _ h1).1
        have hx2 := hx p1 (s1.wf h) (by rw [s1.depth, hd])
        split at he
        · rename_i e h2; cases he; exact hx2.2 _ h2
        · rename_i b p2 h2
          have s2 := s1.trans (hx2.1 _ _ h2).1
          have hx3 := hx p2 (s2.wf h) (by rw [s2.depth, hd])
          split at he
          · rename_i e h3; cases he; exact hx3.2 _ h3
          · cases he
  · have hx1 := hx p h hd
    unfold infixF
    constructor
    · intro n' p' he
      split at he
      · cases he
      · rename_i a p1 h1
        have s1 := (hx1.1 _ _ h1).1
        have hw1 := s1.wf h
        split at he
        · rename_i hl
          have hs := adv_step ht hw1 (.inr (by rw [hl.2]; decide))
          have hw2 := hs.wf hw1
          unfold delayF at he
          have hw3 : ({ p1.adv ts with delays := (p1.adv ts).delays + 1 } : PS).Wf ts := ⟨hw2.next, hw2.nodes, hw2.decls, by simp; rw [s1.delays, s1.depth, hd]; exact hdl, hw2.depth⟩
          have hx3 := hx _ hw3 (by simp; rw [s1.depth, hd])
          split at he
          · cases he
          · rename_i b p2 h2; cases he
            have s3 := (hx3.1 _ _ h2).1
            refine (s1.trans hs).trans ⟨s3.lt, s3.next, s3.depth, ?_, s3.decls, s3.nodes, s3.len⟩
            show p2.delays - 1 = _
            rw [s3.delays]; simp
        · unfold infixRest at he
          split at he
          · cases he
          · rename_i op ho
            have hs := adv_step ht hw1 (.inr (by intro e; rw [e] at ho; simp [opOf] at ho))
            have hx2 := hx _ (hs.wf hw1) (by rw [hs.depth, s1.depth, hd])
            split at he
            · cases he
            · rename_i b p2 h2; cases he
              exact (s1.trans hs).trans (hx2.1 _ _ h2).1
    · intro k he
      split at he
      · rename_i e h1; cases he; exact hx1.2 _ h1
      · rename_i a p1 h1
        have s1 := (hx1.1 _ _ h1).1
        have hw1 := s1.wf h
        split at he
        · rename_i hl
          have hs := adv_step ht hw1 (.inr (by rw [hl.2]; decide))
          have hw2 := hs.wf hw1
          unfold delayF at he
          have hw3 : ({ p1.adv ts with delays := (p1.adv ts).delays + 1 } : PS).Wf ts := ⟨hw2.next, hw2.nodes, hw2.decls, by simp; rw [s1.delays, s1.depth, hd]; exact hdl, hw2.depth⟩
          have hx3 := hx _ hw3 (by simp; rw [s1.depth, hd])
          split at he
          · rename_i e h2; cases he; exact hx3.2 _ h2
          · cases he
        · unfold infixRest at he
          split at he
          · cases he; exact hw1.next
          · rename_i op ho
            have hs := adv_step ht hw1 (.inr (by intro e; rw [e] at ho; simp [opOf] at ho))
            have hx2 := hx _ (hs.wf hw1) (by rw [hs.depth, s1.depth, hd])
            split at he
            · rename_i e h2; cases he; exact hx2.2 _ h2
            · cases he
def inBr (ts : List Tk) (p : PS) : PS := { (p.add ts ndZero).adv ts with depth := p.depth + 1 }
theorem inBr_wf {ts : List Tk} (ht : TsOk ts) {p : PS} (h : p.Wf ts) (hd : p.depth < 16) (hk : (p.hd ts).kind ≠ 0 ∨ (p.hd ts).l ≠ []) : (inBr ts p).Wf ts ∧ (inBr ts p).next = p.next + 1 := by
  have hl := ht.last h.next hk
  have e : (p.add ts ndZero).adv ts = { p.add ts ndZero with next := p.next + 1 } := adv_next ht (p := p.add ts ndZero) h.next hk
  unfold inBr
  rw [e]
  have := h.nodes
  have := h.decls
  have := h.delays
  exact ⟨⟨hl, by simp [PS.add]; omega, by simp [PS.add]; omega, by simp [PS.add]; omega, by simp; omega⟩, rfl⟩
theorem bracket_ok {ts : List Tk} (ht : TsOk ts) {d : Nat} {ex : Ex} (hx : ExOk ts (d + 1) ex) {p : PS} (h : p.Wf ts) (hd : p.depth = d) (hd16 : d < 16) (hk : (p.hd ts).l = [40]) :
    (∀ r p', bracketF ts ex p = .ok (r, p') → Step ts p p' ∧ r = p.nodes.length ∧ r < p'.nodes.length) ∧ (∀ k, bracketF ts ex p = .error k → k < ts.length) := by
  obtain ⟨hw, hn⟩ := inBr_wf ht h (by omega) (.inr (by rw [hk]; decide))
  have hin := inside_ok ht hx hw (by simp [inBr, hd]) (by have := h.delays; simp [inBr, PS.add]; omega) ((p.add ts ndZero).nodes.getD p.nodes.length ndZero)
  unfold bracketF
  constructor
  · intro r p' he
    split at he
    · cases he
    · rename_i n p2 h2
      have s2 := hin.1 _ _ h2
      obtain ⟨l, hl⟩ := s2.nodes
      have hln : (inBr ts p).nodes.length = p.nodes.length + 1 := by simp [inBr, PS.add]
      have hlen2 : p.nodes.length < p2.nodes.length := by rw [hl, List.length_append, hln]; omega
      split at he
      · cases he
      · rename_i p3 h3
        have hw2 := s2.wf hw
        have hw2' : ({ p2 with depth := p2.depth - 1, nodes := p2.nodes.set p.nodes.length n } : PS).Wf ts := by
          refine ⟨hw2.next, by simp; exact hw2.nodes, hw2.decls, ?_, ?_⟩
          · show p2.delays ≤ p2.depth - 1
            rw [s2.delays, s2.depth]
            have := h.delays
            simp [inBr, PS.add]; omega
          · show p2.depth - 1 ≤ 16
            rw [s2.depth]; simp [inBr]; exact h.depth
        obtain ⟨rfl, s3⟩ := take_ok ht hw2' (by decide) h3
        cases he
        refine ⟨⟨?_, s3.next, ?_, ?_, ?_, ?_, s3.len⟩, rfl, ?_⟩
        · have := s2.lt; have := s3.lt; simp at this; omega
        · rw [s3.depth]; show p2.depth - 1 = _; rw [s2.depth]; simp [inBr]
        · rw [s3.delays]; show p2.delays = _; rw [s2.delays]; simp [inBr, PS.add]
        · rw [s3.decls]; show p2.decls = _; rw [s2.decls]; simp [inBr, PS.add]
        · refine ⟨n :: l, ?_⟩
          rw [adv_nodes]
          show p2.nodes.set p.nodes.length n = _
          rw [hl]
          have : (inBr ts p).nodes = p.nodes ++ [(p.add ts ndZero).nodes.getD p.nodes.length ndZero] := by simp [inBr, PS.add]
          rw [this, List.append_assoc, List.set_append_right _ _ (Nat.le_refl _), Nat.sub_self]
          rfl
        · rw [adv_nodes]; simpa using hlen2
  · intro k he
    split at he
    · rename_i e h2; cases he; exact hin.2 _ h2
    · rename_i n p2 h2
      split at he
      · rename_i e h3; cases he
        exact (take_err (p := { p2 with depth := p2.depth - 1, nodes := p2.nodes.set p.nodes.length n }) (hin.1 _ _ h2).next h3).2
      · cases he
theorem expr_ok {ts : List Tk} (ht : TsOk ts) : ∀ f d, d + f = 16 → ExOk ts d (exprF ts f) := by
  intro f
  induction f with
  | zero =>
    intro d hd p hw hpd
    simp only [exprF, atomF]
    split
    · exact ⟨fun r p' he => (by cases he), fun k he => (by cases he; exact hw.next)⟩
    split
    · rename_i hl; exact ⟨fun r p' he => by cases he; exact leaf_step ht hw (.inr (by rw [hl]; decide)), fun k he => by cases he⟩
    split
    · rename_i hl; exact ⟨fun r p' he => by cases he; exact leaf_step ht hw (.inr (by rw [hl]; decide)), fun k he => by cases he⟩
    split
    · rename_i hl; exact ⟨fun r p' he => by cases he; exact leaf_step ht hw (.inl (by rw [hl]; decide)), fun k he => by cases he⟩
    split
    · rename_i hl; exact ⟨fun r p' he => by cases he; exact leaf_step ht hw (.inl (by rw [hl]; decide)), fun k he => by cases he⟩
    · exact ⟨fun r p' he => (by cases he), fun k he => (by cases he; exact hw.next)⟩
  | succ f ih =>
    intro d hd p hw hpd
    simp only [exprF, atomF]
    split
    · rename_i hl; exact bracket_ok ht (ih (d + 1) (by omega)) hw hpd (by omega) hl
    split
    · rename_i hl; exact ⟨fun r p' he => by cases he; exact leaf_step ht hw (.inr (by rw [hl]; decide)), fun k he => by cases he⟩
    split
    · rename_i hl; exact ⟨fun r p' he => by cases he; exact leaf_step ht hw (.inr (by rw [hl]; decide)), fun k he => by cases he⟩
    split
    · rename_i hl; exact ⟨fun r p' he => by cases he; exact leaf_step ht hw (.inl (by rw [hl]; decide)), fun k he => by cases he⟩
    split
    · rename_i hl; exact ⟨fun r p' he => by cases he; exact leaf_step ht hw (.inl (by rw [hl]; decide)), fun k he => by cases he⟩
    · exact ⟨fun r p' he => (by cases he), fun k he => (by cases he; exact hw.next)⟩
structure DStep (ts : List Tk) (p p' : PS) : Prop where
  lt : p.next < p'.next
  wf : p'.Wf ts
  depth : p'.depth = p.depth
  delays : p'.delays = p.delays
theorem place_step {ts : List Tk} (ht : TsOk ts) {p p' : PS} {r : Nat} (h : p.Wf ts) (he : placeF ts p = .ok (r, p')) : Step ts p p' ∧ r < 4 := by
  unfold placeF at he
  split at he
  · rename_i hh
    cases he
    exact ⟨adv_step ht h (.inl (by rw [hh.1]; decide)), hh.2⟩
  · cases he
theorem declare_wf {ts : List Tk} {p : PS} {d : Dc} (h : p.Wf ts) (hd : p.decls.length + 1 ≤ p.next) : (p.declare d).Wf ts :=
  ⟨h.next, h.nodes, by simp [PS.declare]; exact hd, h.delays, h.depth⟩
theorem declaration_step {ts : List Tk} (ht : TsOk ts) {p p' : PS} (h : p.Wf ts) (hd0 : p.depth = 0) (he : declarationF ts p = .ok p') : DStep ts p p' := by
  unfold declarationF at he
  have inp : (p.hd ts).l ≠ [] → inputF ts p = .ok p' → DStep ts p p' := by
    intro hk he
    have s1 := adv_step ht h (.inr hk)
    have w1 := s1.wf h
    unfold inputF at he
    split at he
    · rename_i hn
      have s2 := adv_step ht w1 (.inl (by rw [hn]; decide))
      have w2 := s2.wf w1
      have hdl : ((p.adv ts).adv ts).decls.length + 1 ≤ ((p.adv ts).adv ts).next := by
        have := h.decls; have := s1.lt; have := s2.lt; simp; omega
      obtain ⟨_, s3⟩ := take_ok ht (declare_wf (d := ⟨0, 0, ((p.adv ts).hd ts).text, ((p.adv ts).hd ts).pos, 0, 0, 0⟩) w2 hdl) (by decide) he
      have e1 := s1.lt
      have e2 := s2.lt
      have e3 : ((p.adv ts).adv ts).next < p'.next := s3.lt
      refine ⟨by omega, ?_, ?_, ?_⟩
      · exact s3.wf (declare_wf w2 hdl)
      · rw [s3.depth]; simp [PS.declare]
      · rw [s3.delays]; simp [PS.declare]
    · cases he
  have eqn : ∀ kind, (p.hd ts).l ≠ [] → equationF ts kind p = .ok p' → DStep ts p p' := by
    intro kind hk he
    have s1 := adv_step ht h (.inr hk)
    have w1 := s1.wf h
    unfold equationF at he
    split at he
    · rename_i hn
      have s2 := adv_step ht w1 (.inl (by rw [hn]; decide))
      have w2 := s2.wf w1
      split at he
      · cases he
      rename_i p3 h3
      obtain ⟨_, s3⟩ := take_ok ht w2 (by decide) h3
      have w3 := s3.wf w2
      split at he
      · cases he
      rename_i pl p4 h4
      obtain ⟨s4, _⟩ := place_step ht w3 h4
      have w4 := s4.wf w3
      split at he
      · cases he
      rename_i p5 h5
      obtain ⟨_, s5⟩ := take_ok ht w4 (by decide) h5
      have w5 := s5.wf w4
      split at he
      · cases he
      rename_i r p6 h6
      have hd5 : p5.depth = 0 := by rw [s5.depth, s4.depth, s3.depth, s2.depth, s1.depth]; exact hd0
      obtain ⟨s6, _⟩ := (expr_ok ht 16 0 (by omega) p5 w5 hd5).1 _ _ h6
      have w6 := s6.wf w5
      have sAll := ((((s1.trans s2).trans s3).trans s4).trans s5).trans s6
      have hdl : p6.decls.length + 1 ≤ p6.next := by
        rw [sAll.decls]; have := h.decls; have := sAll.lt; omega
      obtain ⟨_, s7⟩ := take_ok ht (declare_wf (d := ⟨kind, 0, ((p.adv ts).hd ts).text, ((p.adv ts).hd ts).pos, pl, r, p6.nodes.length⟩) w6 hdl) (by decide) he
      have e1 := sAll.lt
      have e2 : p6.next < p'.next := s7.lt
      refine ⟨by omega, s7.wf (declare_wf w6 hdl), ?_, ?_⟩
      · rw [s7.depth]; show p6.depth = _; exact sAll.depth
      · rw [s7.delays]; show p6.delays = _; exact sAll.delays
    · cases he
  split at he
  · rename_i hl; exact inp (by rw [hl]; decide) he
  split at he
  · rename_i hl; exact eqn 1 (by rw [hl]; decide) he
  split at he
  · rename_i hl; exact eqn 2 (by rw [hl]; decide) he
  · cases he
def pZero : PS := ⟨0, 0, 0, [], []⟩
def parseF (s : ByteArray) : Except Nat PS := declsF (toks s) (toks s).length pZero
theorem pZero_wf {ts : List Tk} (ht : TsOk ts) : pZero.Wf ts := ⟨ht.pos, Nat.le_refl _, Nat.le_refl _, Nat.le_refl _, by decide⟩
theorem findF_hit (l : List Dc) (name : ByteArray) (k : Nat) (h : k < l.length) (hk : (l[k]'h).name.data.toList = name.data.toList) (hb : ∀ j (hj : j < k), (l[j]'(by omega)).name.data.toList ≠ name.data.toList) : findF l name = (k : Int) := by
  unfold findF
  have : l.findIdx? (fun d => d.name.data.toList == name.data.toList) = some k := by
    rw [List.findIdx?_eq_some_iff_getElem]
    refine ⟨h, by simpa using hk, ?_⟩
    intro j hj
    simpa using hb j hj
  rw [this]
theorem findF_miss (l : List Dc) (name : ByteArray) (hb : ∀ j (hj : j < l.length), (l[j]'hj).name.data.toList ≠ name.data.toList) : findF l name = -1 := by
  unfold findF
  have : l.findIdx? (fun d => d.name.data.toList == name.data.toList) = none := by
    rw [List.findIdx?_eq_none_iff]
    intro d hd
    obtain ⟨j, hj, rfl⟩ := List.getElem_of_mem hd
    simpa using hb j hj
  rw [this]
abbrev Mx := Nat → Nat → Bool
def phase (M : Mx) (k : Nat) : Mx := fun i j => M i j || (M i k && M k j)
def warsh (M : Mx) : Nat → Mx
  | 0 => M
  | k + 1 => phase (warsh M k) k
def midM (M : Mx) (k f m : Nat) : Mx := fun i j => if i < f ∨ (i = f ∧ j < m) then phase M k i j else M i j
theorem phase_row (M : Mx) (k j : Nat) : phase M k k j = M k j := by
  unfold phase; cases h : M k j <;> simp
theorem midM_zero (M : Mx) (k : Nat) : midM M k 0 0 = M := by
  funext i j; unfold midM; rw [if_neg (by omega)]
theorem midM_between (M : Mx) (k f m j : Nat) (h : ¬ (k = f ∧ j < m)) : midM M k f m k j = M k j := by
  unfold midM
  by_cases h1 : k < f
  · rw [if_pos (.inl h1)]; exact phase_row M k j
  · rw [if_neg (by omega)]
theorem midM_here (M : Mx) (k f m j : Nat) (h : m ≤ j) : midM M k f m f j = M f j := by
  unfold midM; rw [if_neg (by omega)]
def upd (M : Mx) (a b : Nat) (v : Bool) : Mx := fun i j => if i = a ∧ j = b then v else M i j
theorem midM_set (M : Mx) (k f m : Nat) (h1 : M f k = true) (h2 : M k m = true) : upd (midM M k f m) f m true = midM M k f (m + 1) := by
  funext i j
  unfold upd midM
  by_cases e : i = f ∧ j = m
  · obtain ⟨rfl, rfl⟩ := e
    rw [if_pos ⟨rfl, rfl⟩, if_pos (.inr ⟨rfl, by omega⟩)]
    unfold phase; rw [h1, h2]; simp
  · rw [if_neg e]
    by_cases h : i < f ∨ (i = f ∧ j < m)
    · rw [if_pos h, if_pos (by omega)]
    · rw [if_neg h, if_neg (by omega)]
theorem midM_skip (M : Mx) (k f m : Nat) (h2 : M k m = false) : midM M k f m = midM M k f (m + 1) := by
  funext i j
  unfold midM
  by_cases h : i < f ∨ (i = f ∧ j < m)
  · rw [if_pos h, if_pos (by omega)]
  · rw [if_neg h]
    by_cases e : i = f ∧ j = m
    · obtain ⟨rfl, rfl⟩ := e
      rw [if_pos (.inr ⟨rfl, by omega⟩)]
      unfold phase; rw [h2]; simp
    · rw [if_neg (by omega)]
def agree (n : Nat) (A B : Mx) : Prop := ∀ i j, i < n → j < n → A i j = B i j
theorem midM_done (M : Mx) (n k f m : Nat) (hm : n ≤ m) : agree n (midM M k f m) (midM M k (f + 1) 0) := by
  intro i j _ hj
  unfold midM
  by_cases h : i < f ∨ (i = f ∧ j < m)
  · rw [if_pos h, if_pos (by omega)]
  · rw [if_neg h, if_neg (by omega)]
theorem midM_pass (M : Mx) (n k f : Nat) (h : M f k = false) : agree n (midM M k f 0) (midM M k (f + 1) 0) := by
  intro i j _ _
  unfold midM
  by_cases h1 : i < f
  · rw [if_pos (.inl h1), if_pos (by omega)]
  · rw [if_neg (by omega)]
    by_cases e : i = f
    · subst e
      rw [if_pos (by omega)]
      unfold phase; rw [h]; simp
    · rw [if_neg (by omega)]
theorem midM_all (M : Mx) (n k f : Nat) (h : n ≤ f) : agree n (midM M k f 0) (phase M k) := by
  intro i j hi _
  unfold midM
  rw [if_pos (by omega)]
def most (d : Dc) : Nat := if d.kind = 0 then 4 else 12
def tooManyF : List Dc → Option Nat
  | [] => none
  | d :: r => if most d ≤ d.number then some d.pos else tooManyF r
def seg (ns : List Nd) (a b : Nat) : List Nd := (ns.drop a).take (b - a)
def badNodeF : List Nd → Option Nat
  | [] => none
  | n :: r => if n.kind = 2 ∧ n.decl < 0 then some n.pos else badNodeF r
def badNameF (all : List Dc) (ns : List Nd) : Nat → List Dc → Option Nat
  | _, [] => none
  | i, d :: r =>
    if findF all d.name ≠ (i : Int) then some d.pos
    else match badNodeF (seg ns d.root d.fin) with
      | some a => some a
      | none => badNameF all ns (i + 1) r
def takesT (op : Nat) : Bool := op == 11 || op == 12
def makesT (op : Nat) : Bool := op == 9 || op == 10 || takesT op
def kindAt (ds : List Dc) (i : Int) : Nat := (ds.getD i.toNat ⟨0, 0, ⟨#[]⟩, 0, 0, 0, 0⟩).kind
def fitsF (ds : List Dc) (n : Nd) (truth : Bool) : Bool :=
  if n.kind = 0 then !truth
  else if n.kind = 1 ∨ n.kind = 3 then truth
  else if n.kind = 2 then truth == (kindAt ds n.decl == 2)
  else if n.kind = 6 then truth == makesT n.op
  else true
def tell (n : Nd) (t : Bool) (tr : List Bool) : List Bool :=
  if n.kind = 3 then tr.set n.a true
  else if n.kind = 4 then ((tr.set n.a true).set n.b t).set n.c t
  else if n.kind = 5 then (tr.set n.a t).set n.b t
  else if n.kind = 6 then (tr.set n.a (takesT n.op)).set n.b (takesT n.op)
  else tr
def badTypeF (ds : List Dc) : Nat → List Nd → List Bool → Option Nat
  | _, [], _ => none
  | i, n :: r, tr => if fitsF ds n (tr.getD i false) then badTypeF ds (i + 1) r (tell n (tr.getD i false) tr) else some n.pos
def roots : List Dc → List Bool → List Bool
  | [], tr => tr
  | d :: r, tr => roots r (if d.kind = 2 then tr.set d.root true else tr)
def markSeg (ds : List Dc) (i : Nat) : List Nd → Mx → Mx
  | [], M => M
  | n :: r, M => markSeg ds i r (if n.kind = 2 ∧ n.delayed = false ∧ kindAt ds n.decl ≠ 0 then upd M i n.decl.toNat true else M)
def markAll (ds : List Dc) (ns : List Nd) : Nat → List Dc → Mx → Mx
  | _, [], M => M
  | i, d :: r, M => markAll ds ns (i + 1) r (markSeg ds i (seg ns d.root d.fin) M)
def firstSelf (M : Mx) : Nat → List Dc → Option Nat
  | _, [] => none
  | i, d :: r => if M i i then some d.pos else firstSelf M (i + 1) r
def noM : Mx := fun _ _ => false
def cycleF (ds : List Dc) (ns : List Nd) : Option Nat := firstSelf (warsh (markAll ds ns 0 ds noM) ds.length) 0 ds
structure ProgWf (ds : List Dc) (ns : List Nd) : Prop where
  dl : ds.length ≤ 1501
  nl : ns.length ≤ 1501
  segs : ∀ d ∈ ds, (d.root = 0 ∧ d.fin = 0 ∧ d.kind = 0) ∨ (d.root < d.fin ∧ d.fin ≤ ns.length)
  parts : ∀ n ∈ ns, n.a < ns.length ∧ n.b < ns.length ∧ n.c < ns.length
  decl : ∀ n ∈ ns, n.kind = 2 → -1 ≤ n.decl ∧ n.decl < (ds.length : Int)
  kind : ∀ n ∈ ns, n.kind ≤ 6
  place : ∀ d ∈ ds, d.place < 4
  later : ∀ i (h : i < ns.length), ((ns[i]'h).kind = 3 → i < (ns[i]'h).a) ∧ ((ns[i]'h).kind = 4 → i < (ns[i]'h).a ∧ (ns[i]'h).a < (ns[i]'h).b ∧ (ns[i]'h).b < (ns[i]'h).c) ∧ ((ns[i]'h).kind = 5 ∨ (ns[i]'h).kind = 6 → i < (ns[i]'h).a ∧ (ns[i]'h).a < (ns[i]'h).b)
def W (cl : Nat) (c : UInt8) : Bool := cls c.toNat == cl
def tokW (k : Nat) (w : List UInt8) (cl : Nat) : Tk := ⟨kindK w cl, k, ⟨w.toArray⟩⟩
def tkL : Nat → Nat → List UInt8 → List Tk
  | 0, _, _ => []
  | _ + 1, _, [] => []
  | f + 1, k, c :: r =>
    if cls c.toNat = 0 then tkL f (k + 1) r
    else if cls c.toNat = 1 ∨ cls c.toNat = 2 then
      tokW k (c :: r.takeWhile (W (cls c.toNat))) (cls c.toNat) :: tkL f (k + 1 + (r.takeWhile (W (cls c.toNat))).length) (r.dropWhile (W (cls c.toNat)))
    else tokW k [c] (cls c.toNat) :: tkL f (k + 1) r
theorem drop_le (p : UInt8 → Bool) (r : List UInt8) : (r.dropWhile p).length ≤ r.length := by
  have := List.takeWhile_append_dropWhile (p := p) (l := r)
  have h : (r.takeWhile p).length + (r.dropWhile p).length = r.length := by rw [← List.length_append, this]
  omega
theorem take_drop_len (p : UInt8 → Bool) (r : List UInt8) : (r.takeWhile p).length + (r.dropWhile p).length = r.length := by
  rw [← List.length_append, List.takeWhile_append_dropWhile]
theorem tkL_fuel : ∀ f g k (l : List UInt8), l.length ≤ f → l.length ≤ g → tkL f k l = tkL g k l := by
  intro f
  induction f with
  | zero =>
    intro g k l h1 h2
    cases l with
    | nil => cases g <;> rfl
    | cons c r => simp at h1
  | succ f ih =>
    intro g k l h1 h2
    cases l with
    | nil => cases g <;> rfl
    | cons c r =>
      cases g with
      | zero => simp at h2
      | succ g =>
        simp at h1 h2
        have := drop_le (W (cls c.toNat)) r
        simp only [tkL]
        rw [ih g (k + 1) r h1 h2, ih g _ (r.dropWhile (W (cls c.toNat))) (by omega) (by omega)]
def tk (k : Nat) (l : List UInt8) : List Tk := tkL l.length k l
theorem tk_nil (k : Nat) : tk k [] = [] := rfl
theorem tk_blank {k : Nat} {c : UInt8} {r : List UInt8} (h : cls c.toNat = 0) : tk k (c :: r) = tk (k + 1) r := by
  unfold tk; simp only [List.length_cons, tkL]; rw [if_pos h]
theorem tk_word {k : Nat} {c : UInt8} {r : List UInt8} (h : cls c.toNat = 1 ∨ cls c.toNat = 2) :
    tk k (c :: r) = tokW k (c :: r.takeWhile (W (cls c.toNat))) (cls c.toNat) :: tk (k + 1 + (r.takeWhile (W (cls c.toNat))).length) (r.dropWhile (W (cls c.toNat))) := by
  unfold tk; simp only [List.length_cons, tkL]; rw [if_neg (by omega), if_pos h]
  rw [tkL_fuel _ (r.dropWhile (W (cls c.toNat))).length _ _ (drop_le _ _) (Nat.le_refl _)]
theorem tk_one {k : Nat} {c : UInt8} {r : List UInt8} (h : 3 ≤ cls c.toNat) : tk k (c :: r) = tokW k [c] (cls c.toNat) :: tk (k + 1) r := by
  unfold tk; simp only [List.length_cons, tkL]; rw [if_neg (by omega), if_neg (by omega)]
theorem W_self (c : UInt8) : W (cls c.toNat) c = true := by simp [W]
theorem runTo_list (s : ByteArray) (cl : Nat) : ∀ f k, f = s.size - k → k ≤ s.size → runTo s cl f k = k + ((s.data.toList.drop k).takeWhile (W cl)).length := by
  intro f
  induction f with
  | zero =>
    intro k h hk
    have : s.data.toList.drop k = [] := by rw [List.drop_eq_nil_iff]; have : s.data.toList.length = s.size := Array.length_toList; omega
    rw [this]; rfl
  | succ f ih =>
    intro k h hk
    have hlen : s.data.toList.length = s.size := Array.length_toList
    have hk' : k < s.data.toList.length := by omega
    have hb : byt s k = (s.data.toList[k]'hk').toNat := by
      unfold byt; rw [List.getD_eq_getElem?_getD, List.getElem?_eq_getElem hk']; rfl
    rw [List.drop_eq_getElem_cons hk', List.takeWhile_cons]
    simp only [runTo]
    by_cases hc : cls (byt s k) = cl
    · rw [if_pos ⟨by omega, hc⟩, ih (k + 1) (by omega) (by omega)]
      rw [if_pos (by unfold W; rw [← hb, hc]; simp)]
      simp; omega
    · rw [if_neg (fun x => hc x.2), if_neg (by unfold W; rw [← hb]; simpa using hc)]
      rfl
theorem ba_ext {a b : ByteArray} (h : a.data.toList = b.data.toList) : a = b := by
  cases a; cases b
  congr
  exact Array.toList_inj.1 h
theorem takeWhile_take (p : UInt8 → Bool) (r : List UInt8) : r.take (r.takeWhile p).length = r.takeWhile p := by
  induction r with
  | nil => rfl
  | cons c r ih =>
    rw [List.takeWhile_cons]
    split
    · simp [ih]
    · rfl
theorem takeWhile_drop (p : UInt8 → Bool) (r : List UInt8) : r.drop (r.takeWhile p).length = r.dropWhile p := by
  induction r with
  | nil => rfl
  | cons c r ih =>
    rw [List.takeWhile_cons, List.dropWhile_cons]
    split
    · simp [ih]
    · rfl
theorem toksFrom_list (s : ByteArray) : ∀ n k, n = s.size - k → k ≤ s.size → toksFrom s (s.size - k) k = tk k (s.data.toList.drop k) := by
  intro n
  induction n using Nat.strongRecOn with
  | _ n ih =>
    intro k hn hk
    have hlen : s.data.toList.length = s.size := Array.length_toList
    by_cases hk' : k < s.size
    · have hk2 : k < s.data.toList.length := by omega
      have hb : byt s k = (s.data.toList[k]'hk2).toNat := by
        unfold byt; rw [List.getD_eq_getElem?_getD, List.getElem?_eq_getElem hk2]; rfl
      rw [List.drop_eq_getElem_cons hk2]
      generalize hcd : s.data.toList[k]'hk2 = c at hb
      have htk : ∀ e, tokAt s k = tokW k ((s.data.toList.drop k).take (e - k)) (cls c.toNat) ∨ endOf s k ≠ e := by
        intro e
        by_cases he : endOf s k = e
        · left
          unfold tokAt tokW kindB
          rw [he, hb]
          have hd : (s.extract k e).data.toList = (s.data.toList.drop k).take (e - k) := by
            rw [ByteArray.data_extract, Array.toList_extract, List.extract_eq_take_drop]
          congr 1
          · rw [hd]
          · exact ba_ext (by rw [hd])
        · exact .inr he
      by_cases h0 : cls c.toNat = 0
      · rw [toksFrom_blank s k hk' (by rw [hb]; exact h0), tk_blank h0]
        exact ih (s.size - (k + 1)) (by omega) (k + 1) rfl (by omega)
      · rw [toksFrom_tok s k hk' (by rw [hb]; exact h0)]
        by_cases h12 : cls c.toNat = 1 ∨ cls c.toNat = 2
        · rw [tk_word h12]
          have he : endOf s k = k + 1 + ((s.data.toList.drop (k + 1)).takeWhile (W (cls c.toNat))).length := by
            unfold endOf
            rw [hb, if_pos h12, runTo_list s _ _ (k + 1) rfl (by omega)]
          have hle := endOf_le s k hk'
          have hgt := endOf_gt s k
          rcases htk _ with h | h
          · rw [h]
            congr 1
            · congr 1
              rw [List.drop_eq_getElem_cons hk2, hcd]
              have e1 : endOf s k - k = (((s.data.toList.drop (k + 1)).takeWhile (W (cls c.toNat))).length) + 1 := by omega
              rw [e1, List.take_succ_cons, takeWhile_take]
            · rw [ih (s.size - endOf s k) (by omega) (endOf s k) rfl hle]
              rw [← he]
              congr 1
              rw [← takeWhile_drop, List.drop_drop]
              congr 1
          · exact absurd rfl h
        · have h3 : 3 ≤ cls c.toNat := by omega
          rw [tk_one h3]
          have he : endOf s k = k + 1 := by unfold endOf; rw [hb, if_neg h12]
          rcases htk (k + 1) with h | h
          · rw [h, he]
            congr 1
            · congr 1
              rw [List.drop_eq_getElem_cons hk2, hcd]
              have e1 : k + 1 - k = 1 := by omega
              rw [e1]; rfl
            · exact ih (s.size - (k + 1)) (by omega) (k + 1) rfl (by omega)
          · exact absurd he h
    · have : s.data.toList.drop k = [] := by rw [List.drop_eq_nil_iff]; omega
      rw [this, toksFrom_end s _ k (by omega)]
      rfl
theorem toks_list (s : ByteArray) : toks s = tk 0 s.data.toList ++ [⟨0, s.size, ⟨#[]⟩⟩] := by
  unfold toks
  have := toksFrom_list s _ 0 rfl (Nat.zero_le _)
  simp at this
  rw [this]
  rfl
theorem kindK_pos (w : List UInt8) (cl : Nat) : kindK w cl ≠ 0 := by
  unfold kindK wordK numK
  split
  · split
    · decide
    split <;> decide
  split
  · split <;> decide
  split <;> decide
theorem tk_kind : ∀ n k (l : List UInt8), l.length = n → ∀ t ∈ tk k l, t.kind ≠ 0 ∧ ∃ c ∈ l, t.text.data.toList.head? = some c ∧ (t.text.data.toList = [c] ∨ cls c.toNat = 1 ∨ cls c.toNat = 2) := by
  intro n
  induction n using Nat.strongRecOn with
  | _ n ih =>
    intro k l hn t ht
    cases l with
    | nil => rw [tk_nil] at ht; simp at ht
    | cons c r =>
      simp only [List.length_cons] at hn
      by_cases h0 : cls c.toNat = 0
      · rw [tk_blank h0] at ht
        obtain ⟨h1, d, hd, h2⟩ := ih r.length (by omega) (k + 1) r rfl t ht
        exact ⟨h1, d, List.mem_cons_of_mem _ hd, h2⟩
      · by_cases h12 : cls c.toNat = 1 ∨ cls c.toNat = 2
        · rw [tk_word h12] at ht
          rcases List.mem_cons.1 ht with rfl | ht
          · exact ⟨kindK_pos _ _, c, List.mem_cons_self .., rfl, .inr h12⟩
          · have hl := take_drop_len (W (cls c.toNat)) r
            obtain ⟨h1, d, hd, h2⟩ := ih _ (by omega) _ _ rfl t ht
            refine ⟨h1, d, List.mem_cons_of_mem _ ?_, h2⟩
            rw [← List.takeWhile_append_dropWhile (p := W (cls c.toNat)) (l := r)]
            exact List.mem_append_right _ hd
        · rw [tk_one (by omega)] at ht
          rcases List.mem_cons.1 ht with rfl | ht
          · exact ⟨kindK_pos _ _, c, List.mem_cons_self .., rfl, .inl rfl⟩
          · obtain ⟨h1, d, hd, h2⟩ := ih r.length (by omega) (k + 1) r rfl t ht
            exact ⟨h1, d, List.mem_cons_of_mem _ hd, h2⟩
def DigTok (t : Tk) : Prop := t.kind = 3 → t.text.size ≤ 18 ∧ ∀ c ∈ t.text.data.toList, 48 ≤ c.toNat ∧ c.toNat ≤ 57
def TsDig (ts : List Tk) : Prop := ∀ i, i < ts.length → DigTok (tkAt ts i)
theorem runTo_all (s : ByteArray) (cl : Nat) : ∀ f k j, k ≤ j → j < runTo s cl f k → cls (byt s j) = cl ∧ j < s.size := by
  intro f
  induction f with
  | zero => intro k j h1 h2; simp only [runTo] at h2; omega
  | succ f ih =>
    intro k j h1 h2
    simp only [runTo] at h2
    split at h2
    · rename_i hc
      by_cases e : j = k
      · subst e; exact ⟨hc.2, hc.1⟩
      · exact ih (k + 1) j (by omega) h2
    · omega
theorem cls_two {c : Nat} (h : cls c = 2) : 48 ≤ c ∧ c ≤ 57 := by
  unfold cls at h
  split at h
  · cases h
  split at h
  · cases h
  split at h
  · assumption
  split at h <;> cases h
theorem toks_dig (s : ByteArray) : TsDig (toks s) := by
  have key : ∀ f k, ∀ t ∈ toksFrom s f k, DigTok t := by
    intro f
    induction f with
    | zero => intro k t ht; simp [toksFrom] at ht
    | succ f ih =>
      intro k t ht
      simp only [toksFrom] at ht
      split at ht
      · rename_i hk
        split at ht
        · exact ih _ t ht
        · rcases List.mem_cons.1 ht with rfl | ht
          · intro hkind
            have hk2 : kindK (s.extract k (endOf s k)).data.toList (cls (byt s k)) = 3 := hkind
            unfold kindK at hk2
            split at hk2
            · unfold wordK at hk2
              split at hk2
              · cases hk2
              split at hk2 <;> cases hk2
            split at hk2
            · rename_i hc2
              unfold numK at hk2
              split at hk2
              · cases hk2
              rename_i h18
              have hsz : (s.extract k (endOf s k)).data.toList.length = (s.extract k (endOf s k)).size := size_len _
              refine ⟨by show (s.extract k (endOf s k)).size ≤ 18; omega, ?_⟩
              show ∀ c ∈ (s.extract k (endOf s k)).data.toList, 48 ≤ c.toNat ∧ c.toNat ≤ 57
              intro c hc
              obtain ⟨j, hj, rfl⟩ := List.getElem_of_mem hc
              have hle := endOf_le s k hk
              have hjs : j < endOf s k - k := by
                rw [hsz, ByteArray.size_extract] at hj
                omega
              have hkj : k + j < s.size := by omega
              have hcl : cls (byt s (k + j)) = 2 := by
                by_cases e : j = 0
                · subst e; exact hc2
                · have he : endOf s k = runTo s 2 (s.size - (k + 1)) (k + 1) := by unfold endOf; rw [if_pos (.inr hc2), hc2]
                  rw [he] at hjs
                  exact (runTo_all s 2 (s.size - (k + 1)) (k + 1) (k + j) (by omega) (by omega)).1
              have hget : (s.extract k (endOf s k)).data.toList[j]'hj = s.data.toList[k + j]'(by rw [size_len]; exact hkj) := by
                simp
              have hb : byt s (k + j) = ((s.extract k (endOf s k)).data.toList[j]'hj).toNat := by
                rw [hget]
                unfold byt
                simp [hkj]
              have h2 := cls_two hcl
              rw [hb] at h2
              exact h2
            · split at hk2 <;> cases hk2
          · exact ih _ t ht
      · simp at ht
  intro i hi
  have hm : tkAt (toks s) i ∈ toks s := by
    unfold tkAt
    rw [List.getD_eq_getElem?_getD, List.getElem?_eq_getElem hi]
    exact List.getElem_mem hi
  generalize tkAt (toks s) i = t at hm ⊢
  unfold toks at hm
  rcases List.mem_append.1 hm with h | h
  · exact key _ _ _ h
  · simp at h
    rw [h]
    intro hk
    cases hk
structure RTk where
  c : Nat
  word : ByteArray
  pos : Nat
  n : Nat
def rtok (t : Tk) : RTk :=
  ⟨if t.kind = 0 then 101 else if t.kind = 1 then 97 else if t.kind = 2 then 107 else if t.kind = 3 then 110 else if t.kind = 4 then 115 else 120,
   if t.kind = 1 ∨ t.kind = 2 ∨ t.kind = 4 then t.text else ⟨#[]⟩, t.pos, if t.kind = 3 then valOf t.text.data.toList else 0⟩
end Go.Proofs.Ytmndgoapkmhglab
namespace Go.Proofs.Ytmndgoapkmhglab
open Go.RowKit
theorem box_cell (w : World) (cs : Array Value) (t : TypeId) (j : Nat) (v : Value) (h : cs[j]? = some v) : (w.alloc (.cells cs t)).cell? ⟨w.heap.size, j, none⟩ = some v := by
  have hj : j < cs.size := (Array.getElem?_eq_some_iff.1 h).1
  have hr := World.rowIs_alloc w cs t (fun i => (cs[i]?).getD (.int .i64 0)) (fun i hi => by simp [hi])
  rw [hr.cell hj, h]
  rfl
end Go.Proofs.Ytmndgoapkmhglab
