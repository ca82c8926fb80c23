import Derived.Test.YtbmhafagdchjfaaToks
/- Plain mathematics: the parser of the program, step by step as it goes. No program, no world. -/
namespace Go.Proofs.Ytbmhafagdchjfaa

structure Nd where
  kind : Nat
  pos : Nat
  value : Nat
  name : ByteArray
  decl : Int
  op : Nat
  a : Nat
  b : Nat
  c : Nat
  delayed : Bool
  behind : Bool

structure Dc where
  kind : Nat
  number : Nat
  name : ByteArray
  pos : Nat
  place : Nat
  root : Nat
  fin : Nat

structure PS where
  next : Nat
  depth : Nat
  delays : Nat
  decls : List Dc
  nodes : List Nd

def ndZero : Nd := ⟨0, 0, 0, ⟨#[]⟩, 0, 0, 0, 0, 0, false, false⟩
def tkEnd : Tk := ⟨0, 0, ⟨#[]⟩⟩
def tkAt (ts : List Tk) (i : Nat) : Tk := ts.getD i tkEnd
def Tk.l (t : Tk) : List UInt8 := t.text.data.toList
/-- the token at hand. -/
def PS.hd (ts : List Tk) (p : PS) : Tk := tkAt ts p.next
def PS.adv (ts : List Tk) (p : PS) : PS := if p.next + 1 < ts.length then { p with next := p.next + 1 } else p
def PS.take (ts : List Tk) (p : PS) (l : List UInt8) : Except Nat PS := if (p.hd ts).l = l then .ok (p.adv ts) else .error p.next

def PS.add (ts : List Tk) (p : PS) (n : Nd) : PS :=
  { p with nodes := p.nodes ++ [{ n with pos := (p.hd ts).pos, delayed := decide (0 < p.delays), behind := decide (0 < p.next) && ((tkAt ts (p.next - 1)).l == kFby) }] }

def leafF (ts : List Tk) (p : PS) (n : Nd) : Nat × PS := (p.nodes.length, (p.add ts n).adv ts)

def opOf (l : List UInt8) : Option Nat :=
  if l = [43] then some 5 else if l = [45] then some 6 else if l = [42] then some 7 else if l = [47] then some 8
  else if l = [60] then some 9 else if l = [61] then some 10 else if l = [38] then some 11 else if l = [124] then some 12 else none

abbrev Ex := PS → Except Nat (Nat × PS)

def notF (ts : List Tk) (ex : Ex) (p : PS) (n : Nd) : Except Nat (Nd × PS) :=
  match ex (p.adv ts) with
  | .error e => .error e
  | .ok (a, p1) => .ok ({ n with kind := 3, a := a }, p1)

def choiceF (ts : List Tk) (ex : Ex) (p : PS) (n : Nd) : Except Nat (Nd × PS) :=
  match ex (p.adv ts) with
  | .error e => .error e
  | .ok (a, p1) =>
    match ex p1 with
    | .error e => .error e
    | .ok (b, p2) =>
      match ex p2 with
      | .error e => .error e
      | .ok (c, p3) => .ok ({ n with kind := 4, a := a, b := b, c := c }, p3)

def delayF (ex : Ex) (p : PS) (n : Nd) : Except Nat (Nd × PS) :=
  match ex { p with delays := p.delays + 1 } with
  | .error e => .error e
  | .ok (b, p1) => .ok ({ n with kind := 5, b := b }, { p1 with delays := p1.delays - 1 })

def isLit (n : Nd) : Bool := n.kind == 0 || n.kind == 1

def infixRest (ts : List Tk) (ex : Ex) (p1 : PS) (n : Nd) : Except Nat (Nd × PS) :=
  match opOf (p1.hd ts).l with
  | none => .error p1.next
  | some op =>
    match ex (p1.adv ts) with
    | .error e => .error e
    | .ok (b, p2) => .ok ({ n with kind := 6, op := op, b := b }, p2)

def infixF (ts : List Tk) (ex : Ex) (p : PS) (n : Nd) : Except Nat (Nd × PS) :=
  match ex p with
  | .error e => .error e
  | .ok (a, p1) =>
    if isLit (p1.nodes.getD a ndZero) = true ∧ (p1.hd ts).l = kFby then delayF ex (p1.adv ts) { n with a := a }
    else infixRest ts ex p1 { n with a := a }

def insideF (ts : List Tk) (ex : Ex) (p : PS) (n : Nd) : Except Nat (Nd × PS) :=
  if (p.hd ts).l = kNot then notF ts ex p n else if (p.hd ts).l = kIf then choiceF ts ex p n else infixF ts ex p n

def bracketF (ts : List Tk) (ex : Ex) (p : PS) : Except Nat (Nat × PS) :=
  match insideF ts ex { (p.add ts ndZero).adv ts with depth := p.depth + 1 } ((p.add ts ndZero).nodes.getD p.nodes.length ndZero) with
  | .error e => .error e
  | .ok (n, p2) =>
    match PS.take ts { p2 with depth := p2.depth - 1, nodes := p2.nodes.set p.nodes.length n } [41] with
    | .error e => .error e
    | .ok p3 => .ok (p.nodes.length, p3)

def atomF (ts : List Tk) (p : PS) (br : Except Nat (Nat × PS)) : Except Nat (Nat × PS) :=
  if (p.hd ts).l = [40] then br
  else if (p.hd ts).l = kTrue then .ok (leafF ts p { ndZero with kind := 1, value := 1 })
  else if (p.hd ts).l = kFalse then .ok (leafF ts p { ndZero with kind := 1 })
  else if (p.hd ts).kind = 3 then .ok (leafF ts p { ndZero with kind := 0, value := valOf (p.hd ts).l })
  else if (p.hd ts).kind = 1 then .ok (leafF ts p { ndZero with kind := 2, name := (p.hd ts).text })
  else .error p.next

def exprF (ts : List Tk) : Nat → PS → Except Nat (Nat × PS)
  | 0, p => atomF ts p (.error p.next)
  | f + 1, p => atomF ts p (bracketF ts (exprF ts f) p)

def placeF (ts : List Tk) (p : PS) : Except Nat (Nat × PS) :=
  if (p.hd ts).kind = 3 ∧ valOf (p.hd ts).l < 4 then .ok (valOf (p.hd ts).l, p.adv ts) else .error p.next

def sameSort (d : Dc) (l : List Dc) : Nat := (l.filter fun a => (a.kind == 0) == (d.kind == 0)).length
def PS.declare (p : PS) (d : Dc) : PS := { p with decls := p.decls ++ [{ d with number := d.number + sameSort d p.decls }] }

def inputF (ts : List Tk) (p : PS) : Except Nat PS :=
  if ((p.adv ts).hd ts).kind = 1 then
    PS.take ts (((p.adv ts).adv ts).declare ⟨0, 0, ((p.adv ts).hd ts).text, ((p.adv ts).hd ts).pos, 0, 0, 0⟩) [59]
  else .error (p.adv ts).next

def equationF (ts : List Tk) (kind : Nat) (p : PS) : Except Nat PS :=
  if ((p.adv ts).hd ts).kind = 1 then
    match PS.take ts ((p.adv ts).adv ts) kAt with
    | .error e => .error e
    | .ok p1 =>
      match placeF ts p1 with
      | .error e => .error e
      | .ok (pl, p2) =>
        match PS.take ts p2 [61] with
        | .error e => .error e
        | .ok p3 =>
          match exprF ts 16 p3 with
          | .error e => .error e
          | .ok (r, p4) => PS.take ts (p4.declare ⟨kind, 0, ((p.adv ts).hd ts).text, ((p.adv ts).hd ts).pos, pl, r, p4.nodes.length⟩) [59]
  else .error (p.adv ts).next

def declarationF (ts : List Tk) (p : PS) : Except Nat PS :=
  if (p.hd ts).l = kIn then inputF ts p else if (p.hd ts).l = kInt then equationF ts 1 p else if (p.hd ts).l = kBool then equationF ts 2 p else .error p.next

def declsF (ts : List Tk) : Nat → PS → Except Nat PS
  | 0, p => .ok p
  | f + 1, p =>
    if (p.hd ts).kind = 0 then .ok p
    else match declarationF ts p with
      | .error e => .error e
      | .ok p' => declsF ts f p'

def findF (l : List Dc) (name : ByteArray) : Int :=
  match l.findIdx? (fun d => d.name.data.toList == name.data.toList) with
  | some i => i
  | none => -1

def bindF (l : List Dc) (n : Nd) : Nd := if n.kind = 2 then { n with decl := findF l n.name } else n

/-- tokens that end as tokens do. -/
def TsOk (ts : List Tk) : Prop := ts.length ≤ 1501 ∧ ∃ l k, ts = l ++ [⟨0, k, ⟨#[]⟩⟩]

theorem toks_ok (s : ByteArray) (h : s.size ≤ 1500) : TsOk (toks s) := by
  refine ⟨?_, toksFrom s s.size 0, s.size, rfl⟩
  have := toksFrom_length s s.size 0
  simp [toks]; omega

theorem TsOk.pos {ts : List Tk} (h : TsOk ts) : 0 < ts.length := by
  obtain ⟨_, l, k, rfl⟩ := h; simp

theorem TsOk.last {ts : List Tk} (h : TsOk ts) {i : Nat} (hi : i < ts.length) (hk : (tkAt ts i).kind ≠ 0 ∨ (tkAt ts i).l ≠ []) : i + 1 < ts.length := by
  obtain ⟨_, l, k, rfl⟩ := h
  by_cases e : i = l.length
  · subst e
    exfalso
    have : tkAt (l ++ [⟨0, k, ⟨#[]⟩⟩]) l.length = ⟨0, k, ⟨#[]⟩⟩ := by simp [tkAt]
    rw [this] at hk
    rcases hk with hk | hk
    · exact hk rfl
    · exact hk rfl
  · simp at hi ⊢; omega

theorem adv_next {ts : List Tk} (h : TsOk ts) {p : PS} (hi : p.next < ts.length) (hk : (p.hd ts).kind ≠ 0 ∨ (p.hd ts).l ≠ []) : p.adv ts = { p with next := p.next + 1 } := by
  unfold PS.adv
  rw [if_pos (h.last hi hk)]

theorem adv_lt {ts : List Tk} {p : PS} (hi : p.next < ts.length) : (p.adv ts).next < ts.length := by
  unfold PS.adv
  split
  · assumption
  · exact hi
@[simp] theorem adv_depth (ts : List Tk) (p : PS) : (p.adv ts).depth = p.depth := by unfold PS.adv; split <;> rfl
@[simp] theorem adv_delays (ts : List Tk) (p : PS) : (p.adv ts).delays = p.delays := by unfold PS.adv; split <;> rfl
@[simp] theorem adv_nodes (ts : List Tk) (p : PS) : (p.adv ts).nodes = p.nodes := by unfold PS.adv; split <;> rfl
@[simp] theorem adv_decls (ts : List Tk) (p : PS) : (p.adv ts).decls = p.decls := by unfold PS.adv; split <;> rfl
theorem adv_ge (ts : List Tk) (p : PS) : p.next ≤ (p.adv ts).next := by unfold PS.adv; split <;> simp

/-- what the walks ask of a state. -/
structure PS.Wf (ts : List Tk) (p : PS) : Prop where
  next : p.next < ts.length
  nodes : p.nodes.length ≤ p.next
  decls : p.decls.length ≤ p.next
  delays : p.delays ≤ p.depth
  depth : p.depth ≤ 16

end Go.Proofs.Ytbmhafagdchjfaa
