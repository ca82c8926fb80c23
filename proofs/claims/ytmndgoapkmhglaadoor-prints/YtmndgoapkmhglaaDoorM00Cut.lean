/- Plain mathematics: the tokens of a text. No program, no world. -/
namespace Go.Proofs.YtmndgoapkmhglaaDoor

/-- byte k of a text, as a number; 0 beyond it. -/
def byt (s : ByteArray) (k : Nat) : Nat := (s.data.toList.getD k 0).toNat

theorem byt_eq (s : ByteArray) (k : Nat) (h : k < s.size) : (s[k]'h).toNat = byt s k := by
  unfold byt
  have : s.data.toList.getD k 0 = s[k]'h := by
    rw [List.getD_eq_getElem?_getD, Array.getElem?_toList, Array.getElem?_eq_getElem (by simpa using h)]
    rfl
  rw [this]

theorem byt_lt (s : ByteArray) (k : Nat) : byt s k < 256 := by
  unfold byt
  exact UInt8.toNat_lt _

def signL : List Nat := [40, 41, 59, 61, 43, 45, 42, 47, 60, 38, 124]

/-- classes: 0 a blank, 1 a letter, 2 a digit, 3 a sign, 4 another. -/
def cls (c : Nat) : Nat :=
  if c = 32 ∨ c = 10 then 0 else if 97 ≤ c ∧ c ≤ 122 then 1 else if 48 ≤ c ∧ c ≤ 57 then 2 else if signL.contains c then 3 else 4

theorem cls_1 {c : Nat} (h : 97 ≤ c) (h' : c ≤ 122) : cls c = 1 := by unfold cls; rw [if_neg (by omega), if_pos ⟨h, h'⟩]
theorem cls_2 {c : Nat} (h : 48 ≤ c) (h' : c ≤ 57) : cls c = 2 := by unfold cls; rw [if_neg (by omega), if_neg (by omega), if_pos ⟨h, h'⟩]
theorem cls_34 {c : Nat} (h : ¬ (97 ≤ c ∧ c ≤ 122)) (h' : ¬ (48 ≤ c ∧ c ≤ 57)) (h1 : c ≠ 32) (h2 : c ≠ 10) : cls c = if signL.contains c then 3 else 4 := by
  unfold cls; rw [if_neg (by omega), if_neg h, if_neg h']

theorem cls_le (c : Nat) : cls c ≤ 4 := by
  unfold cls; split; omega; split; omega; split; omega; split <;> omega

/-- where the run of a class ends that goes on at k. -/
def runTo (s : ByteArray) (cl : Nat) : Nat → Nat → Nat
  | 0, k => k
  | f + 1, k => if k < s.size ∧ cls (byt s k) = cl then runTo s cl f (k + 1) else k

theorem runTo_ge (s : ByteArray) (cl : Nat) : ∀ f k, k ≤ runTo s cl f k := by
  intro f
  induction f with
  | zero => intro k; exact Nat.le_refl _
  | succ f ih =>
    intro k
    simp only [runTo]
    split
    · exact Nat.le_trans (Nat.le_succ k) (ih (k + 1))
    · exact Nat.le_refl _

theorem runTo_le (s : ByteArray) (cl : Nat) : ∀ f k, k ≤ s.size → runTo s cl f k ≤ s.size := by
  intro f
  induction f with
  | zero => intro k h; exact h
  | succ f ih =>
    intro k h
    simp only [runTo]
    split
    · rename_i hc
      exact ih (k + 1) hc.1
    · exact h

theorem runTo_step (s : ByteArray) (cl k : Nat) (h : k < s.size) (hc : cls (byt s k) = cl) :
    runTo s cl (s.size - k) k = runTo s cl (s.size - (k + 1)) (k + 1) := by
  have e : s.size - k = (s.size - (k + 1)) + 1 := by omega
  rw [e]
  simp only [runTo]
  rw [if_pos ⟨h, hc⟩]

theorem runTo_stop (s : ByteArray) (cl f k : Nat) (h : ¬ (k < s.size ∧ cls (byt s k) = cl)) : runTo s cl f k = k := by
  cases f with
  | zero => rfl
  | succ f => simp only [runTo]; rw [if_neg h]

/-- where the token (or blank) ends that begins at k. -/
def endOf (s : ByteArray) (k : Nat) : Nat :=
  if cls (byt s k) = 1 ∨ cls (byt s k) = 2 then runTo s (cls (byt s k)) (s.size - (k + 1)) (k + 1) else k + 1

theorem endOf_gt (s : ByteArray) (k : Nat) : k < endOf s k := by
  unfold endOf
  split
  · exact runTo_ge s _ _ (k + 1)
  · exact Nat.lt_succ_self k

theorem endOf_le (s : ByteArray) (k : Nat) (h : k < s.size) : endOf s k ≤ s.size := by
  unfold endOf
  split
  · exact runTo_le s _ _ (k + 1) h
  · exact h

def kIn : List UInt8 := [105, 110]
def kInt : List UInt8 := [105, 110, 116]
def kBool : List UInt8 := [98, 111, 111, 108]
def kAt : List UInt8 := [97, 116]
def kIf : List UInt8 := [105, 102]
def kFby : List UInt8 := [102, 98, 121]
def kNot : List UInt8 := [110, 111, 116]
def kTrue : List UInt8 := [116, 114, 117, 101]
def kFalse : List UInt8 := [102, 97, 108, 115, 101]
def keptL : List (List UInt8) := [kIn, kInt, kBool, kAt, kIf, kFby, kNot, kTrue, kFalse]

/-- kinds: 0 the end, 1 a name, 2 a kept word, 3 a number, 4 a sign, 5 what stands nowhere. -/
def wordK (t : List UInt8) : Nat := if keptL.contains t then 2 else if 8 < t.length then 5 else 1
def numK (t : List UInt8) : Nat := if 18 < t.length then 5 else 3
def kindK (t : List UInt8) (cl : Nat) : Nat := if cl = 1 then wordK t else if cl = 2 then numK t else if cl = 3 then 4 else 5

def kindB (t : ByteArray) (cl : Nat) : Nat := kindK t.data.toList cl

structure Tk where
  kind : Nat
  pos : Nat
  text : ByteArray

def tokAt (s : ByteArray) (k : Nat) : Tk := ⟨kindB (s.extract k (endOf s k)) (cls (byt s k)), k, s.extract k (endOf s k)⟩

def toksFrom (s : ByteArray) : Nat → Nat → List Tk
  | 0, _ => []
  | f + 1, k => if k < s.size then (if cls (byt s k) = 0 then toksFrom s f (k + 1) else tokAt s k :: toksFrom s f (endOf s k)) else []

def toks (s : ByteArray) : List Tk := toksFrom s s.size 0 ++ [⟨0, s.size, ByteArray.empty⟩]

theorem toksFrom_fuel (s : ByteArray) : ∀ f k, s.size - k ≤ f → toksFrom s f k = toksFrom s (s.size - k) k := by
  intro f
  induction f using Nat.strongRecOn with
  | _ f ih =>
    intro k h
    cases f with
    | zero =>
      have e : s.size - k = 0 := by omega
      rw [e]
    | succ f =>
      by_cases hk : k < s.size
      · have e : s.size - k = (s.size - (k + 1)) + 1 := by omega
        rw [e]
        simp only [toksFrom]
        rw [if_pos hk, if_pos hk]
        have hg := endOf_gt s k
        rw [ih f (by omega) (k + 1) (by omega), ih f (by omega) (endOf s k) (by omega), ih (s.size - (k + 1)) (by omega) (endOf s k) (by omega)]
      · have e : s.size - k = 0 := by omega
        rw [e]
        simp only [toksFrom]
        rw [if_neg hk]

theorem toksFrom_blank (s : ByteArray) (k : Nat) (h : k < s.size) (hc : cls (byt s k) = 0) :
    toksFrom s (s.size - k) k = toksFrom s (s.size - (k + 1)) (k + 1) := by
  have e : s.size - k = (s.size - (k + 1)) + 1 := by omega
  rw [e]
  simp only [toksFrom]
  rw [if_pos h, if_pos hc]

theorem toksFrom_tok (s : ByteArray) (k : Nat) (h : k < s.size) (hc : cls (byt s k) ≠ 0) :
    toksFrom s (s.size - k) k = tokAt s k :: toksFrom s (s.size - endOf s k) (endOf s k) := by
  have hg := endOf_gt s k
  have e : s.size - k = (s.size - (k + 1)) + 1 := by omega
  rw [e]
  simp only [toksFrom]
  rw [if_pos h, if_neg hc, toksFrom_fuel s _ (endOf s k) (by omega)]

theorem toksFrom_end (s : ByteArray) (f k : Nat) (h : s.size ≤ k) : toksFrom s f k = [] := by
  cases f with
  | zero => rfl
  | succ f => simp only [toksFrom]; rw [if_neg (by omega)]

theorem toksFrom_length (s : ByteArray) : ∀ f k, (toksFrom s f k).length ≤ s.size - k := by
  intro f
  induction f with
  | zero => intro k; simp [toksFrom]
  | succ f ih =>
    intro k
    simp only [toksFrom]
    split
    · split
      · exact Nat.le_trans (ih (k + 1)) (by omega)
      · have := ih (endOf s k)
        have := endOf_gt s k
        simp only [List.length_cons]
        omega
    · exact Nat.zero_le _

/-- a number's value. -/
def valOf (t : List UInt8) : Nat := t.foldl (fun v d => v * 10 + (d.toNat - 48)) 0

/-- of the first k digits. -/
def valN (t : List UInt8) (k : Nat) : Nat := valOf (t.take k)

theorem valN_succ (t : List UInt8) (k : Nat) (h : k < t.length) : valN t (k + 1) = valN t k * 10 + ((t[k]'h).toNat - 48) := by
  unfold valN valOf
  rw [List.take_succ_eq_append_getElem h, List.foldl_append]
  rfl

theorem valN_lt (t : List UInt8) (hd : ∀ c ∈ t, 48 ≤ c.toNat ∧ c.toNat ≤ 57) : ∀ k, k ≤ t.length → valN t k < 10 ^ k := by
  intro k
  induction k with
  | zero => intro _; simp [valN, valOf]
  | succ k ih =>
    intro h
    rw [valN_succ t k h]
    have h1 := ih (by omega)
    have h2 := hd _ (List.getElem_mem (h := h))
    rw [Nat.pow_succ]
    omega

theorem valN_17 (t : List UInt8) (hd : ∀ c ∈ t, 48 ≤ c.toNat ∧ c.toNat ≤ 57) (k : Nat) (h : k ≤ t.length) (hk : k ≤ 17) : valN t k ≤ 99999999999999999 := by
  have h1 := valN_lt t hd k h
  have h2 : 10 ^ k ≤ 10 ^ 17 := Nat.pow_le_pow_right (by omega) hk
  have h3 : (10 : Nat) ^ 17 = 100000000000000000 := by decide
  omega

theorem valN_all (t : List UInt8) : valN t t.length = valOf t := by unfold valN; rw [List.take_length]

end Go.Proofs.YtmndgoapkmhglaaDoor

/- Plain mathematics: the parser of the program, step by step as it goes. No program, no world. -/
namespace Go.Proofs.YtmndgoapkmhglaaDoor

structure Nd where
  kind : Nat
  pos : Nat
  value : Nat
  name : ByteArray
  decl : Int
  op : Nat
  a : Nat
  b : Nat
  c : Nat
  delayed : Bool
  behind : Bool

structure Dc where
  kind : Nat
  number : Nat
  name : ByteArray
  pos : Nat
  place : Nat
  root : Nat
  fin : Nat

structure PS where
  next : Nat
  depth : Nat
  delays : Nat
  decls : List Dc
  nodes : List Nd

def ndZero : Nd := ⟨0, 0, 0, ⟨#[]⟩, 0, 0, 0, 0, 0, false, false⟩
def tkEnd : Tk := ⟨0, 0, ⟨#[]⟩⟩
def tkAt (ts : List Tk) (i : Nat) : Tk := ts.getD i tkEnd
def Tk.l (t : Tk) : List UInt8 := t.text.data.toList
/-- the token at hand. -/
def PS.hd (ts : List Tk) (p : PS) : Tk := tkAt ts p.next
def PS.adv (ts : List Tk) (p : PS) : PS := if p.next + 1 < ts.length then { p with next := p.next + 1 } else p
def PS.take (ts : List Tk) (p : PS) (l : List UInt8) : Except Nat PS := if (p.hd ts).l = l then .ok (p.adv ts) else .error p.next

def PS.add (ts : List Tk) (p : PS) (n : Nd) : PS :=
  { p with nodes := p.nodes ++ [{ n with pos := (p.hd ts).pos, delayed := decide (0 < p.delays), behind := decide (0 < p.next) && ((tkAt ts (p.next - 1)).l == kFby) }] }

def leafF (ts : List Tk) (p : PS) (n : Nd) : Nat × PS := (p.nodes.length, (p.add ts n).adv ts)

def opOf (l : List UInt8) : Option Nat :=
  if l = [43] then some 5 else if l = [45] then some 6 else if l = [42] then some 7 else if l = [47] then some 8
  else if l = [60] then some 9 else if l = [61] then some 10 else if l = [38] then some 11 else if l = [124] then some 12 else none

abbrev Ex := PS → Except Nat (Nat × PS)

def notF (ts : List Tk) (ex : Ex) (p : PS) (n : Nd) : Except Nat (Nd × PS) :=
  match ex (p.adv ts) with
  | .error e => .error e
  | .ok (a, p1) => .ok ({ n with kind := 3, a := a }, p1)

def choiceF (ts : List Tk) (ex : Ex) (p : PS) (n : Nd) : Except Nat (Nd × PS) :=
  match ex (p.adv ts) with
  | .error e => .error e
  | .ok (a, p1) =>
    match ex p1 with
    | .error e => .error e
    | .ok (b, p2) =>
      match ex p2 with
      | .error e => .error e
      | .ok (c, p3) => .ok ({ n with kind := 4, a := a, b := b, c := c }, p3)

def delayF (ex : Ex) (p : PS) (n : Nd) : Except Nat (Nd × PS) :=
  match ex { p with delays := p.delays + 1 } with
  | .error e => .error e
  | .ok (b, p1) => .ok ({ n with kind := 5, b := b }, { p1 with delays := p1.delays - 1 })

def isLit (n : Nd) : Bool := n.kind == 0 || n.kind == 1

def infixRest (ts : List Tk) (ex : Ex) (p1 : PS) (n : Nd) : Except Nat (Nd × PS) :=
  match opOf (p1.hd ts).l with
  | none => .error p1.next
  | some op =>
    match ex (p1.adv ts) with
    | .error e => .error e
    | .ok (b, p2) => .ok ({ n with kind := 6, op := op, b := b }, p2)

def infixF (ts : List Tk) (ex : Ex) (p : PS) (n : Nd) : Except Nat (Nd × PS) :=
  match ex p with
  | .error e => .error e
  | .ok (a, p1) =>
    if isLit (p1.nodes.getD a ndZero) = true ∧ (p1.hd ts).l = kFby then delayF ex (p1.adv ts) { n with a := a }
    else infixRest ts ex p1 { n with a := a }

def insideF (ts : List Tk) (ex : Ex) (p : PS) (n : Nd) : Except Nat (Nd × PS) :=
  if (p.hd ts).l = kNot then notF ts ex p n else if (p.hd ts).l = kIf then choiceF ts ex p n else infixF ts ex p n

def bracketF (ts : List Tk) (ex : Ex) (p : PS) : Except Nat (Nat × PS) :=
  match insideF ts ex { (p.add ts ndZero).adv ts with depth := p.depth + 1 } ((p.add ts ndZero).nodes.getD p.nodes.length ndZero) with
  | .error e => .error e
  | .ok (n, p2) =>
    match PS.take ts { p2 with depth := p2.depth - 1, nodes := p2.nodes.set p.nodes.length n } [41] with
    | .error e => .error e
    | .ok p3 => .ok (p.nodes.length, p3)

def atomF (ts : List Tk) (p : PS) (br : Except Nat (Nat × PS)) : Except Nat (Nat × PS) :=
  if (p.hd ts).l = [40] then br
  else if (p.hd ts).l = kTrue then .ok (leafF ts p { ndZero with kind := 1, value := 1 })
  else if (p.hd ts).l = kFalse then .ok (leafF ts p { ndZero with kind := 1 })
  else if (p.hd ts).kind = 3 then .ok (leafF ts p { ndZero with kind := 0, value := valOf (p.hd ts).l })
  else if (p.hd ts).kind = 1 then .ok (leafF ts p { ndZero with kind := 2, name := (p.hd ts).text })
  else .error p.next

def exprF (ts : List Tk) : Nat → PS → Except Nat (Nat × PS)
  | 0, p => atomF ts p (.error p.next)
  | f + 1, p => atomF ts p (bracketF ts (exprF ts f) p)

def placeF (ts : List Tk) (p : PS) : Except Nat (Nat × PS) :=
  if (p.hd ts).kind = 3 ∧ valOf (p.hd ts).l < 4 then .ok (valOf (p.hd ts).l, p.adv ts) else .error p.next

def sameSort (d : Dc) (l : List Dc) : Nat := (l.filter fun a => (a.kind == 0) == (d.kind == 0)).length
def PS.declare (p : PS) (d : Dc) : PS := { p with decls := p.decls ++ [{ d with number := d.number + sameSort d p.decls }] }

def inputF (ts : List Tk) (p : PS) : Except Nat PS :=
  if ((p.adv ts).hd ts).kind = 1 then
    PS.take ts (((p.adv ts).adv ts).declare ⟨0, 0, ((p.adv ts).hd ts).text, ((p.adv ts).hd ts).pos, 0, 0, 0⟩) [59]
  else .error (p.adv ts).next

def equationF (ts : List Tk) (kind : Nat) (p : PS) : Except Nat PS :=
  if ((p.adv ts).hd ts).kind = 1 then
    match PS.take ts ((p.adv ts).adv ts) kAt with
    | .error e => .error e
    | .ok p1 =>
      match placeF ts p1 with
      | .error e => .error e
      | .ok (pl, p2) =>
        match PS.take ts p2 [61] with
        | .error e => .error e
        | .ok p3 =>
          match exprF ts 16 p3 with
          | .error e => .error e
          | .ok (r, p4) => PS.take ts (p4.declare ⟨kind, 0, ((p.adv ts).hd ts).text, ((p.adv ts).hd ts).pos, pl, r, p4.nodes.length⟩) [59]
  else .error (p.adv ts).next

def declarationF (ts : List Tk) (p : PS) : Except Nat PS :=
  if (p.hd ts).l = kIn then inputF ts p else if (p.hd ts).l = kInt then equationF ts 1 p else if (p.hd ts).l = kBool then equationF ts 2 p else .error p.next

def declsF (ts : List Tk) : Nat → PS → Except Nat PS
  | 0, p => .ok p
  | f + 1, p =>
    if (p.hd ts).kind = 0 then .ok p
    else match declarationF ts p with
      | .error e => .error e
      | .ok p' => declsF ts f p'

def findF (l : List Dc) (name : ByteArray) : Int :=
  match l.findIdx? (fun d => d.name.data.toList == name.data.toList) with
  | some i => i
  | none => -1

def bindF (l : List Dc) (n : Nd) : Nd := if n.kind = 2 then { n with decl := findF l n.name } else n

/-- tokens that end as tokens do. -/
def TsOk (ts : List Tk) : Prop := ts.length ≤ 1501 ∧ ∃ l k, ts = l ++ [⟨0, k, ⟨#[]⟩⟩]

theorem toks_ok (s : ByteArray) (h : s.size ≤ 1500) : TsOk (toks s) := by
  refine ⟨?_, toksFrom s s.size 0, s.size, rfl⟩
  have := toksFrom_length s s.size 0
  simp [toks]; omega

theorem TsOk.pos {ts : List Tk} (h : TsOk ts) : 0 < ts.length := by
  obtain ⟨_, l, k, rfl⟩ := h; simp

theorem TsOk.last {ts : List Tk} (h : TsOk ts) {i : Nat} (hi : i < ts.length) (hk : (tkAt ts i).kind ≠ 0 ∨ (tkAt ts i).l ≠ []) : i + 1 < ts.length := by
  obtain ⟨_, l, k, rfl⟩ := h
  by_cases e : i = l.length
  · subst e
    exfalso
    have : tkAt (l ++ [⟨0, k, ⟨#[]⟩⟩]) l.length = ⟨0, k, ⟨#[]⟩⟩ := by simp [tkAt]
    rw [this] at hk
    rcases hk with hk | hk
    · exact hk rfl
    · exact hk rfl
  · simp at hi ⊢; omega

theorem adv_next {ts : List Tk} (h : TsOk ts) {p : PS} (hi : p.next < ts.length) (hk : (p.hd ts).kind ≠ 0 ∨ (p.hd ts).l ≠ []) : p.adv ts = { p with next := p.next + 1 } := by
  unfold PS.adv
  rw [if_pos (h.last hi hk)]

theorem adv_lt {ts : List Tk} {p : PS} (hi : p.next < ts.length) : (p.adv ts).next < ts.length := by
  unfold PS.adv
  split
  · assumption
  · exact hi
@[simp] theorem adv_depth (ts : List Tk) (p : PS) : (p.adv ts).depth = p.depth := by unfold PS.adv; split <;> rfl
@[simp] theorem adv_delays (ts : List Tk) (p : PS) : (p.adv ts).delays = p.delays := by unfold PS.adv; split <;> rfl
@[simp] theorem adv_nodes (ts : List Tk) (p : PS) : (p.adv ts).nodes = p.nodes := by unfold PS.adv; split <;> rfl
@[simp] theorem adv_decls (ts : List Tk) (p : PS) : (p.adv ts).decls = p.decls := by unfold PS.adv; split <;> rfl
theorem adv_ge (ts : List Tk) (p : PS) : p.next ≤ (p.adv ts).next := by unfold PS.adv; split <;> simp

/-- what the walks ask of a state. -/
structure PS.Wf (ts : List Tk) (p : PS) : Prop where
  next : p.next < ts.length
  nodes : p.nodes.length ≤ p.next
  decls : p.decls.length ≤ p.next
  delays : p.delays ≤ p.depth
  depth : p.depth ≤ 16

end Go.Proofs.YtmndgoapkmhglaaDoor

/- Plain mathematics: what the parser's steps keep. -/
namespace Go.Proofs.YtmndgoapkmhglaaDoor

/-- from one state to a later one: tokens have been used up, nodes have come. -/
structure Step (ts : List Tk) (p p' : PS) : Prop where
  lt : p.next < p'.next
  next : p'.next < ts.length
  depth : p'.depth = p.depth
  delays : p'.delays = p.delays
  decls : p'.decls = p.decls
  nodes : ∃ l, p'.nodes = p.nodes ++ l
  len : p'.nodes.length ≤ p'.next

theorem Step.wf {ts : List Tk} {p p' : PS} (h : Step ts p p') (hw : p.Wf ts) : p'.Wf ts :=
  ⟨h.next, h.len, by rw [h.decls]; exact Nat.le_trans hw.decls (Nat.le_of_lt h.lt), by rw [h.delays, h.depth]; exact hw.delays, by rw [h.depth]; exact hw.depth⟩

theorem Step.trans {ts : List Tk} {p p1 p2 : PS} (h : Step ts p p1) (k : Step ts p1 p2) : Step ts p p2 := by
  obtain ⟨l, hl⟩ := h.nodes
  obtain ⟨m, hm⟩ := k.nodes
  exact ⟨Nat.lt_trans h.lt k.lt, k.next, k.depth.trans h.depth, k.delays.trans h.delays, k.decls.trans h.decls, ⟨l ++ m, by rw [hm, hl, List.append_assoc]⟩, k.len⟩

def ExOk (ts : List Tk) (d : Nat) (ex : Ex) : Prop :=
  ∀ p, p.Wf ts → p.depth = d → (∀ r p', ex p = .ok (r, p') → Step ts p p' ∧ r = p.nodes.length ∧ r < p'.nodes.length) ∧ (∀ k, ex p = .error k → k < ts.length)

theorem adv_wf {ts : List Tk} {p : PS} (h : p.Wf ts) : (p.adv ts).Wf ts :=
  ⟨adv_lt h.next, by rw [adv_nodes]; exact Nat.le_trans h.nodes (adv_ge ts p), by rw [adv_decls]; exact Nat.le_trans h.decls (adv_ge ts p), by simp [h.delays], by simp [h.depth]⟩

/-- a step over a token that is not the end. -/
theorem adv_step {ts : List Tk} (ht : TsOk ts) {p : PS} (h : p.Wf ts) (hk : (p.hd ts).kind ≠ 0 ∨ (p.hd ts).l ≠ []) : Step ts p (p.adv ts) := by
  rw [adv_next ht h.next hk]
  have := ht.last h.next hk
  exact ⟨Nat.lt_succ_self _, this, rfl, rfl, rfl, ⟨[], by simp⟩, Nat.le_succ_of_le h.nodes⟩

theorem take_ok {ts : List Tk} (ht : TsOk ts) {p p' : PS} {l : List UInt8} (h : p.Wf ts) (hl : l ≠ []) (he : p.take ts l = .ok p') : p' = p.adv ts ∧ Step ts p p' := by
  unfold PS.take at he
  split at he
  · rename_i hh
    cases he
    exact ⟨rfl, adv_step ht h (.inr (by rw [hh]; exact hl))⟩
  · cases he
theorem take_err {ts : List Tk} {p : PS} {l : List UInt8} {k : Nat} (h : p.next < ts.length) (he : p.take ts l = .error k) : k = p.next ∧ k < ts.length := by
  unfold PS.take at he
  split at he
  · cases he
  · cases he; exact ⟨rfl, h⟩

theorem leaf_step {ts : List Tk} (ht : TsOk ts) {p : PS} {n : Nd} (h : p.Wf ts) (hk : (p.hd ts).kind ≠ 0 ∨ (p.hd ts).l ≠ []) :
    Step ts p (leafF ts p n).2 ∧ (leafF ts p n).1 = p.nodes.length ∧ (leafF ts p n).1 < (leafF ts p n).2.nodes.length := by
  have hl := ht.last h.next hk
  have e : (p.add ts n).adv ts = { p.add ts n with next := p.next + 1 } := adv_next ht (p := p.add ts n) h.next hk
  unfold leafF
  rw [e]
  refine ⟨⟨Nat.lt_succ_self _, hl, rfl, rfl, rfl, ⟨_, rfl⟩, ?_⟩, rfl, ?_⟩
  · simp [PS.add]; exact h.nodes
  · simp [PS.add]

theorem inside_ok {ts : List Tk} (ht : TsOk ts) {d : Nat} {ex : Ex} (hx : ExOk ts d ex) {p : PS} (h : p.Wf ts) (hd : p.depth = d) (hdl : p.delays + 1 ≤ d) (n : Nd) :
    (∀ n' p', insideF ts ex p n = .ok (n', p') → Step ts p p') ∧ (∀ k, insideF ts ex p n = .error k → k < ts.length) := by
  unfold insideF
  split
  · rename_i hl
    have hs := adv_step ht h (.inr (by rw [hl]; decide))
    have hx1 := hx (p.adv ts) (hs.wf h) (by rw [hs.depth, hd])
    unfold notF
    constructor
    · intro n' p' he
      split at he
      · cases he
      · rename_i a p1 h1; cases he
        exact hs.trans (hx1.1 _ _ h1).1
    · intro k he
      split at he
      · rename_i e h1; cases he; exact hx1.2 _ h1
      · cases he
  split
  · rename_i hl0 hl
    have hs := adv_step ht h (.inr (by rw [hl]; decide))
    have hx1 := hx (p.adv ts) (hs.wf h) (by rw [hs.depth, hd])
    unfold choiceF
    constructor
    · intro n' p' he
      split at he
      · cases he
      · rename_i a p1 h1
        have s1 := hs.trans (hx1.1 _ _ h1).1
        have hx2 := hx p1 (s1.wf h) (by rw [s1.depth, hd])
        split at he
        · cases he
        · rename_i b p2 h2
          have s2 := s1.trans (hx2.1 _ _ h2).1
          have hx3 := hx p2 (s2.wf h) (by rw [s2.depth, hd])
          split at he
          · cases he
          · rename_i c p3 h3; cases he
            exact s2.trans (hx3.1 _ _ h3).1
    · intro k he
      split at he
      · rename_i e h1; cases he; exact hx1.2 _ h1
      · rename_i a p1 h1
        have s1 := hs.trans (hx1.1 _ _ h1).1
        have hx2 := hx p1 (s1.wf h) (by rw [s1.depth, hd])
        split at he
        · rename_i e h2; cases he; exact hx2.2 _ h2
        · rename_i b p2 h2
          have s2 := s1.trans (hx2.1 _ _ h2).1
          have hx3 := hx p2 (s2.wf h) (by rw [s2.depth, hd])
          split at he
          · rename_i e h3; cases he; exact hx3.2 _ h3
          · cases he
  · have hx1 := hx p h hd
    unfold infixF
    constructor
    · intro n' p' he
      split at he
      · cases he
      · rename_i a p1 h1
        have s1 := (hx1.1 _ _ h1).1
        have hw1 := s1.wf h
        split at he
        · rename_i hl
          have hs := adv_step ht hw1 (.inr (by rw [hl.2]; decide))
          have hw2 := hs.wf hw1
          unfold delayF at he
          have hw3 : ({ p1.adv ts with delays := (p1.adv ts).delays + 1 } : PS).Wf ts := ⟨hw2.next, hw2.nodes, hw2.decls, by simp; rw [s1.delays, s1.depth, hd]; exact hdl, hw2.depth⟩
          have hx3 := hx _ hw3 (by simp; rw [s1.depth, hd])
          split at he
          · cases he
          · rename_i b p2 h2; cases he
            have s3 := (hx3.1 _ _ h2).1
            refine (s1.trans hs).trans ⟨s3.lt, s3.next, s3.depth, ?_, s3.decls, s3.nodes, s3.len⟩
            show p2.delays - 1 = _
            rw [s3.delays]; simp
        · unfold infixRest at he
          split at he
          · cases he
          · rename_i op ho
            have hs := adv_step ht hw1 (.inr (by intro e; rw [e] at ho; simp [opOf] at ho))
            have hx2 := hx _ (hs.wf hw1) (by rw [hs.depth, s1.depth, hd])
            split at he
            · cases he
            · rename_i b p2 h2; cases he
              exact (s1.trans hs).trans (hx2.1 _ _ h2).1
    · intro k he
      split at he
      · rename_i e h1; cases he; exact hx1.2 _ h1
      · rename_i a p1 h1
        have s1 := (hx1.1 _ _ h1).1
        have hw1 := s1.wf h
        split at he
        · rename_i hl
          have hs := adv_step ht hw1 (.inr (by rw [hl.2]; decide))
          have hw2 := hs.wf hw1
          unfold delayF at he
          have hw3 : ({ p1.adv ts with delays := (p1.adv ts).delays + 1 } : PS).Wf ts := ⟨hw2.next, hw2.nodes, hw2.decls, by simp; rw [s1.delays, s1.depth, hd]; exact hdl, hw2.depth⟩
          have hx3 := hx _ hw3 (by simp; rw [s1.depth, hd])
          split at he
          · rename_i e h2; cases he; exact hx3.2 _ h2
          · cases he
        · unfold infixRest at he
          split at he
          · cases he; exact hw1.next
          · rename_i op ho
            have hs := adv_step ht hw1 (.inr (by intro e; rw [e] at ho; simp [opOf] at ho))
            have hx2 := hx _ (hs.wf hw1) (by rw [hs.depth, s1.depth, hd])
            split at he
            · rename_i e h2; cases he; exact hx2.2 _ h2
            · cases he

/-- the state inside a bracket. -/
def inBr (ts : List Tk) (p : PS) : PS := { (p.add ts ndZero).adv ts with depth := p.depth + 1 }

theorem inBr_wf {ts : List Tk} (ht : TsOk ts) {p : PS} (h : p.Wf ts) (hd : p.depth < 16) (hk : (p.hd ts).kind ≠ 0 ∨ (p.hd ts).l ≠ []) : (inBr ts p).Wf ts ∧ (inBr ts p).next = p.next + 1 := by
  have hl := ht.last h.next hk
  have e : (p.add ts ndZero).adv ts = { p.add ts ndZero with next := p.next + 1 } := adv_next ht (p := p.add ts ndZero) h.next hk
  unfold inBr
  rw [e]
  have := h.nodes
  have := h.decls
  have := h.delays
  exact ⟨⟨hl, by simp [PS.add]; omega, by simp [PS.add]; omega, by simp [PS.add]; omega, by simp; omega⟩, rfl⟩

theorem bracket_ok {ts : List Tk} (ht : TsOk ts) {d : Nat} {ex : Ex} (hx : ExOk ts (d + 1) ex) {p : PS} (h : p.Wf ts) (hd : p.depth = d) (hd16 : d < 16) (hk : (p.hd ts).l = [40]) :
    (∀ r p', bracketF ts ex p = .ok (r, p') → Step ts p p' ∧ r = p.nodes.length ∧ r < p'.nodes.length) ∧ (∀ k, bracketF ts ex p = .error k → k < ts.length) := by
  obtain ⟨hw, hn⟩ := inBr_wf ht h (by omega) (.inr (by rw [hk]; decide))
  have hin := inside_ok ht hx hw (by simp [inBr, hd]) (by have := h.delays; simp [inBr, PS.add]; omega) ((p.add ts ndZero).nodes.getD p.nodes.length ndZero)
  unfold bracketF
  constructor
  · intro r p' he
    split at he
    · cases he
    · rename_i n p2 h2
      have s2 := hin.1 _ _ h2
      obtain ⟨l, hl⟩ := s2.nodes
      have hln : (inBr ts p).nodes.length = p.nodes.length + 1 := by simp [inBr, PS.add]
      have hlen2 : p.nodes.length < p2.nodes.length := by rw [hl, List.length_append, hln]; omega
      split at he
      · cases he
      · rename_i p3 h3
        have hw2 := s2.wf hw
        have hw2' : ({ p2 with depth := p2.depth - 1, nodes := p2.nodes.set p.nodes.length n } : PS).Wf ts := by
          refine ⟨hw2.next, by simp; exact hw2.nodes, hw2.decls, ?_, ?_⟩
          · show p2.delays ≤ p2.depth - 1
            rw [s2.delays, s2.depth]
            have := h.delays
            simp [inBr, PS.add]; omega
          · show p2.depth - 1 ≤ 16
            rw [s2.depth]; simp [inBr]; exact h.depth
        obtain ⟨rfl, s3⟩ := take_ok ht hw2' (by decide) h3
        cases he
        refine ⟨⟨?_, s3.next, ?_, ?_, ?_, ?_, s3.len⟩, rfl, ?_⟩
        · have := s2.lt; have := s3.lt; simp at this; omega
        · rw [s3.depth]; show p2.depth - 1 = _; rw [s2.depth]; simp [inBr]
        · rw [s3.delays]; show p2.delays = _; rw [s2.delays]; simp [inBr, PS.add]
        · rw [s3.decls]; show p2.decls = _; rw [s2.decls]; simp [inBr, PS.add]
        · refine ⟨n :: l, ?_⟩
          rw [adv_nodes]
          show p2.nodes.set p.nodes.length n = _
          rw [hl]
          have : (inBr ts p).nodes = p.nodes ++ [(p.add ts ndZero).nodes.getD p.nodes.length ndZero] := by simp [inBr, PS.add]
          rw [this, List.append_assoc, List.set_append_right _ _ (Nat.le_refl _), Nat.sub_self]
          rfl
        · rw [adv_nodes]; simpa using hlen2
  · intro k he
    split at he
    · rename_i e h2; cases he; exact hin.2 _ h2
    · rename_i n p2 h2
      split at he
      · rename_i e h3; cases he
        exact (take_err (p := { p2 with depth := p2.depth - 1, nodes := p2.nodes.set p.nodes.length n }) (hin.1 _ _ h2).next h3).2
      · cases he

theorem expr_ok {ts : List Tk} (ht : TsOk ts) : ∀ f d, d + f = 16 → ExOk ts d (exprF ts f) := by
  intro f
  induction f with
  | zero =>
    intro d hd p hw hpd
    simp only [exprF, atomF]
    split
    · exact ⟨fun r p' he => (by cases he), fun k he => (by cases he; exact hw.next)⟩
    split
    · rename_i hl; exact ⟨fun r p' he => by cases he; exact leaf_step ht hw (.inr (by rw [hl]; decide)), fun k he => by cases he⟩
    split
    · rename_i hl; exact ⟨fun r p' he => by cases he; exact leaf_step ht hw (.inr (by rw [hl]; decide)), fun k he => by cases he⟩
    split
    · rename_i hl; exact ⟨fun r p' he => by cases he; exact leaf_step ht hw (.inl (by rw [hl]; decide)), fun k he => by cases he⟩
    split
    · rename_i hl; exact ⟨fun r p' he => by cases he; exact leaf_step ht hw (.inl (by rw [hl]; decide)), fun k he => by cases he⟩
    · exact ⟨fun r p' he => (by cases he), fun k he => (by cases he; exact hw.next)⟩
  | succ f ih =>
    intro d hd p hw hpd
    simp only [exprF, atomF]
    split
    · rename_i hl; exact bracket_ok ht (ih (d + 1) (by omega)) hw hpd (by omega) hl
    split
    · rename_i hl; exact ⟨fun r p' he => by cases he; exact leaf_step ht hw (.inr (by rw [hl]; decide)), fun k he => by cases he⟩
    split
    · rename_i hl; exact ⟨fun r p' he => by cases he; exact leaf_step ht hw (.inr (by rw [hl]; decide)), fun k he => by cases he⟩
    split
    · rename_i hl; exact ⟨fun r p' he => by cases he; exact leaf_step ht hw (.inl (by rw [hl]; decide)), fun k he => by cases he⟩
    split
    · rename_i hl; exact ⟨fun r p' he => by cases he; exact leaf_step ht hw (.inl (by rw [hl]; decide)), fun k he => by cases he⟩
    · exact ⟨fun r p' he => (by cases he), fun k he => (by cases he; exact hw.next)⟩

end Go.Proofs.YtmndgoapkmhglaaDoor

/- Plain mathematics: what a declaration keeps. -/
namespace Go.Proofs.YtmndgoapkmhglaaDoor

/-- from one declaration to the next. -/
structure DStep (ts : List Tk) (p p' : PS) : Prop where
  lt : p.next < p'.next
  wf : p'.Wf ts
  depth : p'.depth = p.depth
  delays : p'.delays = p.delays

theorem place_step {ts : List Tk} (ht : TsOk ts) {p p' : PS} {r : Nat} (h : p.Wf ts) (he : placeF ts p = .ok (r, p')) : Step ts p p' ∧ r < 4 := by
  unfold placeF at he
  split at he
  · rename_i hh
    cases he
    exact ⟨adv_step ht h (.inl (by rw [hh.1]; decide)), hh.2⟩
  · cases he

theorem declare_wf {ts : List Tk} {p : PS} {d : Dc} (h : p.Wf ts) (hd : p.decls.length + 1 ≤ p.next) : (p.declare d).Wf ts :=
  ⟨h.next, h.nodes, by simp [PS.declare]; exact hd, h.delays, h.depth⟩

theorem declaration_step {ts : List Tk} (ht : TsOk ts) {p p' : PS} (h : p.Wf ts) (hd0 : p.depth = 0) (he : declarationF ts p = .ok p') : DStep ts p p' := by
  unfold declarationF at he
  have inp : (p.hd ts).l ≠ [] → inputF ts p = .ok p' → DStep ts p p' := by
    intro hk he
    have s1 := adv_step ht h (.inr hk)
    have w1 := s1.wf h
    unfold inputF at he
    split at he
    · rename_i hn
      have s2 := adv_step ht w1 (.inl (by rw [hn]; decide))
      have w2 := s2.wf w1
      have hdl : ((p.adv ts).adv ts).decls.length + 1 ≤ ((p.adv ts).adv ts).next := by
        have := h.decls; have := s1.lt; have := s2.lt; simp; omega
      obtain ⟨_, s3⟩ := take_ok ht (declare_wf (d := ⟨0, 0, ((p.adv ts).hd ts).text, ((p.adv ts).hd ts).pos, 0, 0, 0⟩) w2 hdl) (by decide) he
      have e1 := s1.lt
      have e2 := s2.lt
      have e3 : ((p.adv ts).adv ts).next < p'.next := s3.lt
      refine ⟨by omega, ?_, ?_, ?_⟩
      · exact s3.wf (declare_wf w2 hdl)
      · rw [s3.depth]; simp [PS.declare]
      · rw [s3.delays]; simp [PS.declare]
    · cases he
  have eqn : ∀ kind, (p.hd ts).l ≠ [] → equationF ts kind p = .ok p' → DStep ts p p' := by
    intro kind hk he
    have s1 := adv_step ht h (.inr hk)
    have w1 := s1.wf h
    unfold equationF at he
    split at he
    · rename_i hn
      have s2 := adv_step ht w1 (.inl (by rw [hn]; decide))
      have w2 := s2.wf w1
      split at he
      · cases he
      rename_i p3 h3
      obtain ⟨_, s3⟩ := take_ok ht w2 (by decide) h3
      have w3 := s3.wf w2
      split at he
      · cases he
      rename_i pl p4 h4
      obtain ⟨s4, _⟩ := place_step ht w3 h4
      have w4 := s4.wf w3
      split at he
      · cases he
      rename_i p5 h5
      obtain ⟨_, s5⟩ := take_ok ht w4 (by decide) h5
      have w5 := s5.wf w4
      split at he
      · cases he
      rename_i r p6 h6
      have hd5 : p5.depth = 0 := by rw [s5.depth, s4.depth, s3.depth, s2.depth, s1.depth]; exact hd0
      obtain ⟨s6, _⟩ := (expr_ok ht 16 0 (by omega) p5 w5 hd5).1 _ _ h6
      have w6 := s6.wf w5
      have sAll := ((((s1.trans s2).trans s3).trans s4).trans s5).trans s6
      have hdl : p6.decls.length + 1 ≤ p6.next := by
        rw [sAll.decls]; have := h.decls; have := sAll.lt; omega
      obtain ⟨_, s7⟩ := take_ok ht (declare_wf (d := ⟨kind, 0, ((p.adv ts).hd ts).text, ((p.adv ts).hd ts).pos, pl, r, p6.nodes.length⟩) w6 hdl) (by decide) he
      have e1 := sAll.lt
      have e2 : p6.next < p'.next := s7.lt
      refine ⟨by omega, s7.wf (declare_wf w6 hdl), ?_, ?_⟩
      · rw [s7.depth]; show p6.depth = _; exact sAll.depth
      · rw [s7.delays]; show p6.delays = _; exact sAll.delays
    · cases he
  split at he
  · rename_i hl; exact inp (by rw [hl]; decide) he
  split at he
  · rename_i hl; exact eqn 1 (by rw [hl]; decide) he
  split at he
  · rename_i hl; exact eqn 2 (by rw [hl]; decide) he
  · cases he

def pZero : PS := ⟨0, 0, 0, [], []⟩
def parseF (s : ByteArray) : Except Nat PS := declsF (toks s) (toks s).length pZero

theorem pZero_wf {ts : List Tk} (ht : TsOk ts) : pZero.Wf ts := ⟨ht.pos, Nat.le_refl _, Nat.le_refl _, Nat.le_refl _, by decide⟩

theorem findF_hit (l : List Dc) (name : ByteArray) (k : Nat) (h : k < l.length) (hk : (l[k]'h).name.data.toList = name.data.toList) (hb : ∀ j (hj : j < k), (l[j]'(by omega)).name.data.toList ≠ name.data.toList) : findF l name = (k : Int) := by
  unfold findF
  have : l.findIdx? (fun d => d.name.data.toList == name.data.toList) = some k := by
    rw [List.findIdx?_eq_some_iff_getElem]
    refine ⟨h, by simpa using hk, ?_⟩
    intro j hj
    simpa using hb j hj
  rw [this]

theorem findF_miss (l : List Dc) (name : ByteArray) (hb : ∀ j (hj : j < l.length), (l[j]'hj).name.data.toList ≠ name.data.toList) : findF l name = -1 := by
  unfold findF
  have : l.findIdx? (fun d => d.name.data.toList == name.data.toList) = none := by
    rw [List.findIdx?_eq_none_iff]
    intro d hd
    obtain ⟨j, hj, rfl⟩ := List.getElem_of_mem hd
    simpa using hb j hj
  rw [this]

end Go.Proofs.YtmndgoapkmhglaaDoor

/- Plain mathematics: what leads where, in however many steps. -/
namespace Go.Proofs.YtmndgoapkmhglaaDoor

abbrev Mx := Nat → Nat → Bool
def phase (M : Mx) (k : Nat) : Mx := fun i j => M i j || (M i k && M k j)
def warsh (M : Mx) : Nat → Mx
  | 0 => M
  | k + 1 => phase (warsh M k) k

/-- in the midst of a phase: the rows ahead of f are done, and of row f what stands ahead of m. -/
def midM (M : Mx) (k f m : Nat) : Mx := fun i j => if i < f ∨ (i = f ∧ j < m) then phase M k i j else M i j

theorem phase_row (M : Mx) (k j : Nat) : phase M k k j = M k j := by
  unfold phase; cases h : M k j <;> simp

theorem midM_zero (M : Mx) (k : Nat) : midM M k 0 0 = M := by
  funext i j; unfold midM; rw [if_neg (by omega)]
theorem midM_between (M : Mx) (k f m j : Nat) (h : ¬ (k = f ∧ j < m)) : midM M k f m k j = M k j := by
  unfold midM
  by_cases h1 : k < f
  · rw [if_pos (.inl h1)]; exact phase_row M k j
  · rw [if_neg (by omega)]
theorem midM_here (M : Mx) (k f m j : Nat) (h : m ≤ j) : midM M k f m f j = M f j := by
  unfold midM; rw [if_neg (by omega)]

def upd (M : Mx) (a b : Nat) (v : Bool) : Mx := fun i j => if i = a ∧ j = b then v else M i j

theorem midM_set (M : Mx) (k f m : Nat) (h1 : M f k = true) (h2 : M k m = true) : upd (midM M k f m) f m true = midM M k f (m + 1) := by
  funext i j
  unfold upd midM
  by_cases e : i = f ∧ j = m
  · obtain ⟨rfl, rfl⟩ := e
    rw [if_pos ⟨rfl, rfl⟩, if_pos (.inr ⟨rfl, by omega⟩)]
    unfold phase; rw [h1, h2]; simp
  · rw [if_neg e]
    by_cases h : i < f ∨ (i = f ∧ j < m)
    · rw [if_pos h, if_pos (by omega)]
    · rw [if_neg h, if_neg (by omega)]
theorem midM_skip (M : Mx) (k f m : Nat) (h2 : M k m = false) : midM M k f m = midM M k f (m + 1) := by
  funext i j
  unfold midM
  by_cases h : i < f ∨ (i = f ∧ j < m)
  · rw [if_pos h, if_pos (by omega)]
  · rw [if_neg h]
    by_cases e : i = f ∧ j = m
    · obtain ⟨rfl, rfl⟩ := e
      rw [if_pos (.inr ⟨rfl, by omega⟩)]
      unfold phase; rw [h2]; simp
    · rw [if_neg (by omega)]
/-- agreement below n. -/
def agree (n : Nat) (A B : Mx) : Prop := ∀ i j, i < n → j < n → A i j = B i j
theorem midM_done (M : Mx) (n k f m : Nat) (hm : n ≤ m) : agree n (midM M k f m) (midM M k (f + 1) 0) := by
  intro i j _ hj
  unfold midM
  by_cases h : i < f ∨ (i = f ∧ j < m)
  · rw [if_pos h, if_pos (by omega)]
  · rw [if_neg h, if_neg (by omega)]
theorem midM_pass (M : Mx) (n k f : Nat) (h : M f k = false) : agree n (midM M k f 0) (midM M k (f + 1) 0) := by
  intro i j _ _
  unfold midM
  by_cases h1 : i < f
  · rw [if_pos (.inl h1), if_pos (by omega)]
  · rw [if_neg (by omega)]
    by_cases e : i = f
    · subst e
      rw [if_pos (by omega)]
      unfold phase; rw [h]; simp
    · rw [if_neg (by omega)]
theorem midM_all (M : Mx) (n k f : Nat) (h : n ≤ f) : agree n (midM M k f 0) (phase M k) := by
  intro i j hi _
  unfold midM
  rw [if_pos (by omega)]

/-- i leads to j in one step or more, by the ones below n. -/
def Leads (n : Nat) (M : Mx) : Nat → Nat → Nat → Prop
  | 0, _, _ => False
  | f + 1, i, j => M i j = true ∨ ∃ k, k < n ∧ M i k = true ∧ Leads n M f k j

end Go.Proofs.YtmndgoapkmhglaaDoor

/- Plain mathematics: what the program judges of declarations and nodes. -/
namespace Go.Proofs.YtmndgoapkmhglaaDoor

def most (d : Dc) : Nat := if d.kind = 0 then 4 else 12
def tooManyF : List Dc → Option Nat
  | [] => none
  | d :: r => if most d ≤ d.number then some d.pos else tooManyF r

def seg (ns : List Nd) (a b : Nat) : List Nd := (ns.drop a).take (b - a)

def badNodeF : List Nd → Option Nat
  | [] => none
  | n :: r => if n.kind = 2 ∧ n.decl < 0 then some n.pos else badNodeF r

def badNameF (all : List Dc) (ns : List Nd) : Nat → List Dc → Option Nat
  | _, [] => none
  | i, d :: r =>
    if findF all d.name ≠ (i : Int) then some d.pos
    else match badNodeF (seg ns d.root d.fin) with
      | some a => some a
      | none => badNameF all ns (i + 1) r

def takesT (op : Nat) : Bool := op == 11 || op == 12
def makesT (op : Nat) : Bool := op == 9 || op == 10 || takesT op

/-- the kind of declaration i. -/
def kindAt (ds : List Dc) (i : Int) : Nat := (ds.getD i.toNat ⟨0, 0, ⟨#[]⟩, 0, 0, 0, 0⟩).kind

def fitsF (ds : List Dc) (n : Nd) (truth : Bool) : Bool :=
  if n.kind = 0 then !truth
  else if n.kind = 1 ∨ n.kind = 3 then truth
  else if n.kind = 2 then truth == (kindAt ds n.decl == 2)
  else if n.kind = 6 then truth == makesT n.op
  else true

/-- what a node asks of its parts. -/
def tell (n : Nd) (t : Bool) (tr : List Bool) : List Bool :=
  if n.kind = 3 then tr.set n.a true
  else if n.kind = 4 then ((tr.set n.a true).set n.b t).set n.c t
  else if n.kind = 5 then (tr.set n.a t).set n.b t
  else if n.kind = 6 then (tr.set n.a (takesT n.op)).set n.b (takesT n.op)
  else tr

def badTypeF (ds : List Dc) : Nat → List Nd → List Bool → Option Nat
  | _, [], _ => none
  | i, n :: r, tr => if fitsF ds n (tr.getD i false) then badTypeF ds (i + 1) r (tell n (tr.getD i false) tr) else some n.pos

def roots : List Dc → List Bool → List Bool
  | [], tr => tr
  | d :: r, tr => roots r (if d.kind = 2 then tr.set d.root true else tr)

/-- what hangs on what, by its own EXPR. -/
def markSeg (ds : List Dc) (i : Nat) : List Nd → Mx → Mx
  | [], M => M
  | n :: r, M => markSeg ds i r (if n.kind = 2 ∧ n.delayed = false ∧ kindAt ds n.decl ≠ 0 then upd M i n.decl.toNat true else M)
def markAll (ds : List Dc) (ns : List Nd) : Nat → List Dc → Mx → Mx
  | _, [], M => M
  | i, d :: r, M => markAll ds ns (i + 1) r (markSeg ds i (seg ns d.root d.fin) M)
def firstSelf (M : Mx) : Nat → List Dc → Option Nat
  | _, [] => none
  | i, d :: r => if M i i then some d.pos else firstSelf M (i + 1) r
def noM : Mx := fun _ _ => false
def cycleF (ds : List Dc) (ns : List Nd) : Option Nat := firstSelf (warsh (markAll ds ns 0 ds noM) ds.length) 0 ds

/-- what the judge's walks ask of a program. -/
structure ProgWf (ds : List Dc) (ns : List Nd) : Prop where
  dl : ds.length ≤ 1501
  nl : ns.length ≤ 1501
  segs : ∀ d ∈ ds, (d.root = 0 ∧ d.fin = 0 ∧ d.kind = 0) ∨ (d.root < d.fin ∧ d.fin ≤ ns.length)
  parts : ∀ n ∈ ns, n.a < ns.length ∧ n.b < ns.length ∧ n.c < ns.length
  decl : ∀ n ∈ ns, n.kind = 2 → -1 ≤ n.decl ∧ n.decl < (ds.length : Int)
  kind : ∀ n ∈ ns, n.kind ≤ 6
  place : ∀ d ∈ ds, d.place < 4
  later : ∀ i (h : i < ns.length), ((ns[i]'h).kind = 3 → i < (ns[i]'h).a) ∧ ((ns[i]'h).kind = 4 → i < (ns[i]'h).a ∧ (ns[i]'h).a < (ns[i]'h).b ∧ (ns[i]'h).b < (ns[i]'h).c) ∧ ((ns[i]'h).kind = 5 ∨ (ns[i]'h).kind = 6 → i < (ns[i]'h).a ∧ (ns[i]'h).a < (ns[i]'h).b)

end Go.Proofs.YtmndgoapkmhglaaDoor

/- Plain mathematics: links, and places that wait for each other. -/
namespace Go.Proofs.YtmndgoapkmhglaaDoor

def usesSeg (decl : Nat) : List Nd → Bool → Bool → Bool × Bool
  | [], u, p => (u, p)
  | n :: r, u, p => if n.kind = 2 ∧ n.decl = (decl : Int) then usesSeg decl r true (p || !n.behind) else usesSeg decl r u p
def usesAll (ns : List Nd) (decl place : Nat) : List Dc → Bool → Bool → Bool × Bool
  | [], u, p => (u, p)
  | d :: r, u, p => if d.kind = 0 ∨ d.place ≠ place then usesAll ns decl place r u p
      else usesAll ns decl place r (usesSeg decl (seg ns d.root d.fin) u p).1 (usesSeg decl (seg ns d.root d.fin) u p).2
def usesF (ds : List Dc) (ns : List Nd) (decl place : Nat) : Bool × Bool := usesAll ns decl place ds false false

structure Rt where
  src : Nat
  dst : Nat
  late : Bool

def linkAt (ds : List Dc) (ns : List Nd) (i : Nat) (d : Dc) (q : Nat) : List Rt :=
  if (usesF ds ns i q).1 = true ∧ q ≠ d.place then [⟨d.number, q, !(usesF ds ns i q).2⟩] else []
def linksTo (ds : List Dc) (ns : List Nd) (i : Nat) (d : Dc) : Nat → List Rt
  | 0 => []
  | q + 1 => linksTo ds ns i d q ++ linkAt ds ns i d q
/-- the links of the declarations from k on. -/
def linksFrom (ds : List Dc) (ns : List Nd) : Nat → List Dc → List Rt
  | _, [] => []
  | i, d :: r => (if d.kind = 0 then [] else linksTo ds ns i d 4) ++ linksFrom ds ns (i + 1) r
def linksF (ds : List Dc) (ns : List Nd) : List Rt := linksFrom ds ns 0 ds

def eqsF (ds : List Dc) : List Dc := ds.filter fun d => d.kind != 0
def waitsM (es : List Dc) : List Rt → Mx → Mx
  | [], M => M
  | r :: l, M => waitsM es l (if r.late = true then M else upd M r.dst (es.getD r.src ⟨0, 0, ⟨#[]⟩, 0, 0, 0, 0⟩).place true)
def firstAt (M : Mx) : List Dc → Option Nat
  | [] => none
  | d :: r => if M d.place d.place then some d.pos else firstAt M r
def loopF (ds : List Dc) (ns : List Nd) : Option Nat := firstAt (warsh (waitsM (eqsF ds) (linksF ds ns) noM) 4) (eqsF ds)

theorem linksTo_len (ds : List Dc) (ns : List Nd) (i : Nat) (d : Dc) : ∀ q, (linksTo ds ns i d q).length ≤ q := by
  intro q
  induction q with
  | zero => simp [linksTo]
  | succ q ih =>
    simp only [linksTo, List.length_append, linkAt]
    split <;> simp <;> omega

end Go.Proofs.YtmndgoapkmhglaaDoor

/- Plain mathematics: what the program answers of a text. -/
namespace Go.Proofs.YtmndgoapkmhglaaDoor

def meaningF (ds : List Dc) (ns : List Nd) : Nat × Nat :=
  match tooManyF ds with
  | some a => (3, a)
  | none => match badNameF ds ns 0 ds with
    | some a => (4, a)
    | none => match badTypeF ds 0 ns (roots ds (List.replicate ns.length false)) with
      | some a => (5, a)
      | none => match cycleF ds ns with
        | some a => (6, a)
        | none => match loopF ds ns with
          | some a => (7, a)
          | none => (0, 0)

structure Good (ds : List Dc) (ns : List Nd) : Prop where
  wf : ProgWf ds ns
  names : badNameF ds ns 0 ds = none → ∀ n ∈ ns, n.kind = 2 → 0 ≤ n.decl
  links : ∀ r ∈ linksF ds ns, r.src < (eqsF ds).length ∧ r.dst < 4
  many : (linksF ds ns).length ≤ 6100

/-- the nodes with their names bound. -/
def boundN (p : PS) : List Nd := p.nodes.map (bindF p.decls)

/-- the error and the place. -/
def textF (s : ByteArray) : Nat × Nat :=
  if 1500 < s.size then (1, 0)
  else match parseF s with
    | .error k => (2, (tkAt (toks s) k).pos)
    | .ok p => meaningF p.decls (boundN p)

end Go.Proofs.YtmndgoapkmhglaaDoor

/- Plain mathematics: what the parser lets through is as the judge asks. -/
namespace Go.Proofs.YtmndgoapkmhglaaDoor

structure NdOk (N i : Nat) (n : Nd) : Prop where
  kind : n.kind ≤ 6
  a : n.a < N
  b : n.b < N
  c : n.c < N
  k3 : n.kind = 3 → i < n.a
  k4 : n.kind = 4 → i < n.a ∧ n.a < n.b ∧ n.b < n.c
  k5 : n.kind = 5 ∨ n.kind = 6 → i < n.a ∧ n.a < n.b

theorem NdOk.mono {N M i : Nat} {n : Nd} (h : NdOk N i n) (hm : N ≤ M) : NdOk M i n :=
  ⟨h.kind, Nat.lt_of_lt_of_le h.a hm, Nat.lt_of_lt_of_le h.b hm, Nat.lt_of_lt_of_le h.c hm, h.k3, h.k4, h.k5⟩

def NInv (ns : List Nd) : Prop := ∀ (i : Nat) (n : Nd), ns[i]? = some n → NdOk ns.length i n

structure Grow (p p' : PS) : Prop where
  decls : p'.decls = p.decls
  nodes : ∃ l, p'.nodes = p.nodes ++ l
  inv : NInv p.nodes → NInv p'.nodes

theorem Grow.refl (p : PS) : Grow p p := ⟨rfl, ⟨[], by simp⟩, fun h => h⟩
theorem Grow.trans {p q r : PS} (h : Grow p q) (k : Grow q r) : Grow p r := by
  obtain ⟨l, hl⟩ := h.nodes
  obtain ⟨m, hm⟩ := k.nodes
  exact ⟨k.decls.trans h.decls, ⟨l ++ m, by rw [hm, hl, List.append_assoc]⟩, fun x => k.inv (h.inv x)⟩
theorem Grow.of {p q : PS} (h1 : q.decls = p.decls) (h2 : q.nodes = p.nodes) : Grow p q := ⟨h1, ⟨[], by simp [h2]⟩, fun h => by rw [h2]; exact h⟩
theorem Grow.adv (ts : List Tk) (p : PS) : Grow p (p.adv ts) := Grow.of (by simp) (by simp)
theorem Grow.len {p q : PS} (h : Grow p q) : p.nodes.length ≤ q.nodes.length := by
  obtain ⟨l, hl⟩ := h.nodes; rw [hl]; simp

theorem NInv.push {ns : List Nd} {n : Nd} (h : NInv ns) (hn : NdOk (ns.length + 1) ns.length n) : NInv (ns ++ [n]) := by
  intro i m hm
  rw [List.length_append, List.length_singleton]
  rw [List.getElem?_append] at hm
  split at hm
  · exact (h i m hm).mono (by omega)
  · rename_i hi
    cases e : i - ns.length with
    | zero =>
      rw [e] at hm
      cases hm
      have : i = ns.length := by omega
      subst this
      exact hn
    | succ j => rw [e] at hm; simp at hm

theorem take_grow {ts : List Tk} {p p' : PS} {l : List UInt8} (h : p.take ts l = .ok p') : p' = p.adv ts ∧ (p.hd ts).l = l := by
  unfold PS.take at h
  split at h
  · rename_i hl; cases h; exact ⟨rfl, hl⟩
  · cases h

def ExN (ex : Ex) : Prop := ∀ p r p', ex p = .ok (r, p') → Grow p p' ∧ r = p.nodes.length ∧ r < p'.nodes.length

theorem insideN {ts : List Tk} {ex : Ex} (hx : ExN ex) {p p' : PS} {n n' : Nd} {i : Nat} (hi : i < p.nodes.length) (h0 : n.b = 0) (h1 : n.c = 0) (he : insideF ts ex p n = .ok (n', p')) :
    Grow p p' ∧ NdOk p'.nodes.length i n' := by
  unfold insideF at he
  split at he
  · unfold notF at he
    split at he
    · cases he
    · rename_i a p1 e1
      cases he
      obtain ⟨g1, ha, hb⟩ := hx _ _ _ e1
      rw [adv_nodes] at ha
      have := g1.len
      rw [adv_nodes] at this
      exact ⟨(Grow.adv ts p).trans g1, ⟨by simp, hb, by show n.b < _; omega, by show n.c < _; omega, fun _ => by show i < a; omega, fun h => by simp at h, fun h => by simp at h⟩⟩
  split at he
  · unfold choiceF at he
    split at he
    · cases he
    · rename_i a p1 e1
      obtain ⟨g1, ha, hla⟩ := hx _ _ _ e1
      rw [adv_nodes] at ha
      split at he
      · cases he
      · rename_i b p2 e2
        obtain ⟨g2, hb, hlb⟩ := hx _ _ _ e2
        split at he
        · cases he
        · rename_i c p3 e3
          obtain ⟨g3, hc, hlc⟩ := hx _ _ _ e3
          cases he
          have l1 := g1.len
          have l2 := g2.len
          have l3 := g3.len
          rw [adv_nodes] at l1
          exact ⟨(((Grow.adv ts p).trans g1).trans g2).trans g3, ⟨by simp, by show a < _; omega, by show b < _; omega, by show c < _; omega, fun h => by simp at h, fun _ => ⟨by show i < a; omega, by show a < b; omega, by show b < c; omega⟩, fun h => by simp at h⟩⟩
  · unfold infixF at he
    split at he
    · cases he
    · rename_i a p1 e1
      obtain ⟨g1, ha, hla⟩ := hx _ _ _ e1
      have l1 := g1.len
      split at he
      · unfold delayF at he
        split at he
        · cases he
        · rename_i b p2 e2
          obtain ⟨g2, hb, hlb⟩ := hx _ _ _ e2
          cases he
          have hb' : b = p1.nodes.length := by rw [hb]; show (p1.adv ts).nodes.length = _; rw [adv_nodes]
          have g : Grow p1 { p1.adv ts with delays := (p1.adv ts).delays + 1 } := Grow.of (by simp) (by simp)
          refine ⟨((g1.trans g).trans g2).trans (Grow.of rfl rfl), ⟨by simp, by show a < p2.nodes.length; omega, by show b < p2.nodes.length; omega, by show n.c < p2.nodes.length; omega, fun h => by simp at h, fun h => by simp at h, fun _ => ⟨by show i < a; omega, by show a < b; omega⟩⟩⟩
      · unfold infixRest at he
        split at he
        · cases he
        · rename_i op ho
          split at he
          · cases he
          · rename_i b p2 e2
            obtain ⟨g2, hb, hlb⟩ := hx _ _ _ e2
            cases he
            rw [adv_nodes] at hb
            refine ⟨(g1.trans (Grow.adv ts p1)).trans g2, ⟨by simp, by show a < _; omega, by show b < _; omega, by show n.c < _; omega, fun h => by simp at h, fun h => by simp at h, fun _ => ⟨by show i < a; omega, by show a < b; omega⟩⟩⟩

theorem leafN (ts : List Tk) (p : PS) (n : Nd) (hk : n.kind ≤ 2) (ha : n.a = 0) (hb : n.b = 0) (hc : n.c = 0) :
    Grow p (leafF ts p n).2 ∧ (leafF ts p n).1 = p.nodes.length ∧ (leafF ts p n).1 < (leafF ts p n).2.nodes.length := by
  unfold leafF
  refine ⟨?_, rfl, by simp [PS.add]⟩
  refine Grow.trans (q := p.add ts n) ⟨rfl, ⟨_, rfl⟩, fun h => ?_⟩ (Grow.adv ts _)
  refine NInv.push h ⟨by show n.kind ≤ 6; omega, by show n.a < _; omega, by show n.b < _; omega, by show n.c < _; omega, fun h => ?_, fun h => ?_, fun h => ?_⟩
  · have : n.kind = 3 := h
    omega
  · have : n.kind = 4 := h
    omega
  · have : n.kind = 5 ∨ n.kind = 6 := h
    omega

theorem bracketN {ts : List Tk} {ex : Ex} (hx : ExN ex) {p p' : PS} {r : Nat} (he : bracketF ts ex p = .ok (r, p')) : Grow p p' ∧ r = p.nodes.length ∧ r < p'.nodes.length := by
  unfold bracketF at he
  split at he
  · cases he
  · rename_i n p2 e2
    have hnd : (p.add ts ndZero).nodes.getD p.nodes.length ndZero = { ndZero with pos := (p.hd ts).pos, delayed := decide (0 < p.delays), behind := decide (0 < p.next) && ((tkAt ts (p.next - 1)).l == kFby) } := by
      simp [PS.add]
    have hlen1 : ({ (p.add ts ndZero).adv ts with depth := p.depth + 1 } : PS).nodes.length = p.nodes.length + 1 := by simp [PS.add]
    obtain ⟨g2, hn⟩ := insideN hx (i := p.nodes.length) (by rw [hlen1]; omega) (by rw [hnd]; rfl) (by rw [hnd]; rfl) e2
    split at he
    · cases he
    · rename_i p3 e3
      obtain ⟨rfl, _⟩ := take_grow e3
      cases he
      obtain ⟨l, hl⟩ := g2.nodes
      have hl2 := g2.len
      rw [hlen1] at hl2
      refine ⟨?_, rfl, by simp; omega⟩
      refine Grow.trans ⟨?_, ?_, ?_⟩ (Grow.adv ts _)
      · show p2.decls = _; rw [g2.decls]; simp [PS.add]
      · refine ⟨n :: l, ?_⟩
        show p2.nodes.set p.nodes.length n = _
        rw [hl]
        simp [PS.add]
      · intro h
        have h2 := g2.inv (by
          show NInv ((p.add ts ndZero).adv ts).nodes
          rw [adv_nodes]
          exact NInv.push h ⟨by show (0:Nat) ≤ 6; omega, by show (0:Nat) < _; omega, by show (0:Nat) < _; omega, by show (0:Nat) < _; omega, fun h => (by cases h), fun h => (by cases h), fun h => (by rcases h with h | h <;> cases h)⟩)
        intro i m hm
        have hm' : (p2.nodes.set p.nodes.length n)[i]? = some m := hm
        show NdOk (p2.nodes.set p.nodes.length n).length i m
        rw [List.length_set]
        rw [List.getElem?_set] at hm'
        split at hm'
        · split at hm'
          · rename_i e _
            cases hm'
            subst e
            exact hn
          · cases hm'
        · exact h2 i m hm'

theorem exprN (ts : List Tk) : ∀ f, ExN (exprF ts f) := by
  have hatom : ∀ (p : PS) (br : Except Nat (Nat × PS)) (r : Nat) (p' : PS), (∀ r p', br = .ok (r, p') → Grow p p' ∧ r = p.nodes.length ∧ r < p'.nodes.length) → atomF ts p br = .ok (r, p') → Grow p p' ∧ r = p.nodes.length ∧ r < p'.nodes.length := by
    intro p br r p' hbr he
    unfold atomF at he
    split at he
    · exact hbr _ _ he
    split at he
    · cases he; exact leafN ts p _ (by simp) rfl rfl rfl
    split at he
    · cases he; exact leafN ts p _ (by simp) rfl rfl rfl
    split at he
    · cases he; exact leafN ts p _ (by simp) rfl rfl rfl
    split at he
    · cases he; exact leafN ts p _ (by simp) rfl rfl rfl
    · cases he
  intro f
  induction f with
  | zero => intro p r p' he; exact hatom p _ r p' (fun _ _ h => by cases h) he
  | succ f ih => intro p r p' he; exact hatom p _ r p' (fun _ _ h => bracketN ih h) he

/-- what holds of the declarations and nodes between two declarations. -/
structure DInv (p : PS) : Prop where
  nodes : NInv p.nodes
  segs : ∀ d ∈ p.decls, (d.root = 0 ∧ d.fin = 0 ∧ d.kind = 0) ∨ (d.root < d.fin ∧ d.fin ≤ p.nodes.length)
  place : ∀ d ∈ p.decls, d.place < 4
  number : ∀ d ∈ p.decls, d.kind ≠ 0 → d.number < (eqsF p.decls).length
  cover : ∀ i, i < p.nodes.length → ∃ d ∈ p.decls, d.root ≤ i ∧ i < d.fin

theorem DInv.start : DInv pZero :=
  ⟨fun i n h => (by simp [pZero] at h), fun d h => (by simp [pZero] at h), fun d h => (by simp [pZero] at h), fun d h => (by simp [pZero] at h), fun i h => (by simp [pZero] at h)⟩

theorem DInv.of {p q : PS} (h : DInv p) (h1 : q.decls = p.decls) (h2 : q.nodes = p.nodes) : DInv q := by
  obtain ⟨a, b, c, d, e⟩ := h
  exact ⟨by rw [h2]; exact a, by rw [h1, h2]; exact b, by rw [h1]; exact c, by rw [h1]; exact d, by rw [h1, h2]; exact e⟩

theorem sameSort_eqs (d : Dc) (l : List Dc) (hk : d.kind ≠ 0) : sameSort d l = (eqsF l).length := by
  unfold sameSort eqsF
  congr 1
  apply List.filter_congr
  intro a _
  have : (d.kind == 0) = false := by simpa using hk
  rw [this]
  cases h : (a.kind == 0) <;> simp [bne, h]

theorem declareInv {p p1 : PS} {d : Dc} (h : DInv p) (g : Grow p p1) (h0 : d.number = 0) (hp : d.place < 4)
    (hk : (d.kind = 0 ∧ d.root = 0 ∧ d.fin = 0 ∧ p1.nodes = p.nodes) ∨ (d.kind ≠ 0 ∧ d.root = p.nodes.length ∧ d.fin = p1.nodes.length ∧ d.root < d.fin)) : DInv (p1.declare d) := by
  have hlen := g.len
  have hds : p1.decls = p.decls := g.decls
  have hmem : ∀ e, e ∈ (p1.declare d).decls → e ∈ p.decls ∨ e = { d with number := d.number + sameSort d p1.decls } := by
    intro e he
    unfold PS.declare at he
    rw [← hds]
    simpa using he
  have heq : (eqsF (p1.declare d).decls).length = (eqsF p.decls).length + (if d.kind = 0 then 0 else 1) := by
    unfold PS.declare eqsF
    simp only [List.filter_append, List.length_append, hds]
    congr 1
    by_cases hz : d.kind = 0
    · simp [hz]
    · simp [hz]
  refine ⟨g.inv h.nodes, ?_, ?_, ?_, ?_⟩
  · intro e he
    show _ ∨ (_ ∧ e.fin ≤ p1.nodes.length)
    rcases hmem e he with he | rfl
    · rcases h.segs e he with h1 | ⟨h1, h2⟩
      · exact .inl h1
      · exact .inr ⟨h1, Nat.le_trans h2 hlen⟩
    · rcases hk with ⟨k1, k2, k3, _⟩ | ⟨k1, k2, k3, k4⟩
      · exact .inl ⟨k2, k3, k1⟩
      · exact .inr ⟨k4, Nat.le_of_eq k3⟩
  · intro e he
    rcases hmem e he with he | rfl
    · exact h.place e he
    · exact hp
  · intro e he hke
    rw [heq]
    rcases hmem e he with he | rfl
    · have := h.number e he hke; omega
    · show d.number + sameSort d p1.decls < _
      have hkd : d.kind ≠ 0 := hke
      rw [sameSort_eqs d _ hkd, hds, h0, if_neg hkd]; omega
  · intro i hi
    have hi' : i < p1.nodes.length := hi
    have hin : ∀ e, e ∈ p.decls → e ∈ (p1.declare d).decls := by intro e he; unfold PS.declare; simp [hds, he]
    rcases hk with ⟨_, _, _, k4⟩ | ⟨k1, k2, k3, k4⟩
    · rw [k4] at hi'
      obtain ⟨e, he, h1, h2⟩ := h.cover i hi'
      exact ⟨e, hin e he, h1, h2⟩
    · by_cases hc : i < p.nodes.length
      · obtain ⟨e, he, h1, h2⟩ := h.cover i hc
        exact ⟨e, hin e he, h1, h2⟩
      · exact ⟨{ d with number := d.number + sameSort d p1.decls }, by unfold PS.declare; simp, by show d.root ≤ i; omega, by show i < d.fin; omega⟩

theorem declarationInv {ts : List Tk} {p p' : PS} (h : DInv p) (he : declarationF ts p = .ok p') : DInv p' := by
  have inp : inputF ts p = .ok p' → DInv p' := by
    intro he
    unfold inputF at he
    split at he
    · obtain ⟨rfl, _⟩ := take_grow he
      refine DInv.of ?_ (adv_decls ts _) (adv_nodes ts _)
      exact declareInv h ((Grow.adv ts p).trans (Grow.adv ts _)) rfl (by show (0:Nat) < 4; decide) (.inl ⟨rfl, rfl, rfl, by simp⟩)
    · cases he
  have eqn : ∀ kind, kind ≠ 0 → equationF ts kind p = .ok p' → DInv p' := by
    intro kind hk he
    unfold equationF at he
    split at he
    · split at he
      · cases he
      rename_i p1 e1
      obtain ⟨rfl, _⟩ := take_grow e1
      split at he
      · cases he
      rename_i pl p2 e2
      unfold placeF at e2
      split at e2
      · rename_i hpl
        cases e2
        split at he
        · cases he
        rename_i p3 e3
        obtain ⟨rfl, _⟩ := take_grow e3
        split at he
        · cases he
        rename_i r p4 e4
        obtain ⟨g, hr, hlt⟩ := exprN ts 16 _ _ _ e4
        obtain ⟨rfl, _⟩ := take_grow he
        have g0 : Grow p p4 := Grow.trans (Grow.of (by simp) (by simp)) g
        have hr' : r = p.nodes.length := by rw [hr]; simp
        refine DInv.of ?_ (adv_decls ts _) (adv_nodes ts _)
        exact declareInv h g0 rfl hpl.2 (.inr ⟨hk, hr', rfl, hlt⟩)
      · cases e2
    · cases he
  unfold declarationF at he
  split at he
  · exact inp he
  split at he
  · exact eqn 1 (by decide) he
  split at he
  · exact eqn 2 (by decide) he
  · cases he

theorem declsInv {ts : List Tk} : ∀ f p p', DInv p → declsF ts f p = .ok p' → DInv p' := by
  intro f
  induction f with
  | zero => intro p p' h he; cases he; exact h
  | succ f ih =>
    intro p p' h he
    unfold declsF at he
    split at he
    · cases he; exact h
    · split at he
      · cases he
      · rename_i q e1
        exact ih _ _ (declarationInv h e1) he

theorem declsWf {ts : List Tk} (ht : TsOk ts) : ∀ f p p', p.Wf ts → p.depth = 0 → declsF ts f p = .ok p' → p'.Wf ts := by
  intro f
  induction f with
  | zero => intro p p' h _ he; cases he; exact h
  | succ f ih =>
    intro p p' h h0 he
    unfold declsF at he
    split at he
    · cases he; exact h
    · split at he
      · cases he
      · rename_i q e1
        have s := declaration_step ht h h0 e1
        exact ih _ _ s.wf (s.depth.trans h0) he

theorem bindF_keep (l : List Dc) (n : Nd) : (bindF l n).kind = n.kind ∧ (bindF l n).a = n.a ∧ (bindF l n).b = n.b ∧ (bindF l n).c = n.c := by
  unfold bindF; split <;> exact ⟨rfl, rfl, rfl, rfl⟩

theorem findF_range (l : List Dc) (name : ByteArray) : -1 ≤ findF l name ∧ findF l name < (l.length : Int) := by
  unfold findF
  split
  · rename_i i h
    have := List.findIdx?_eq_some_iff_getElem.1 h
    obtain ⟨h1, _⟩ := this
    omega
  · omega

theorem badName_none {all : List Dc} {ns : List Nd} : ∀ l i, badNameF all ns i l = none → ∀ d ∈ l, badNodeF (seg ns d.root d.fin) = none := by
  intro l
  induction l with
  | nil => intro i _ d hd; simp at hd
  | cons e l ih =>
    intro i h d hd
    unfold badNameF at h
    split at h
    · cases h
    · split at h
      · cases h
      · rename_i hb
        rcases List.mem_cons.1 hd with rfl | hd
        · exact hb
        · exact ih _ h d hd

theorem badNode_none : ∀ l : List Nd, badNodeF l = none → ∀ n ∈ l, n.kind = 2 → 0 ≤ n.decl := by
  intro l
  induction l with
  | nil => intro _ n hn; simp at hn
  | cons m l ih =>
    intro h n hn hk
    unfold badNodeF at h
    split at h
    · cases h
    · rename_i hm
      rcases List.mem_cons.1 hn with rfl | hn
      · exact Int.not_lt.1 (fun hlt => hm ⟨hk, hlt⟩)
      · exact ih h n hn hk

theorem links_src {ds : List Dc} {ns : List Nd} (P : Nat → Prop) : ∀ l i, (∀ d ∈ l, d.kind ≠ 0 → P d.number) → ∀ r ∈ linksFrom ds ns i l, P r.src ∧ r.dst < 4 := by
  have hto : ∀ i d q, ∀ r ∈ linksTo ds ns i d q, r.src = d.number ∧ r.dst < q := by
    intro i d q
    induction q with
    | zero => intro r hr; simp [linksTo] at hr
    | succ q ih =>
      intro r hr
      simp only [linksTo, List.mem_append] at hr
      rcases hr with hr | hr
      · have := ih r hr; exact ⟨this.1, by omega⟩
      · unfold linkAt at hr
        split at hr
        · simp at hr; subst hr; exact ⟨rfl, Nat.lt_succ_self _⟩
        · simp at hr
  intro l
  induction l with
  | nil => intro i _ r hr; simp [linksFrom] at hr
  | cons d l ih =>
    intro i h r hr
    simp only [linksFrom, List.mem_append] at hr
    rcases hr with hr | hr
    · split at hr
      · simp at hr
      · rename_i hk
        obtain ⟨h1, h2⟩ := hto i d 4 r hr
        exact ⟨by rw [h1]; exact h d (List.mem_cons_self ..) hk, h2⟩
    · exact ih (i + 1) (fun e he => h e (List.mem_cons_of_mem _ he)) r hr

theorem links_len {ds : List Dc} {ns : List Nd} : ∀ l i, (linksFrom ds ns i l).length ≤ 4 * l.length := by
  intro l
  induction l with
  | nil => intro i; simp [linksFrom]
  | cons d l ih =>
    intro i
    simp only [linksFrom, List.length_append, List.length_cons]
    have := ih (i + 1)
    have := linksTo_len ds ns i d 4
    split
    · simp; omega
    · omega

theorem good_parse (s : ByteArray) (hs : s.size ≤ 1500) (p : PS) (h : parseF s = .ok p) : Good p.decls (boundN p) := by
  have ht := toks_ok s hs
  have hi := declsInv _ _ _ DInv.start h
  have hw := declsWf ht _ _ _ (pZero_wf ht) rfl h
  have hl := ht.1
  have hn := hw.next
  have hnn := hw.nodes
  have hnd := hw.decls
  have hbl : (boundN p).length = p.nodes.length := by simp [boundN]
  have hget : ∀ i (hi' : i < (boundN p).length), ∃ m, p.nodes[i]? = some m ∧ (boundN p)[i]'hi' = bindF p.decls m := by
    intro i hi'
    have : i < p.nodes.length := by rw [← hbl]; exact hi'
    exact ⟨p.nodes[i]'this, by simp [this], by simp [boundN]⟩
  have hmem : ∀ n ∈ boundN p, ∃ (i : Nat) (m : Nd), p.nodes[i]? = some m ∧ n = bindF p.decls m := by
    intro n hn
    obtain ⟨i, hi', rfl⟩ := List.getElem_of_mem hn
    obtain ⟨m, h1, h2⟩ := hget i hi'
    exact ⟨i, m, h1, h2⟩
  refine ⟨⟨by omega, by omega, ?_, ?_, ?_, ?_, hi.place, ?_⟩, ?_, ?_, ?_⟩
  · rw [hbl]; exact hi.segs
  · intro n hn
    obtain ⟨i, m, h1, rfl⟩ := hmem n hn
    obtain ⟨_, e2, e3, e4⟩ := bindF_keep p.decls m
    have := hi.nodes i m h1
    rw [hbl, e2, e3, e4]
    exact ⟨this.a, this.b, this.c⟩
  · intro n hn hk
    obtain ⟨i, m, h1, rfl⟩ := hmem n hn
    have hk' : m.kind = 2 := by rw [← (bindF_keep p.decls m).1]; exact hk
    unfold bindF
    rw [if_pos hk']
    exact findF_range _ _
  · intro n hn
    obtain ⟨i, m, h1, rfl⟩ := hmem n hn
    rw [(bindF_keep p.decls m).1]
    exact (hi.nodes i m h1).kind
  · intro i hi'
    obtain ⟨m, h1, h2⟩ := hget i hi'
    obtain ⟨e1, e2, e3, e4⟩ := bindF_keep p.decls m
    rw [h2, e1, e2, e3, e4]
    have := hi.nodes i m h1
    exact ⟨this.k3, this.k4, this.k5⟩
  · intro hb n hn hk
    obtain ⟨i, hi', rfl⟩ := List.getElem_of_mem hn
    obtain ⟨d, hd, h1, h2⟩ := hi.cover i (by rw [← hbl]; exact hi')
    refine badNode_none _ (badName_none _ _ hb d hd) _ ?_ hk
    unfold seg
    refine List.mem_iff_getElem.2 ⟨i - d.root, ?_, ?_⟩
    · simp; omega
    · simp [Nat.add_sub_cancel' h1]
  · intro r hr
    exact links_src (fun k => k < (eqsF p.decls).length) _ _ (fun d hd hk => hi.number d hd hk) r hr
  · have := links_len (ds := p.decls) (ns := boundN p) p.decls 0
    show (linksFrom p.decls (boundN p) 0 p.decls).length ≤ 6100
    omega

end Go.Proofs.YtmndgoapkmhglaaDoor

/- Plain mathematics: texts whose tokens are alike are judged alike. -/
namespace Go.Proofs.YtmndgoapkmhglaaDoor

def All2 {α β : Type} (R : α → β → Prop) : List α → List β → Prop
  | [], [] => True
  | a :: l, b :: m => R a b ∧ All2 R l m
  | _, _ => False

theorem All2.len {α β : Type} {R : α → β → Prop} : ∀ {l : List α} {m : List β}, All2 R l m → m.length = l.length := by
  intro l
  induction l with
  | nil => intro m h; cases m with
    | nil => rfl
    | cons b m => exact h.elim
  | cons a l ih => intro m h; cases m with
    | nil => exact h.elim
    | cons b m => simp [ih h.2]

theorem All2.app {α β : Type} {R : α → β → Prop} : ∀ {l : List α} {m : List β} {l' : List α} {m' : List β}, All2 R l m → All2 R l' m' → All2 R (l ++ l') (m ++ m') := by
  intro l
  induction l with
  | nil => intro m l' m' h h'; cases m with
    | nil => exact h'
    | cons b m => exact h.elim
  | cons a l ih => intro m l' m' h h'; cases m with
    | nil => exact h.elim
    | cons b m => exact ⟨h.1, ih h.2 h'⟩

theorem All2.set {α β : Type} {R : α → β → Prop} {a : α} {b : β} (hr : R a b) : ∀ {l : List α} {m : List β} (i : Nat), All2 R l m → All2 R (l.set i a) (m.set i b) := by
  intro l
  induction l with
  | nil => intro m i h; cases m with
    | nil => simpa using h
    | cons b m => exact h.elim
  | cons c l ih => intro m i h; cases m with
    | nil => exact h.elim
    | cons d m => cases i with
      | zero => exact ⟨hr, h.2⟩
      | succ i => exact ⟨h.1, ih i h.2⟩

theorem All2.getD {α β : Type} {R : α → β → Prop} {a : α} {b : β} (hr : R a b) : ∀ {l : List α} {m : List β} (i : Nat), All2 R l m → R (l.getD i a) (m.getD i b) := by
  intro l
  induction l with
  | nil => intro m i h; cases m with
    | nil => simpa using hr
    | cons b m => exact h.elim
  | cons c l ih => intro m i h; cases m with
    | nil => exact h.elim
    | cons d m => cases i with
      | zero => exact h.1
      | succ i => simpa using ih i h.2

theorem All2.take {α β : Type} {R : α → β → Prop} : ∀ {l : List α} {m : List β} (i : Nat), All2 R l m → All2 R (l.take i) (m.take i) := by
  intro l
  induction l with
  | nil => intro m i h; cases m with
    | nil => simpa using h
    | cons b m => exact h.elim
  | cons c l ih => intro m i h; cases m with
    | nil => exact h.elim
    | cons d m => cases i with
      | zero => exact trivial
      | succ i => exact ⟨h.1, ih i h.2⟩

theorem All2.drop {α β : Type} {R : α → β → Prop} : ∀ {l : List α} {m : List β} (i : Nat), All2 R l m → All2 R (l.drop i) (m.drop i) := by
  intro l
  induction l with
  | nil => intro m i h; cases m with
    | nil => simpa using h
    | cons b m => exact h.elim
  | cons c l ih => intro m i h; cases m with
    | nil => exact h.elim
    | cons d m => cases i with
      | zero => exact h
      | succ i => exact ih i h.2

theorem All2.filter {α β : Type} {R : α → β → Prop} {f : α → Bool} {g : β → Bool} (hfg : ∀ a b, R a b → g b = f a) : ∀ {l : List α} {m : List β}, All2 R l m → All2 R (l.filter f) (m.filter g) := by
  intro l
  induction l with
  | nil => intro m h; cases m with
    | nil => exact h
    | cons b m => exact h.elim
  | cons c l ih => intro m h; cases m with
    | nil => exact h.elim
    | cons d m =>
      rw [List.filter_cons, List.filter_cons, hfg c d h.1]
      split
      · exact ⟨h.1, ih h.2⟩
      · exact ih h.2

theorem All2.map {α β γ δ : Type} {R : α → β → Prop} {S : γ → δ → Prop} {f : α → γ} {g : β → δ} (hfg : ∀ a b, R a b → S (f a) (g b)) : ∀ {l : List α} {m : List β}, All2 R l m → All2 S (l.map f) (m.map g) := by
  intro l
  induction l with
  | nil => intro m h; cases m with
    | nil => exact h
    | cons b m => exact h.elim
  | cons c l ih => intro m h; cases m with
    | nil => exact h.elim
    | cons d m => exact ⟨hfg c d h.1, ih h.2⟩

/-- alike: all but the place in the text. -/
structure TR (P : Nat → Nat → Prop) (t t' : Tk) : Prop where
  kind : t'.kind = t.kind
  pos : P t.pos t'.pos
  val : t.kind = 3 → valOf t'.l = valOf t.l
  dig : t.kind = 3 → (∀ c ∈ t.l, 48 ≤ c.toNat ∧ c.toNat ≤ 57) ∧ (∀ c ∈ t'.l, 48 ≤ c.toNat ∧ c.toNat ≤ 57)
  text : t.kind ≠ 3 → t'.text = t.text

def NR (P : Nat → Nat → Prop) (n n' : Nd) : Prop := n' = { n with pos := n'.pos } ∧ P n.pos n'.pos
def DR (P : Nat → Nat → Prop) (d d' : Dc) : Prop := d' = { d with pos := d'.pos } ∧ P d.pos d'.pos

/-- a word that is no number. -/
def wordL (l : List UInt8) : Bool := l.any fun c => decide (c.toNat < 48) || decide (57 < c.toNat)

theorem TR.same {P : Nat → Nat → Prop} {t t' : Tk} (h : TR P t t') {l : List UInt8} (hl : wordL l = true) : (t'.l = l) = (t.l = l) := by
  by_cases hk : t.kind = 3
  · obtain ⟨h1, h2⟩ := h.dig hk
    have no : ∀ m : List UInt8, (∀ c ∈ m, 48 ≤ c.toNat ∧ c.toNat ≤ 57) → m ≠ l := by
      intro m hm e
      subst e
      unfold wordL at hl
      rw [List.any_eq_true] at hl
      obtain ⟨c, hc, hd⟩ := hl
      have := hm c hc
      simp at hd
      omega
    exact propext ⟨fun e => absurd e (no _ h2), fun e => absurd e (no _ h1)⟩
  · unfold Tk.l
    rw [h.text hk]

theorem TR.op {P : Nat → Nat → Prop} {t t' : Tk} (h : TR P t t') : opOf t'.l = opOf t.l := by
  unfold opOf
  simp only [h.same (l := [43]) (by decide), h.same (l := [45]) (by decide), h.same (l := [42]) (by decide), h.same (l := [47]) (by decide), h.same (l := [60]) (by decide), h.same (l := [61]) (by decide), h.same (l := [38]) (by decide), h.same (l := [124]) (by decide)]

structure TsR (P : Nat → Nat → Prop) (ts ts' : List Tk) : Prop where
  len : ts'.length = ts.length
  at' : ∀ i, TR P (tkAt ts i) (tkAt ts' i)

structure SR (P : Nat → Nat → Prop) (p p' : PS) : Prop where
  next : p'.next = p.next
  depth : p'.depth = p.depth
  delays : p'.delays = p.delays
  decls : All2 (DR P) p.decls p'.decls
  nodes : All2 (NR P) p.nodes p'.nodes

def RR {α β : Type} (R : α → β → Prop) : Except Nat α → Except Nat β → Prop
  | .ok a, .ok b => R a b
  | .error j, .error k => k = j
  | _, _ => False

theorem RR.two {α β : Type} {R : α → β → Prop} {x : Except Nat α} {y : Except Nat β} (h : RR R x y) : (∃ e, x = .error e ∧ y = .error e) ∨ (∃ a b, x = .ok a ∧ y = .ok b ∧ R a b) := by
  cases x with
  | error e => cases y with
    | error f => exact .inl ⟨e, rfl, by rw [show f = e from h]⟩
    | ok b => exact h.elim
  | ok a => cases y with
    | error f => exact h.elim
    | ok b => exact .inr ⟨a, b, rfl, rfl, h⟩

theorem SR.hd {P : Nat → Nat → Prop} {ts ts' : List Tk} {p p' : PS} (ht : TsR P ts ts') (h : SR P p p') : TR P (p.hd ts) (p'.hd ts') := by
  unfold PS.hd; rw [h.next]; exact ht.at' _
theorem SR.adv {P : Nat → Nat → Prop} {ts ts' : List Tk} {p p' : PS} (ht : TsR P ts ts') (h : SR P p p') : SR P (p.adv ts) (p'.adv ts') := by
  unfold PS.adv
  rw [h.next, ht.len]
  split
  · exact ⟨by simp, h.depth, h.delays, h.decls, h.nodes⟩
  · exact h
theorem SR.take {P : Nat → Nat → Prop} {ts ts' : List Tk} {p p' : PS} (ht : TsR P ts ts') (h : SR P p p') {l : List UInt8} (hl : wordL l = true) : RR (SR P) (p.take ts l) (p'.take ts' l) := by
  unfold PS.take
  simp only [(h.hd ht).same hl]
  split
  · exact h.adv ht
  · exact h.next

def ERes (P : Nat → Nat → Prop) (x y : Nat × PS) : Prop := y.1 = x.1 ∧ SR P x.2 y.2
def NRes (P : Nat → Nat → Prop) (x y : Nd × PS) : Prop := NR P x.1 y.1 ∧ SR P x.2 y.2
def ExR (P : Nat → Nat → Prop) (ex ex' : Ex) : Prop := ∀ p p', SR P p p' → RR (ERes P) (ex p) (ex' p')

theorem SR.add {P : Nat → Nat → Prop} {ts ts' : List Tk} {p p' : PS} (ht : TsR P ts ts') (h : SR P p p') (n : Nd) : SR P (p.add ts n) (p'.add ts' n) := by
  refine ⟨h.next, h.depth, h.delays, h.decls, h.nodes.app ⟨⟨?_, (h.hd ht).pos⟩, trivial⟩⟩
  have hb : ((tkAt ts' (p'.next - 1)).l == kFby) = ((tkAt ts (p.next - 1)).l == kFby) := by
    rw [h.next]
    have := (ht.at' (p.next - 1)).same (l := kFby) (by decide)
    rw [Bool.eq_iff_iff]
    simp [this]
  rw [hb, h.next, h.delays]

theorem insideR {P : Nat → Nat → Prop} {ts ts' : List Tk} (ht : TsR P ts ts') {ex ex' : Ex} (hx : ExR P ex ex') {p p' : PS} {n n' : Nd} (h : SR P p p') (hn : NR P n n') : RR (NRes P) (insideF ts ex p n) (insideF ts' ex' p' n') := by
  have hh := h.hd ht
  have hlit : ∀ (q q' : PS) (a : Nat), SR P q q' → (P 0 0 → True) → isLit (q'.nodes.getD a ndZero) = isLit (q.nodes.getD a ndZero) := by
    intro q q' a hq _
    have hkind := All2.getD (R := fun n n' : Nd => n'.kind = n.kind) (a := ndZero) (b := ndZero) rfl a (by
      have := All2.map (f := id) (g := id) (S := fun n n' : Nd => n'.kind = n.kind) (fun a b hab => by
        have e := hab.1
        show b.kind = a.kind
        rw [e]) hq.nodes
      simpa using this)
    unfold isLit
    rw [hkind]
  unfold insideF
  simp only [hh.same (l := kNot) (by decide), hh.same (l := kIf) (by decide)]
  split
  · unfold notF
    rcases (hx _ _ (h.adv ht)).two with ⟨e, h1, h2⟩ | ⟨⟨a, p1⟩, ⟨a', p1'⟩, h1, h2, rfl, s1⟩
    · rw [h1, h2]; rfl
    · rw [h1, h2]
      refine ⟨⟨?_, hn.2⟩, s1⟩
      show ({ n' with kind := 3, a := a' } : Nd) = _
      rw [hn.1]
  split
  · unfold choiceF
    rcases (hx _ _ (h.adv ht)).two with ⟨e, h1, h2⟩ | ⟨⟨a, p1⟩, ⟨a', p1'⟩, h1, h2, ra, s1⟩
    · rw [h1, h2]; rfl
    · rw [h1, h2]
      simp only
      rcases (hx _ _ s1).two with ⟨e, h1, h2⟩ | ⟨⟨b, p2⟩, ⟨b', p2'⟩, h1, h2, rb, s2⟩
      · rw [h1, h2]; rfl
      · rw [h1, h2]
        simp only
        rcases (hx _ _ s2).two with ⟨e, h1, h2⟩ | ⟨⟨c, p3⟩, ⟨c', p3'⟩, h1, h2, rc, s3⟩
        · rw [h1, h2]; rfl
        · rw [h1, h2]
          cases ra; cases rb; cases rc
          refine ⟨⟨?_, hn.2⟩, s3⟩
          show ({ n' with kind := 4, a := a, b := b, c := c } : Nd) = _
          rw [hn.1]
  · unfold infixF
    rcases (hx _ _ h).two with ⟨e, h1, h2⟩ | ⟨⟨a, p1⟩, ⟨a', p1'⟩, h1, h2, ra, s1⟩
    · rw [h1, h2]; rfl
    · rw [h1, h2]
      cases ra
      simp only
      replace s1 : SR P p1 p1' := s1
      have hh1 := s1.hd ht
      rw [hlit p1 p1' a s1 (fun _ => trivial)]
      simp only [hh1.same (l := kFby) (by decide)]
      split
      · unfold delayF
        have s2 := s1.adv ht
        have s3 : SR P { p1.adv ts with delays := (p1.adv ts).delays + 1 } { p1'.adv ts' with delays := (p1'.adv ts').delays + 1 } := ⟨s2.next, s2.depth, by show (p1'.adv ts').delays + 1 = _; rw [s2.delays], s2.decls, s2.nodes⟩
        rcases (hx _ _ s3).two with ⟨e, h1, h2⟩ | ⟨⟨b, p2⟩, ⟨b', p2'⟩, h1, h2, rb, s4⟩
        · rw [h1, h2]; rfl
        · rw [h1, h2]
          cases rb
          refine ⟨⟨?_, hn.2⟩, ⟨s4.next, s4.depth, by show p2'.delays - 1 = p2.delays - 1; rw [s4.delays], s4.decls, s4.nodes⟩⟩
          show ({ n' with kind := 5, a := a, b := b } : Nd) = _
          rw [hn.1]
      · unfold infixRest
        rw [hh1.op]
        cases ho : opOf (p1.hd ts).l with
        | none => exact s1.next
        | some op =>
          simp only
          rcases (hx _ _ (s1.adv ht)).two with ⟨e, h1, h2⟩ | ⟨⟨b, p2⟩, ⟨b', p2'⟩, h1, h2, rb, s4⟩
          · rw [h1, h2]; rfl
          · rw [h1, h2]
            cases rb
            refine ⟨⟨?_, hn.2⟩, s4⟩
            show ({ n' with kind := 6, op := op, a := a, b := b } : Nd) = _
            rw [hn.1]

theorem bracketR {P : Nat → Nat → Prop} (h00 : P 0 0) {ts ts' : List Tk} (ht : TsR P ts ts') {ex ex' : Ex} (hx : ExR P ex ex') {p p' : PS} (h : SR P p p') : RR (ERes P) (bracketF ts ex p) (bracketF ts' ex' p') := by
  unfold bracketF
  have hl := h.nodes.len
  have s1 := (h.add ht ndZero)
  have s2 := s1.adv ht
  have s3 : SR P { (p.add ts ndZero).adv ts with depth := p.depth + 1 } { (p'.add ts' ndZero).adv ts' with depth := p'.depth + 1 } := ⟨s2.next, by show p'.depth + 1 = _; rw [h.depth], s2.delays, s2.decls, s2.nodes⟩
  rw [hl]
  have hn : NR P ((p.add ts ndZero).nodes.getD p.nodes.length ndZero) ((p'.add ts' ndZero).nodes.getD p.nodes.length ndZero) := All2.getD (R := NR P) ⟨rfl, h00⟩ _ s1.nodes
  rcases (insideR ht hx s3 hn).two with ⟨e, h1, h2⟩ | ⟨⟨m, p2⟩, ⟨m', p2'⟩, h1, h2, hm, s4⟩
  · rw [h1, h2]; rfl
  · rw [h1, h2]
    simp only
    have s5 : SR P { p2 with depth := p2.depth - 1, nodes := p2.nodes.set p.nodes.length m } { p2' with depth := p2'.depth - 1, nodes := p2'.nodes.set p.nodes.length m' } := ⟨s4.next, by show p2'.depth - 1 = p2.depth - 1; rw [s4.depth], s4.delays, s4.decls, s4.nodes.set hm _⟩
    rcases (s5.take ht (l := [41]) (by decide)).two with ⟨e, h1, h2⟩ | ⟨p3, p3', h1, h2, s6⟩
    · rw [h1, h2]; rfl
    · rw [h1, h2]; exact ⟨rfl, s6⟩

theorem exprR {P : Nat → Nat → Prop} (h00 : P 0 0) {ts ts' : List Tk} (ht : TsR P ts ts') : ∀ f, ExR P (exprF ts f) (exprF ts' f) := by
  have hleaf : ∀ (p p' : PS) (n : Nd), SR P p p' → ERes P (leafF ts p n) (leafF ts' p' n) := by
    intro p p' n h
    exact ⟨h.nodes.len, (h.add ht n).adv ht⟩
  have hatom : ∀ p p' (br br' : Except Nat (Nat × PS)), SR P p p' → RR (ERes P) br br' → RR (ERes P) (atomF ts p br) (atomF ts' p' br') := by
    intro p p' br br' h hb
    have hh := h.hd ht
    unfold atomF
    simp only [hh.same (l := [40]) (by decide), hh.same (l := kTrue) (by decide), hh.same (l := kFalse) (by decide), hh.kind]
    split
    · exact hb
    split
    · exact hleaf _ _ _ h
    split
    · exact hleaf _ _ _ h
    split
    · rename_i hk
      rw [hh.val hk]
      exact hleaf _ _ _ h
    split
    · rename_i hk
      rw [hh.text (by rw [hk]; decide)]
      exact hleaf _ _ _ h
    · exact h.next
  intro f
  induction f with
  | zero => intro p p' h; exact hatom p p' _ _ h h.next
  | succ f ih => intro p p' h; exact hatom p p' _ _ h (bracketR h00 ht ih h)

theorem sameSort_alike {P : Nat → Nat → Prop} (d d' : Dc) (hk : d'.kind = d.kind) {l l' : List Dc} (h : All2 (DR P) l l') : sameSort d' l' = sameSort d l := by
  unfold sameSort
  rw [hk]
  exact (All2.filter (fun a b hab => by rw [hab.1]) h).len

theorem SR.declare {P : Nat → Nat → Prop} {p p' : PS} (h : SR P p p') (d d' : Dc) (hd : DR P d d') : SR P (p.declare d) (p'.declare d') := by
  refine ⟨h.next, h.depth, h.delays, h.decls.app ⟨⟨?_, hd.2⟩, trivial⟩, h.nodes⟩
  rw [sameSort_alike d d' (by rw [hd.1]) h.decls]
  show ({ d' with number := d'.number + sameSort d p.decls } : Dc) = _
  rw [hd.1]

theorem declarationR {P : Nat → Nat → Prop} (h00 : P 0 0) {ts ts' : List Tk} (ht : TsR P ts ts') {p p' : PS} (h : SR P p p') : RR (SR P) (declarationF ts p) (declarationF ts' p') := by
  have hh := h.hd ht
  have s1 := h.adv ht
  have hh1 := s1.hd ht
  have s2 := s1.adv ht
  unfold declarationF
  simp only [hh.same (l := kIn) (by decide), hh.same (l := kInt) (by decide), hh.same (l := kBool) (by decide)]
  have eqn : ∀ kind, RR (SR P) (equationF ts kind p) (equationF ts' kind p') := by
    intro kind
    unfold equationF
    simp only [hh1.kind]
    split
    · rename_i hk
      rw [hh1.text (by rw [hk]; decide)]
      rcases (s2.take ht (l := kAt) (by decide)).two with ⟨e, h1, h2⟩ | ⟨p3, p3', h1, h2, s3⟩
      · rw [h1, h2]; rfl
      · rw [h1, h2]
        simp only
        have hh3 := s3.hd ht
        have hpl : RR (ERes P) (placeF ts p3) (placeF ts' p3') := by
          unfold placeF
          by_cases hk3 : (p3.hd ts).kind = 3
          · rw [hh3.kind, hh3.val hk3]
            split
            · exact ⟨rfl, s3.adv ht⟩
            · exact s3.next
          · rw [if_neg (fun x => hk3 x.1), if_neg (fun x => hk3 (hh3.kind ▸ x.1))]
            exact s3.next
        rcases hpl.two with ⟨e, h1, h2⟩ | ⟨⟨pl, p4⟩, ⟨pl', p4'⟩, h1, h2, rp, s4⟩
        · rw [h1, h2]; rfl
        · rw [h1, h2]
          cases rp
          simp only
          rcases (s4.take ht (l := [61]) (by decide)).two with ⟨e, h1, h2⟩ | ⟨p5, p5', h1, h2, s5⟩
          · rw [h1, h2]; rfl
          · rw [h1, h2]
            simp only
            rcases (exprR h00 ht 16 _ _ s5).two with ⟨e, h1, h2⟩ | ⟨⟨r, p6⟩, ⟨r', p6'⟩, h1, h2, rr, s6⟩
            · rw [h1, h2]; rfl
            · rw [h1, h2]
              cases rr
              simp only
              refine (s6.declare _ _ ⟨?_, ?_⟩).take ht (by decide)
              · rw [s6.nodes.len]
              · exact hh1.pos
    · exact s1.next
  split
  · unfold inputF
    simp only [hh1.kind]
    split
    · rename_i hk
      rw [hh1.text (by rw [hk]; decide)]
      exact (s2.declare _ _ ⟨rfl, hh1.pos⟩).take ht (by decide)
    · exact s1.next
  split
  · exact eqn 1
  split
  · exact eqn 2
  · exact h.next

theorem declsR {P : Nat → Nat → Prop} (h00 : P 0 0) {ts ts' : List Tk} (ht : TsR P ts ts') : ∀ f p p', SR P p p' → RR (SR P) (declsF ts f p) (declsF ts' f p') := by
  intro f
  induction f with
  | zero => intro p p' h; exact h
  | succ f ih =>
    intro p p' h
    unfold declsF
    rw [(h.hd ht).kind]
    split
    · exact h
    · rcases (declarationR h00 ht h).two with ⟨e, h1, h2⟩ | ⟨p3, p3', h1, h2, s3⟩
      · rw [h1, h2]; rfl
      · rw [h1, h2]; exact ih _ _ s3

end Go.Proofs.YtmndgoapkmhglaaDoor

/- Plain mathematics: what is alike is judged alike. -/
namespace Go.Proofs.YtmndgoapkmhglaaDoor

def OR (P : Nat → Nat → Prop) : Option Nat → Option Nat → Prop
  | none, none => True
  | some a, some b => P a b
  | _, _ => False

theorem tooManyR {P : Nat → Nat → Prop} : ∀ {l l' : List Dc}, All2 (DR P) l l' → OR P (tooManyF l) (tooManyF l') := by
  intro l
  induction l with
  | nil => intro m h; cases m with
    | nil => exact trivial
    | cons b m => exact h.elim
  | cons a l ih => intro m h; cases m with
    | nil => exact h.elim
    | cons b m =>
      obtain ⟨⟨e, hp⟩, h2⟩ := h
      unfold tooManyF
      have e1 : most b = most a := by rw [e]; rfl
      have e2 : b.number = a.number := by rw [e]
      rw [e1, e2]
      split
      · exact hp
      · exact ih h2

theorem findR {P : Nat → Nat → Prop} {l l' : List Dc} (h : All2 (DR P) l l') (name : ByteArray) : findF l' name = findF l name := by
  have : ∀ {l l' : List Dc}, All2 (DR P) l l' → l'.findIdx? (fun d => d.name.data.toList == name.data.toList) = l.findIdx? (fun d => d.name.data.toList == name.data.toList) := by
    intro l
    induction l with
    | nil => intro m h; cases m with
      | nil => rfl
      | cons b m => exact h.elim
    | cons a l ih => intro m h; cases m with
      | nil => exact h.elim
      | cons b m =>
        obtain ⟨⟨e, hp⟩, h2⟩ := h
        have e1 : b.name = a.name := by rw [e]
        rw [List.findIdx?_cons, List.findIdx?_cons, e1, ih h2]
  unfold findF
  rw [this h]

theorem bindR {P : Nat → Nat → Prop} {l l' : List Dc} (h : All2 (DR P) l l') {ns ns' : List Nd} (hn : All2 (NR P) ns ns') : All2 (NR P) (ns.map (bindF l)) (ns'.map (bindF l')) := by
  refine All2.map ?_ hn
  intro a b hab
  obtain ⟨e, hp⟩ := hab
  unfold bindF
  have e1 : b.kind = a.kind := by rw [e]
  have e2 : b.name = a.name := by rw [e]
  rw [e1, e2, findR h]
  split
  · refine ⟨?_, hp⟩
    rw [e]
  · exact ⟨e, hp⟩

theorem segR {P : Nat → Nat → Prop} {ns ns' : List Nd} (hn : All2 (NR P) ns ns') (a b : Nat) : All2 (NR P) (seg ns a b) (seg ns' a b) := (hn.drop a).take (b - a)

theorem badNodeR {P : Nat → Nat → Prop} : ∀ {l l' : List Nd}, All2 (NR P) l l' → OR P (badNodeF l) (badNodeF l') := by
  intro l
  induction l with
  | nil => intro m h; cases m with
    | nil => exact trivial
    | cons b m => exact h.elim
  | cons a l ih => intro m h; cases m with
    | nil => exact h.elim
    | cons b m =>
      obtain ⟨⟨e, hp⟩, h2⟩ := h
      unfold badNodeF
      have e1 : b.kind = a.kind := by rw [e]
      have e2 : b.decl = a.decl := by rw [e]
      rw [e1, e2]
      split
      · exact hp
      · exact ih h2

theorem OR.two {P : Nat → Nat → Prop} {x y : Option Nat} (h : OR P x y) : (x = none ∧ y = none) ∨ ∃ a b, x = some a ∧ y = some b ∧ P a b := by
  cases x with
  | none => cases y with
    | none => exact .inl ⟨rfl, rfl⟩
    | some b => exact h.elim
  | some a => cases y with
    | none => exact h.elim
    | some b => exact .inr ⟨a, b, rfl, rfl, h⟩

theorem badNameR {P : Nat → Nat → Prop} {all all' : List Dc} (ha : All2 (DR P) all all') {ns ns' : List Nd} (hn : All2 (NR P) ns ns') : ∀ {l l' : List Dc} (i : Nat), All2 (DR P) l l' → OR P (badNameF all ns i l) (badNameF all' ns' i l') := by
  intro l
  induction l with
  | nil => intro m i h; cases m with
    | nil => exact trivial
    | cons b m => exact h.elim
  | cons a l ih => intro m i h; cases m with
    | nil => exact h.elim
    | cons b m =>
      obtain ⟨⟨e, hp⟩, h2⟩ := h
      unfold badNameF
      have e1 : b.name = a.name := by rw [e]
      have e2 : b.root = a.root := by rw [e]
      have e3 : b.fin = a.fin := by rw [e]
      rw [e1, e2, e3, findR ha]
      split
      · exact hp
      · rcases (badNodeR (segR hn a.root a.fin)).two with ⟨h1, h3⟩ | ⟨x, y, h1, h3, h4⟩
        · rw [h1, h3]; exact ih (i + 1) h2
        · rw [h1, h3]; exact h4

theorem kindAtR {P : Nat → Nat → Prop} {ds ds' : List Dc} (h : All2 (DR P) ds ds') (i : Int) : kindAt ds' i = kindAt ds i := by
  unfold kindAt
  exact All2.getD (R := fun d d' : Dc => d'.kind = d.kind) rfl _ (by
    have := All2.map (f := id) (g := id) (S := fun d d' : Dc => d'.kind = d.kind) (fun a b hab => by
      have e := hab.1
      show b.kind = a.kind
      rw [e]) h
    simpa using this)

theorem badTypeR {P : Nat → Nat → Prop} {ds ds' : List Dc} (hd : All2 (DR P) ds ds') : ∀ {l l' : List Nd} (i : Nat) (tr : List Bool), All2 (NR P) l l' → OR P (badTypeF ds i l tr) (badTypeF ds' i l' tr) := by
  intro l
  induction l with
  | nil => intro m i tr h; cases m with
    | nil => exact trivial
    | cons b m => exact h.elim
  | cons a l ih => intro m i tr h; cases m with
    | nil => exact h.elim
    | cons b m =>
      obtain ⟨⟨e, hp⟩, h2⟩ := h
      unfold badTypeF
      have e1 : fitsF ds' b (tr.getD i false) = fitsF ds a (tr.getD i false) := by
        rw [e]; unfold fitsF; simp only [kindAtR hd]
      have e2 : tell b (tr.getD i false) tr = tell a (tr.getD i false) tr := by rw [e]; rfl
      rw [e1, e2]
      split
      · exact ih (i + 1) _ h2
      · exact hp

theorem rootsR {P : Nat → Nat → Prop} : ∀ {l l' : List Dc} (tr : List Bool), All2 (DR P) l l' → roots l' tr = roots l tr := by
  intro l
  induction l with
  | nil => intro m tr h; cases m with
    | nil => rfl
    | cons b m => exact h.elim
  | cons a l ih => intro m tr h; cases m with
    | nil => exact h.elim
    | cons b m =>
      obtain ⟨⟨e, hp⟩, h2⟩ := h
      unfold roots
      have e1 : b.kind = a.kind := by rw [e]
      have e2 : b.root = a.root := by rw [e]
      rw [e1, e2, ih _ h2]

theorem markSegR {P : Nat → Nat → Prop} {ds ds' : List Dc} (hd : All2 (DR P) ds ds') (i : Nat) : ∀ {l l' : List Nd} (M : Mx), All2 (NR P) l l' → markSeg ds' i l' M = markSeg ds i l M := by
  intro l
  induction l with
  | nil => intro m M h; cases m with
    | nil => rfl
    | cons b m => exact h.elim
  | cons a l ih => intro m M h; cases m with
    | nil => exact h.elim
    | cons b m =>
      obtain ⟨⟨e, hp⟩, h2⟩ := h
      unfold markSeg
      have e1 : b.kind = a.kind := by rw [e]
      have e2 : b.delayed = a.delayed := by rw [e]
      have e3 : b.decl = a.decl := by rw [e]
      rw [e1, e2, e3, kindAtR hd, ih _ h2]

theorem markAllR {P : Nat → Nat → Prop} {ds ds' : List Dc} (hd : All2 (DR P) ds ds') {ns ns' : List Nd} (hn : All2 (NR P) ns ns') : ∀ {l l' : List Dc} (i : Nat) (M : Mx), All2 (DR P) l l' → markAll ds' ns' i l' M = markAll ds ns i l M := by
  intro l
  induction l with
  | nil => intro m i M h; cases m with
    | nil => rfl
    | cons b m => exact h.elim
  | cons a l ih => intro m i M h; cases m with
    | nil => exact h.elim
    | cons b m =>
      obtain ⟨⟨e, hp⟩, h2⟩ := h
      unfold markAll
      have e1 : b.root = a.root := by rw [e]
      have e2 : b.fin = a.fin := by rw [e]
      rw [e1, e2, markSegR hd i M (segR hn _ _), ih _ _ h2]

theorem firstSelfR {P : Nat → Nat → Prop} (M : Mx) : ∀ {l l' : List Dc} (i : Nat), All2 (DR P) l l' → OR P (firstSelf M i l) (firstSelf M i l') := by
  intro l
  induction l with
  | nil => intro m i h; cases m with
    | nil => exact trivial
    | cons b m => exact h.elim
  | cons a l ih => intro m i h; cases m with
    | nil => exact h.elim
    | cons b m =>
      obtain ⟨⟨e, hp⟩, h2⟩ := h
      unfold firstSelf
      split
      · exact hp
      · exact ih (i + 1) h2

theorem cycleR {P : Nat → Nat → Prop} {ds ds' : List Dc} (hd : All2 (DR P) ds ds') {ns ns' : List Nd} (hn : All2 (NR P) ns ns') : OR P (cycleF ds ns) (cycleF ds' ns') := by
  unfold cycleF
  rw [markAllR hd hn _ _ hd, hd.len]
  exact firstSelfR _ _ hd

theorem usesSegR {P : Nat → Nat → Prop} (decl : Nat) : ∀ {l l' : List Nd} (u p : Bool), All2 (NR P) l l' → usesSeg decl l' u p = usesSeg decl l u p := by
  intro l
  induction l with
  | nil => intro m u p h; cases m with
    | nil => rfl
    | cons b m => exact h.elim
  | cons a l ih => intro m u p h; cases m with
    | nil => exact h.elim
    | cons b m =>
      obtain ⟨⟨e, hp⟩, h2⟩ := h
      unfold usesSeg
      have e1 : b.kind = a.kind := by rw [e]
      have e2 : b.decl = a.decl := by rw [e]
      have e3 : b.behind = a.behind := by rw [e]
      rw [e1, e2, e3, ih _ _ h2, ih _ _ h2]

theorem usesAllR {P : Nat → Nat → Prop} {ns ns' : List Nd} (hn : All2 (NR P) ns ns') (decl place : Nat) : ∀ {l l' : List Dc} (u p : Bool), All2 (DR P) l l' → usesAll ns' decl place l' u p = usesAll ns decl place l u p := by
  intro l
  induction l with
  | nil => intro m u p h; cases m with
    | nil => rfl
    | cons b m => exact h.elim
  | cons a l ih => intro m u p h; cases m with
    | nil => exact h.elim
    | cons b m =>
      obtain ⟨⟨e, hp⟩, h2⟩ := h
      unfold usesAll
      have e1 : b.kind = a.kind := by rw [e]
      have e2 : b.place = a.place := by rw [e]
      have e3 : b.root = a.root := by rw [e]
      have e4 : b.fin = a.fin := by rw [e]
      rw [e1, e2, e3, e4, usesSegR decl _ _ (segR hn _ _), ih _ _ h2, ih _ _ h2]

theorem linksR {P : Nat → Nat → Prop} {ds ds' : List Dc} (hd : All2 (DR P) ds ds') {ns ns' : List Nd} (hn : All2 (NR P) ns ns') : linksF ds' ns' = linksF ds ns := by
  have hu : ∀ i q, usesF ds' ns' i q = usesF ds ns i q := fun i q => usesAllR hn i q _ _ hd
  have hto : ∀ i (d d' : Dc), DR P d d' → ∀ q, linksTo ds' ns' i d' q = linksTo ds ns i d q := by
    intro i d d' hdd q
    induction q with
    | zero => rfl
    | succ q ih =>
      unfold linksTo linkAt
      have e1 : d'.place = d.place := by rw [hdd.1]
      have e2 : d'.number = d.number := by rw [hdd.1]
      rw [ih, hu, e1, e2]
  have hfrom : ∀ {l l' : List Dc} (i : Nat), All2 (DR P) l l' → linksFrom ds' ns' i l' = linksFrom ds ns i l := by
    intro l
    induction l with
    | nil => intro m i h; cases m with
      | nil => rfl
      | cons b m => exact h.elim
    | cons a l ih => intro m i h; cases m with
      | nil => exact h.elim
      | cons b m =>
        unfold linksFrom
        have e1 : b.kind = a.kind := by rw [h.1.1]
        rw [e1, hto i a b h.1 4, ih (i + 1) h.2]
  exact hfrom 0 hd

theorem eqsR {P : Nat → Nat → Prop} {ds ds' : List Dc} (hd : All2 (DR P) ds ds') : All2 (DR P) (eqsF ds) (eqsF ds') :=
  All2.filter (fun a b hab => by rw [hab.1]) hd

theorem waitsR {P : Nat → Nat → Prop} {es es' : List Dc} (he : All2 (DR P) es es') : ∀ (l : List Rt) (M : Mx), waitsM es' l M = waitsM es l M := by
  have hp : ∀ k, (es'.getD k ⟨0, 0, ⟨#[]⟩, 0, 0, 0, 0⟩).place = (es.getD k ⟨0, 0, ⟨#[]⟩, 0, 0, 0, 0⟩).place := by
    intro k
    exact All2.getD (R := fun d d' : Dc => d'.place = d.place) rfl _ (by
      have := All2.map (f := id) (g := id) (S := fun d d' : Dc => d'.place = d.place) (fun a b hab => by
        have e := hab.1
        show b.place = a.place
        rw [e]) he
      simpa using this)
  intro l
  induction l with
  | nil => intro M; rfl
  | cons r l ih => intro M; unfold waitsM; rw [hp, ih]

theorem firstAtR {P : Nat → Nat → Prop} (M : Mx) : ∀ {l l' : List Dc}, All2 (DR P) l l' → OR P (firstAt M l) (firstAt M l') := by
  intro l
  induction l with
  | nil => intro m h; cases m with
    | nil => exact trivial
    | cons b m => exact h.elim
  | cons a l ih => intro m h; cases m with
    | nil => exact h.elim
    | cons b m =>
      obtain ⟨⟨e, hp⟩, h2⟩ := h
      unfold firstAt
      have e1 : b.place = a.place := by rw [e]
      rw [e1]
      split
      · exact hp
      · exact ih h2

theorem loopR {P : Nat → Nat → Prop} {ds ds' : List Dc} (hd : All2 (DR P) ds ds') {ns ns' : List Nd} (hn : All2 (NR P) ns ns') : OR P (loopF ds ns) (loopF ds' ns') := by
  unfold loopF
  rw [linksR hd hn, waitsR (eqsR hd)]
  exact firstAtR _ (eqsR hd)

/-- the same error, and places that belong together. -/
def AR (P : Nat → Nat → Prop) (x y : Nat × Nat) : Prop := y.1 = x.1 ∧ P x.2 y.2

theorem meaningR {P : Nat → Nat → Prop} (h00 : P 0 0) {ds ds' : List Dc} (hd : All2 (DR P) ds ds') {ns ns' : List Nd} (hn : All2 (NR P) ns ns') : AR P (meaningF ds ns) (meaningF ds' ns') := by
  unfold meaningF
  rcases (tooManyR hd).two with ⟨h1, h2⟩ | ⟨a, b, h1, h2, h3⟩
  · rw [h1, h2]
    rcases (badNameR hd hn 0 hd).two with ⟨h1, h2⟩ | ⟨a, b, h1, h2, h3⟩
    · rw [h1, h2, rootsR _ hd, hn.len]
      rcases (badTypeR hd 0 (roots ds (List.replicate ns.length false)) hn).two with ⟨h1, h2⟩ | ⟨a, b, h1, h2, h3⟩
      · rw [h1, h2]
        rcases (cycleR hd hn).two with ⟨h1, h2⟩ | ⟨a, b, h1, h2, h3⟩
        · rw [h1, h2]
          rcases (loopR hd hn).two with ⟨h1, h2⟩ | ⟨a, b, h1, h2, h3⟩
          · rw [h1, h2]; exact ⟨rfl, h00⟩
          · rw [h1, h2]; exact ⟨rfl, h3⟩
        · rw [h1, h2]; exact ⟨rfl, h3⟩
      · rw [h1, h2]; exact ⟨rfl, h3⟩
    · rw [h1, h2]; exact ⟨rfl, h3⟩
  · rw [h1, h2]; exact ⟨rfl, h3⟩

theorem SR.start (P : Nat → Nat → Prop) : SR P pZero pZero := ⟨rfl, rfl, rfl, trivial, trivial⟩

theorem textR {P : Nat → Nat → Prop} (h00 : P 0 0) (s s' : ByteArray) (hs : s.size ≤ 1500) (hs' : s'.size ≤ 1500) (ht : TsR P (toks s) (toks s')) : AR P (textF s) (textF s') := by
  unfold textF
  rw [if_neg (by omega), if_neg (by omega)]
  have hp : RR (SR P) (parseF s) (parseF s') := by
    unfold parseF
    rw [ht.len]
    exact declsR h00 ht _ _ _ (SR.start P)
  rcases hp.two with ⟨e, h1, h2⟩ | ⟨p, p', h1, h2, h3⟩
  · rw [h1, h2]; exact ⟨rfl, (ht.at' e).pos⟩
  · rw [h1, h2]
    exact meaningR h00 h3.decls (bindR h3.decls h3.nodes)

end Go.Proofs.YtmndgoapkmhglaaDoor

/- Plain mathematics: a token that stands nowhere is found just there. -/
namespace Go.Proofs.YtmndgoapkmhglaaDoor

/-- tokens have been used up, and not all. -/
def Fwd (ts : List Tk) (p p' : PS) : Prop := p.next < p'.next ∧ p'.next < ts.length
def ExM (ts : List Tk) (ex : Ex) : Prop := ∀ p r p', p.next < ts.length → ex p = .ok (r, p') → Fwd ts p p'

theorem fwd_adv {ts : List Tk} (ht : TsOk ts) {p : PS} (h : p.next < ts.length) (hk : (p.hd ts).kind ≠ 0 ∨ (p.hd ts).l ≠ []) : Fwd ts p (p.adv ts) := by
  rw [adv_next ht h hk]
  exact ⟨Nat.lt_succ_self _, ht.last h hk⟩
theorem Fwd.trans {ts : List Tk} {p q r : PS} (h : Fwd ts p q) (k : Fwd ts q r) : Fwd ts p r := ⟨Nat.lt_trans h.1 k.1, k.2⟩

theorem insideM {ts : List Tk} (ht : TsOk ts) {ex : Ex} (hx : ExM ts ex) {p p' : PS} {n n' : Nd} (h : p.next < ts.length) (he : insideF ts ex p n = .ok (n', p')) : Fwd ts p p' := by
  unfold insideF at he
  split at he
  · rename_i hl
    have s1 := fwd_adv ht h (.inr (by rw [hl]; decide))
    unfold notF at he
    split at he
    · cases he
    · rename_i e1
      cases he
      exact s1.trans (hx _ _ _ s1.2 e1)
  split at he
  · rename_i hl
    have s1 := fwd_adv ht h (.inr (by rw [hl]; decide))
    unfold choiceF at he
    split at he
    · cases he
    · rename_i e1
      have s2 := hx _ _ _ s1.2 e1
      split at he
      · cases he
      · rename_i e2
        have s3 := hx _ _ _ s2.2 e2
        split at he
        · cases he
        · rename_i e3
          cases he
          exact ((s1.trans s2).trans s3).trans (hx _ _ _ s3.2 e3)
  · unfold infixF at he
    split at he
    · cases he
    · rename_i a p1 e1
      have s1 := hx _ _ _ h e1
      split at he
      · rename_i hl
        have s2 := fwd_adv ht s1.2 (.inr (by rw [hl.2]; decide))
        unfold delayF at he
        split at he
        · cases he
        · rename_i e2
          cases he
          have s3 := hx _ _ _ (by exact s2.2) e2
          exact (s1.trans s2).trans s3
      · unfold infixRest at he
        split at he
        · cases he
        · rename_i op ho
          have s2 := fwd_adv ht s1.2 (.inr (by intro e; rw [e] at ho; simp [opOf] at ho))
          split at he
          · cases he
          · rename_i e2
            cases he
            exact (s1.trans s2).trans (hx _ _ _ s2.2 e2)

theorem bracketM {ts : List Tk} (ht : TsOk ts) {ex : Ex} (hx : ExM ts ex) {p p' : PS} {r : Nat} (h : p.next < ts.length) (hl : (p.hd ts).l = [40]) (he : bracketF ts ex p = .ok (r, p')) : Fwd ts p p' := by
  unfold bracketF at he
  have s1 : Fwd ts p ((p.add ts ndZero).adv ts) := fwd_adv ht (p := p.add ts ndZero) h (.inr (by show (p.hd ts).l ≠ []; rw [hl]; decide))
  split at he
  · cases he
  · rename_i n p2 e2
    have s2 := insideM ht hx (p := { (p.add ts ndZero).adv ts with depth := p.depth + 1 }) s1.2 e2
    split at he
    · cases he
    · rename_i p3 e3
      obtain ⟨rfl, hl3⟩ := take_grow e3
      cases he
      have s3 := fwd_adv ht (p := { p2 with depth := p2.depth - 1, nodes := p2.nodes.set p.nodes.length n }) s2.2 (.inr (by rw [hl3]; decide))
      exact (s1.trans s2).trans s3

theorem exprM {ts : List Tk} (ht : TsOk ts) : ∀ f, ExM ts (exprF ts f) := by
  have hatom : ∀ (p : PS) (br : Except Nat (Nat × PS)) (r : Nat) (p' : PS), p.next < ts.length → ((p.hd ts).l = [40] → ∀ r p', br = .ok (r, p') → Fwd ts p p') → atomF ts p br = .ok (r, p') → Fwd ts p p' := by
    intro p br r p' h hbr he
    have leaf : ∀ n, (p.hd ts).kind ≠ 0 ∨ (p.hd ts).l ≠ [] → Fwd ts p (leafF ts p n).2 := fun n hk => fwd_adv ht (p := p.add ts n) h hk
    unfold atomF at he
    split at he
    · rename_i hl; exact hbr hl _ _ he
    split at he
    · rename_i hl; cases he; exact leaf _ (.inr (by rw [hl]; decide))
    split at he
    · rename_i hl; cases he; exact leaf _ (.inr (by rw [hl]; decide))
    split at he
    · rename_i hl; cases he; exact leaf _ (.inl (by rw [hl]; decide))
    split at he
    · rename_i hl; cases he; exact leaf _ (.inl (by rw [hl]; decide))
    · cases he
  intro f
  induction f with
  | zero => intro p r p' h he; exact hatom p _ r p' h (fun _ _ _ h => by cases h) he
  | succ f ih => intro p r p' h he; exact hatom p _ r p' h (fun hl _ _ e => bracketM ht ih h hl e) he

/-- the words that are no names and no numbers. -/
def kwL : List (List UInt8) := [[40], [41], [59], [61], [43], [45], [42], [47], [60], [38], [124], kIn, kInt, kBool, kAt, kIf, kFby, kNot, kTrue, kFalse]

/-- the same tokens ahead of k, and at k one that stands nowhere. -/
structure CutTs (k : Nat) (ts ts' : List Tk) : Prop where
  ok : TsOk ts
  lt : k < ts.length
  lt' : k < ts'.length
  same : ∀ i, i < k → tkAt ts' i = tkAt ts i
  kind1 : (tkAt ts' k).kind ≠ 1
  kind3 : (tkAt ts' k).kind ≠ 3
  word : kwL.contains (tkAt ts' k).l = false

/-- what became of a part that was read well. -/
def CutTo {α : Type} (k : Nat) (q : PS) (a : α) (y : Except Nat α) : Prop := (q.next ≤ k ∧ y = .ok a) ∨ (k < q.next ∧ y = .error k)
def ExC (k : Nat) (ex ex' : Ex) : Prop := ∀ p r p', p.next ≤ k → ex p = .ok (r, p') → CutTo k p' (r, p') (ex' p)
def ExB (k : Nat) (ex' : Ex) : Prop := ∀ p, p.next = k → ex' p = .error k

section
variable {k : Nat} {ts ts' : List Tk}

theorem CutTs.no (hc : CutTs k ts ts') {l : List UInt8} (h1 : kwL.contains l = true) : (tkAt ts' k).l ≠ l := by
  intro e
  have := hc.word
  rw [e, h1] at this
  cases this
theorem CutTs.noOp (hc : CutTs k ts ts') : opOf (tkAt ts' k).l = none := by
  unfold opOf
  rw [if_neg (hc.no (by decide)), if_neg (hc.no (by decide)), if_neg (hc.no (by decide)), if_neg (hc.no (by decide)), if_neg (hc.no (by decide)), if_neg (hc.no (by decide)), if_neg (hc.no (by decide)), if_neg (hc.no (by decide))]
theorem CutTs.hd (hc : CutTs k ts ts') {p : PS} (h : p.next < k) : p.hd ts' = p.hd ts := hc.same _ h
theorem CutTs.adv (hc : CutTs k ts ts') {p : PS} (h : p.next < k) : p.adv ts' = p.adv ts ∧ (p.adv ts).next = p.next + 1 := by
  have h1 := hc.lt
  have h2 := hc.lt'
  unfold PS.adv
  rw [if_pos (by omega), if_pos (by omega)]
  exact ⟨rfl, rfl⟩
theorem CutTs.add (hc : CutTs k ts ts') {p : PS} (h : p.next < k) (n : Nd) : p.add ts' n = p.add ts n := by
  unfold PS.add
  rw [hc.hd h, hc.same (p.next - 1) (by omega)]
theorem CutTs.take (hc : CutTs k ts ts') {p q : PS} (h : p.next ≤ k) {l : List UInt8} (h1 : l ≠ []) (h2 : kwL.contains l = true) (he : p.take ts l = .ok q) : CutTo k q q (p.take ts' l) := by
  obtain ⟨rfl, hl⟩ := take_grow he
  by_cases hp : p.next < k
  · refine .inl ⟨by rw [(hc.adv hp).2]; omega, ?_⟩
    unfold PS.take
    rw [hc.hd hp, if_pos hl, (hc.adv hp).1]
  · have e : p.next = k := by omega
    have hf := fwd_adv hc.ok (p := p) (by rw [e]; exact hc.lt) (.inr (by rw [hl]; exact h1))
    refine .inr ⟨by rw [← e]; exact hf.1, ?_⟩
    unfold PS.take
    rw [if_neg (by show (tkAt ts' p.next).l ≠ l; rw [e]; exact hc.no h2), e]

theorem insideB (hc : CutTs k ts ts') {ex' : Ex} (hb : ExB k ex') {p : PS} {n : Nd} (h : p.next = k) : insideF ts' ex' p n = .error k := by
  unfold insideF
  have hh : p.hd ts' = tkAt ts' k := by unfold PS.hd; rw [h]
  rw [hh, if_neg (hc.no (by decide)), if_neg (hc.no (by decide))]
  unfold infixF
  rw [hb p h]

theorem insideC (hc : CutTs k ts ts') {ex ex' : Ex} (hx : ExC k ex ex') (hb : ExB k ex') (hm : ExM ts ex) {p p' : PS} {n n' : Nd} (hp : p.next ≤ k) (he : insideF ts ex p n = .ok (n', p')) : CutTo k p' (n', p') (insideF ts' ex' p n) := by
  have hlt := hc.lt
  have hf := insideM hc.ok hm (p := p) (by omega) he
  by_cases hpk' : p.next = k
  · exact .inr ⟨by have := hf.1; omega, insideB hc hb hpk'⟩
  have hpk : p.next < k := by omega
  obtain ⟨ha1, ha2⟩ := hc.adv hpk
  have hh := hc.hd hpk
  unfold insideF at he ⊢
  rw [hh]
  split at he
  · rename_i hl
    rw [if_pos hl]
    unfold notF at he ⊢
    rw [ha1]
    split at he
    · cases he
    · rename_i a p1 e1
      cases he
      rcases hx _ _ _ (by omega) e1 with ⟨h1, h2⟩ | ⟨h1, h2⟩
      · rw [h2]; exact .inl ⟨h1, rfl⟩
      · rw [h2]; exact .inr ⟨h1, rfl⟩
  rename_i hl0
  rw [if_neg hl0]
  split at he
  · rename_i hl
    rw [if_pos hl]
    unfold choiceF at he ⊢
    rw [ha1]
    split at he
    · cases he
    · rename_i a p1 e1
      have hlt1 := hm _ _ _ (by omega) e1
      split at he
      · cases he
      · rename_i b p2 e2
        have hlt2 := hm _ _ _ hlt1.2 e2
        split at he
        · cases he
        · rename_i c p3 e3
          have hlt3 := hm _ _ _ hlt2.2 e3
          cases he
          have a1 := hlt1.1
          have a2 := hlt2.1
          have a3 := hlt3.1
          rcases hx _ _ _ (by omega) e1 with ⟨h1, h2⟩ | ⟨h1, h2⟩
          · rw [h2]
            simp only
            rcases hx _ _ _ h1 e2 with ⟨h3, h4⟩ | ⟨h3, h4⟩
            · rw [h4]
              simp only
              rcases hx _ _ _ h3 e3 with ⟨h5, h6⟩ | ⟨h5, h6⟩
              · rw [h6]; exact .inl ⟨h5, rfl⟩
              · rw [h6]; exact .inr ⟨h5, rfl⟩
            · rw [h4]; exact .inr ⟨by omega, rfl⟩
          · rw [h2]; exact .inr ⟨by omega, rfl⟩
  rename_i hl1
  rw [if_neg hl1]
  unfold infixF at he ⊢
  split at he
  · cases he
  · rename_i a p1 e1
    have hlt1 := hm _ _ _ (by omega) e1
    have a1 := hlt1.1
    split at he
    · rename_i hl
      have hlt2 := fwd_adv hc.ok hlt1.2 (.inr (by rw [hl.2]; decide))
      have a2 := hlt2.1
      unfold delayF at he
      split at he
      · cases he
      · rename_i b p2 e2
        have hlt3 := hm { p1.adv ts with delays := (p1.adv ts).delays + 1 } _ _ hlt2.2 e2
        have a3 : (p1.adv ts).next < p2.next := hlt3.1
        cases he
        show CutTo k { p2 with delays := p2.delays - 1 } _ _
        rcases hx _ _ _ hp e1 with ⟨h1, h2⟩ | ⟨h1, h2⟩
        · rw [h2]
          simp only
          by_cases hk1 : p1.next < k
          · obtain ⟨b1, b2⟩ := hc.adv hk1
            rw [hc.hd hk1, if_pos hl, b1]
            unfold delayF
            rcases hx _ _ _ (by show (p1.adv ts).next ≤ k; omega) e2 with ⟨h5, h6⟩ | ⟨h5, h6⟩
            · rw [h6]; exact .inl ⟨h5, rfl⟩
            · rw [h6]; exact .inr ⟨h5, rfl⟩
          · have e : p1.next = k := by omega
            have hh' : p1.hd ts' = tkAt ts' k := by unfold PS.hd; rw [e]
            refine .inr ⟨by show k < p2.next; omega, ?_⟩
            rw [hh', if_neg (fun x => hc.no (by decide) x.2)]
            unfold infixRest
            rw [hh']
            have ho := hc.noOp
            rw [ho, e]
        · rw [h2]; exact .inr ⟨by show k < p2.next; omega, rfl⟩
    · rename_i hl
      unfold infixRest at he
      split at he
      · cases he
      · rename_i op ho
        have hlt2 := fwd_adv hc.ok hlt1.2 (.inr (by intro e; rw [e] at ho; simp [opOf] at ho))
        have a2 := hlt2.1
        split at he
        · cases he
        · rename_i b p2 e2
          have hlt3 := hm _ _ _ hlt2.2 e2
          have a3 : (p1.adv ts).next < p2.next := hlt3.1
          cases he
          rcases hx _ _ _ hp e1 with ⟨h1, h2⟩ | ⟨h1, h2⟩
          · rw [h2]
            simp only
            by_cases hk1 : p1.next < k
            · obtain ⟨b1, b2⟩ := hc.adv hk1
              rw [hc.hd hk1, if_neg hl]
              unfold infixRest
              rw [hc.hd hk1, ho, b1]
              simp only
              rcases hx _ _ _ (by omega) e2 with ⟨h5, h6⟩ | ⟨h5, h6⟩
              · rw [h6]; exact .inl ⟨h5, rfl⟩
              · rw [h6]; exact .inr ⟨h5, rfl⟩
            · have e : p1.next = k := by omega
              have hh' : p1.hd ts' = tkAt ts' k := by unfold PS.hd; rw [e]
              refine .inr ⟨by omega, ?_⟩
              rw [hh', if_neg (fun x => hc.no (by decide) x.2)]
              unfold infixRest
              rw [hh']
              have ho := hc.noOp
              rw [ho, e]
          · rw [h2]; exact .inr ⟨by omega, rfl⟩

theorem bracketC (hc : CutTs k ts ts') {ex ex' : Ex} (hx : ExC k ex ex') (hb : ExB k ex') (hm : ExM ts ex) {p p' : PS} {r : Nat} (hp : p.next < k) (he : bracketF ts ex p = .ok (r, p')) : CutTo k p' (r, p') (bracketF ts' ex' p) := by
  have hlt := hc.lt
  have hadd := hc.add hp ndZero
  obtain ⟨b1, b2⟩ := hc.adv (p := p.add ts ndZero) hp
  unfold bracketF at he ⊢
  rw [hadd, b1]
  split at he
  · cases he
  · rename_i n p2 e2
    have hle : ({ (p.add ts ndZero).adv ts with depth := p.depth + 1 } : PS).next ≤ k := by show ((p.add ts ndZero).adv ts).next ≤ k; rw [b2]; exact hp
    have hf := insideM hc.ok hm (p := { (p.add ts ndZero).adv ts with depth := p.depth + 1 }) (by omega) e2
    split at he
    · cases he
    · rename_i p3 e3
      cases he
      have hf3 : p2.next < p'.next := by
        obtain ⟨rfl, hl3⟩ := take_grow e3
        exact (fwd_adv hc.ok (p := { p2 with depth := p2.depth - 1, nodes := p2.nodes.set p.nodes.length n }) hf.2 (.inr (by rw [hl3]; decide))).1
      rcases insideC hc hx hb hm hle e2 with ⟨h1, h2⟩ | ⟨h1, h2⟩
      · rw [h2]
        simp only
        rcases hc.take (p := { p2 with depth := p2.depth - 1, nodes := p2.nodes.set p.nodes.length n }) h1 (by decide) (by decide) e3 with ⟨h3, h4⟩ | ⟨h3, h4⟩
        · rw [h4]; exact .inl ⟨h3, rfl⟩
        · rw [h4]; exact .inr ⟨h3, rfl⟩
      · rw [h2]; exact .inr ⟨by omega, rfl⟩

theorem exprB (hc : CutTs k ts ts') : ∀ f, ExB k (exprF ts' f) := by
  intro f p h
  have hat : ∀ br, atomF ts' p br = .error k := by
    intro br
    have hh : p.hd ts' = tkAt ts' k := by unfold PS.hd; rw [h]
    unfold atomF
    rw [hh, if_neg (hc.no (by decide)), if_neg (hc.no (by decide)), if_neg (hc.no (by decide)), if_neg hc.kind3, if_neg hc.kind1, h]
  cases f with
  | zero => exact hat _
  | succ f => exact hat _

theorem exprC (hc : CutTs k ts ts') : ∀ f, ExC k (exprF ts f) (exprF ts' f) := by
  have hatom : ∀ (p : PS) (br br' : Except Nat (Nat × PS)) (r : Nat) (p' : PS), p.next < k → ((p.hd ts).l = [40] → ∀ r p', br = .ok (r, p') → CutTo k p' (r, p') br') → atomF ts p br = .ok (r, p') → CutTo k p' (r, p') (atomF ts' p br') := by
    intro p br br' r p' hp hbr he
    have leaf : ∀ n, CutTo k (leafF ts p n).2 (leafF ts p n) (.ok (leafF ts' p n)) := by
      intro n
      obtain ⟨b1, b2⟩ := hc.adv (p := p.add ts n) hp
      have e : leafF ts' p n = leafF ts p n := by unfold leafF; rw [hc.add hp, b1]
      rw [e]
      refine .inl ⟨?_, rfl⟩
      show ((p.add ts n).adv ts).next ≤ k
      rw [b2]; exact hp
    unfold atomF at he ⊢
    rw [hc.hd hp]
    split at he
    · rename_i hl; rw [if_pos hl]; exact hbr hl _ _ he
    rename_i h1; rw [if_neg h1]
    split at he
    · rename_i hl; rw [if_pos hl]; cases he; exact leaf _
    rename_i h1; rw [if_neg h1]
    split at he
    · rename_i hl; rw [if_pos hl]; cases he; exact leaf _
    rename_i h1; rw [if_neg h1]
    split at he
    · rename_i hl; rw [if_pos hl]; cases he; exact leaf _
    rename_i h1; rw [if_neg h1]
    split at he
    · rename_i hl; rw [if_pos hl]; cases he; exact leaf _
    · cases he
  intro f
  induction f with
  | zero =>
    intro p r p' hp he
    by_cases e : p.next = k
    · exact .inr ⟨by have := exprM hc.ok 0 p r p' (by have := hc.lt; omega) he; have := this.1; omega, exprB hc 0 p e⟩
    · exact hatom p _ _ r p' (by omega) (fun _ _ _ h => by cases h) he
  | succ f ih =>
    intro p r p' hp he
    by_cases e : p.next = k
    · exact .inr ⟨by have := exprM hc.ok (f + 1) p r p' (by have := hc.lt; omega) he; have := this.1; omega, exprB hc (f + 1) p e⟩
    · exact hatom p _ _ r p' (by omega) (fun _ _ _ h => bracketC hc ih (exprB hc f) (exprM hc.ok f) (by omega) h) he

end
end Go.Proofs.YtmndgoapkmhglaaDoor
