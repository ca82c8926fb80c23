import Derived.Test.YtmndgoapkmhglaaM00Cut
/- Plain mathematics: the tokens as the document's own reader has them. -/
namespace Go.Proofs.Ytmndgoapkmhglaa

structure RTk where
  c : Nat
  word : ByteArray
  pos : Nat
  n : Nat

def rtok (t : Tk) : RTk :=
  ⟨if t.kind = 0 then 101 else if t.kind = 1 then 97 else if t.kind = 2 then 107 else if t.kind = 3 then 110 else if t.kind = 4 then 115 else 120,
   if t.kind = 1 ∨ t.kind = 2 ∨ t.kind = 4 then t.text else ⟨#[]⟩, t.pos, if t.kind = 3 then valOf t.text.data.toList else 0⟩

def rtoks (s : ByteArray) : List RTk := (toks s).map rtok

end Go.Proofs.Ytmndgoapkmhglaa

/- Plain mathematics: how the document's own reader holds tokens against the grammar. -/
namespace Go.Proofs.Ytmndgoapkmhglaa

def RTk.l (t : RTk) : List UInt8 := t.word.data.toList
def rlit (t : RTk) : Bool := t.c == 110 || t.l == kTrue || t.l == kFalse
def rop (l : List UInt8) : Bool := (opOf l).isSome

def insF (t : RTk) : List UInt8 × Bool × Bool :=
  if t.l = kNot then ([69], true, true)
  else if t.l = kIf then ([69, 69, 69], true, true)
  else if rlit t = true then ([76], true, true)
  else if t.c = 97 then ([79], true, true)
  else ([69, 79], false, t.l == [40])

def ruleF (x : Nat) (t : RTk) (depth : Int) : List UInt8 × Bool × Bool :=
  if x = 80 then (if t.l = kIn then ([97, 59, 80], true, true) else ([97, 84, 81, 61, 69, 59, 80], true, t.l == kInt || t.l == kBool))
  else if x = 97 then ([], true, t.c == 97)
  else if x = 84 then ([], true, t.l == kAt)
  else if x = 81 then ([], true, t.c == 110 && decide (t.n < 4))
  else if x = 69 then (if t.l = [40] then ([73, 41], true, decide (depth < 16)) else ([], true, rlit t || t.c == 97))
  else if x = 73 then insF t
  else if x = 76 then ([69], true, rop t.l || t.l == kFby)
  else if x = 79 then ([69], true, rop t.l)
  else ([], true, t.c == 115 && ((t.l.getD 0 0).toNat == x))

end Go.Proofs.Ytmndgoapkmhglaa
