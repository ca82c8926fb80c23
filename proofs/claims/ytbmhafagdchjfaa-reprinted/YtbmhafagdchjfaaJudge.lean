import Derived.Test.YtbmhafagdchjfaaDeclOk
import Derived.Test.YtbmhafagdchjfaaWarsh
/- Plain mathematics: what the program judges of declarations and nodes. -/
namespace Go.Proofs.Ytbmhafagdchjfaa

def most (d : Dc) : Nat := if d.kind = 0 then 4 else 12
def tooManyF : List Dc → Option Nat
  | [] => none
  | d :: r => if most d ≤ d.number then some d.pos else tooManyF r

def seg (ns : List Nd) (a b : Nat) : List Nd := (ns.drop a).take (b - a)

def badNodeF : List Nd → Option Nat
  | [] => none
  | n :: r => if n.kind = 2 ∧ n.decl < 0 then some n.pos else badNodeF r

def badNameF (all : List Dc) (ns : List Nd) : Nat → List Dc → Option Nat
  | _, [] => none
  | i, d :: r =>
    if findF all d.name ≠ (i : Int) then some d.pos
    else match badNodeF (seg ns d.root d.fin) with
      | some a => some a
      | none => badNameF all ns (i + 1) r

def takesT (op : Nat) : Bool := op == 11 || op == 12
def makesT (op : Nat) : Bool := op == 9 || op == 10 || takesT op

/-- the kind of declaration i. -/
def kindAt (ds : List Dc) (i : Int) : Nat := (ds.getD i.toNat ⟨0, 0, ⟨#[]⟩, 0, 0, 0, 0⟩).kind

def fitsF (ds : List Dc) (n : Nd) (truth : Bool) : Bool :=
  if n.kind = 0 then !truth
  else if n.kind = 1 ∨ n.kind = 3 then truth
  else if n.kind = 2 then truth == (kindAt ds n.decl == 2)
  else if n.kind = 6 then truth == makesT n.op
  else true

/-- what a node asks of its parts. -/
def tell (n : Nd) (t : Bool) (tr : List Bool) : List Bool :=
  if n.kind = 3 then tr.set n.a true
  else if n.kind = 4 then ((tr.set n.a true).set n.b t).set n.c t
  else if n.kind = 5 then (tr.set n.a t).set n.b t
  else if n.kind = 6 then (tr.set n.a (takesT n.op)).set n.b (takesT n.op)
  else tr

def badTypeF (ds : List Dc) : Nat → List Nd → List Bool → Option Nat
  | _, [], _ => none
  | i, n :: r, tr => if fitsF ds n (tr.getD i false) then badTypeF ds (i + 1) r (tell n (tr.getD i false) tr) else some n.pos

def roots : List Dc → List Bool → List Bool
  | [], tr => tr
  | d :: r, tr => roots r (if d.kind = 2 then tr.set d.root true else tr)

/-- what hangs on what, by its own EXPR. -/
def markSeg (i : Nat) : List Nd → Mx → Mx
  | [], M => M
  | n :: r, M => markSeg i r (if n.kind = 2 ∧ n.delayed = false then upd M i n.decl.toNat true else M)
def markAll (ns : List Nd) : Nat → List Dc → Mx → Mx
  | _, [], M => M
  | i, d :: r, M => markAll ns (i + 1) r (markSeg i (seg ns d.root d.fin) M)
def firstSelf (M : Mx) : Nat → List Dc → Option Nat
  | _, [] => none
  | i, d :: r => if M i i then some d.pos else firstSelf M (i + 1) r
def noM : Mx := fun _ _ => false
def cycleF (ds : List Dc) (ns : List Nd) : Option Nat := firstSelf (warsh (markAll ns 0 ds noM) ds.length) 0 ds

/-- what the judge's walks ask of a program. -/
structure ProgWf (ds : List Dc) (ns : List Nd) : Prop where
  dl : ds.length ≤ 1501
  nl : ns.length ≤ 1501
  segs : ∀ d ∈ ds, (d.root = 0 ∧ d.fin = 0 ∧ d.kind = 0) ∨ (d.root < d.fin ∧ d.fin ≤ ns.length)
  parts : ∀ n ∈ ns, n.a < ns.length ∧ n.b < ns.length ∧ n.c < ns.length
  decl : ∀ n ∈ ns, n.kind = 2 → -1 ≤ n.decl ∧ n.decl < (ds.length : Int)
  kind : ∀ n ∈ ns, n.kind ≤ 6
  place : ∀ d ∈ ds, d.place < 4
  later : ∀ i (h : i < ns.length), ((ns[i]'h).kind = 3 → i < (ns[i]'h).a) ∧ ((ns[i]'h).kind = 4 → i < (ns[i]'h).a ∧ (ns[i]'h).a < (ns[i]'h).b ∧ (ns[i]'h).b < (ns[i]'h).c) ∧ ((ns[i]'h).kind = 5 ∨ (ns[i]'h).kind = 6 → i < (ns[i]'h).a ∧ (ns[i]'h).a < (ns[i]'h).b)

end Go.Proofs.Ytbmhafagdchjfaa
