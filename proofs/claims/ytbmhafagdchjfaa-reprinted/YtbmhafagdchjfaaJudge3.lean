import Derived.Test.YtbmhafagdchjfaaJudge2
/- Plain mathematics: what the program answers of a text. -/
namespace Go.Proofs.Ytbmhafagdchjfaa

def meaningF (ds : List Dc) (ns : List Nd) : Nat × Nat :=
  match tooManyF ds with
  | some a => (3, a)
  | none => match badNameF ds ns 0 ds with
    | some a => (4, a)
    | none => match badTypeF ds 0 ns (roots ds (List.replicate ns.length false)) with
      | some a => (5, a)
      | none => match cycleF ds ns with
        | some a => (6, a)
        | none => match loopF ds ns with
          | some a => (7, a)
          | none => (0, 0)

structure Good (ds : List Dc) (ns : List Nd) : Prop where
  wf : ProgWf ds ns
  names : badNameF ds ns 0 ds = none → ∀ n ∈ ns, n.kind = 2 → 0 ≤ n.decl
  links : ∀ r ∈ linksF ds ns, r.src < (eqsF ds).length ∧ r.dst < 4
  many : (linksF ds ns).length ≤ 6100

/-- the nodes with their names bound. -/
def boundN (p : PS) : List Nd := p.nodes.map (bindF p.decls)

/-- the error and the place. -/
def textF (s : ByteArray) : Nat × Nat :=
  if 1500 < s.size then (1, 0)
  else match parseF s with
    | .error k => (2, (tkAt (toks s) k).pos)
    | .ok p => meaningF p.decls (boundN p)

end Go.Proofs.Ytbmhafagdchjfaa
