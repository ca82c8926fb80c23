import Derived.Test.YtbmhafagdchjfaaJudge
/- Plain mathematics: links, and places that wait for each other. -/
namespace Go.Proofs.Ytbmhafagdchjfaa

def usesSeg (decl : Nat) : List Nd → Bool → Bool → Bool × Bool
  | [], u, p => (u, p)
  | n :: r, u, p => if n.kind = 2 ∧ n.decl = (decl : Int) then usesSeg decl r true (p || !n.behind) else usesSeg decl r u p
def usesAll (ns : List Nd) (decl place : Nat) : List Dc → Bool → Bool → Bool × Bool
  | [], u, p => (u, p)
  | d :: r, u, p => if d.kind = 0 ∨ d.place ≠ place then usesAll ns decl place r u p
      else usesAll ns decl place r (usesSeg decl (seg ns d.root d.fin) u p).1 (usesSeg decl (seg ns d.root d.fin) u p).2
def usesF (ds : List Dc) (ns : List Nd) (decl place : Nat) : Bool × Bool := usesAll ns decl place ds false false

structure Rt where
  src : Nat
  dst : Nat
  late : Bool

def linkAt (ds : List Dc) (ns : List Nd) (i : Nat) (d : Dc) (q : Nat) : List Rt :=
  if (usesF ds ns i q).1 = true ∧ q ≠ d.place then [⟨d.number, q, !(usesF ds ns i q).2⟩] else []
def linksTo (ds : List Dc) (ns : List Nd) (i : Nat) (d : Dc) : Nat → List Rt
  | 0 => []
  | q + 1 => linksTo ds ns i d q ++ linkAt ds ns i d q
/-- the links of the declarations from k on. -/
def linksFrom (ds : List Dc) (ns : List Nd) : Nat → List Dc → List Rt
  | _, [] => []
  | i, d :: r => (if d.kind = 0 then [] else linksTo ds ns i d 4) ++ linksFrom ds ns (i + 1) r
def linksF (ds : List Dc) (ns : List Nd) : List Rt := linksFrom ds ns 0 ds

def eqsF (ds : List Dc) : List Dc := ds.filter fun d => d.kind != 0
def waitsM (es : List Dc) : List Rt → Mx → Mx
  | [], M => M
  | r :: l, M => waitsM es l (if r.late = true then M else upd M r.dst (es.getD r.src ⟨0, 0, ⟨#[]⟩, 0, 0, 0, 0⟩).place true)
def firstAt (M : Mx) : List Dc → Option Nat
  | [] => none
  | d :: r => if M d.place d.place then some d.pos else firstAt M r
def loopF (ds : List Dc) (ns : List Nd) : Option Nat := firstAt (warsh (waitsM (eqsF ds) (linksF ds ns) noM) 4) (eqsF ds)

theorem linksTo_len (ds : List Dc) (ns : List Nd) (i : Nat) (d : Dc) : ∀ q, (linksTo ds ns i d q).length ≤ q := by
  intro q
  induction q with
  | zero => simp [linksTo]
  | succ q ih =>
    simp only [linksTo, List.length_append, linkAt]
    split <;> simp <;> omega

end Go.Proofs.Ytbmhafagdchjfaa
