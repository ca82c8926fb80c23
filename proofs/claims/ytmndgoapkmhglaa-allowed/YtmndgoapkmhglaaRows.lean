/-
  No cell of these rows narrows 'for every input' (looked for: loops, veiled, ifaces, maps, wideKeys, modest, calm, conditions, laid).
  DERIVED. THE GIVEN ROWS OF THIS SEAT. 9 by the template 'for every input the law returns true; each argument reads behind the call as it read before'; 0 by the template 'total and deterministic' (their statements: YtmndgoapkmhglaaTotals.lean).
  GIVEN WITH THE SEED: the statements are not yours to turn. If you find one false, say at which input.
  Laid BY PROGRAM, IN A SANDBOX (cutbox-rows.mjs): the forced cells as the released guide's own fill.sh prints them over the translation 2f5dbcba47788de4… (all of the seat's roots in one cut). By AI agents, Wed Nov 11 2026. No macro, syntax, notation, axiom, sorry.
-/
import Derived.Test.YtmndgoapkmhglaaChecked
import GoSem.Claim
import GoSem.ClaimJoined
import GoSem.ClaimMapViews
import Derived.JoinedTies
import Derived.KernelRfl
namespace Go.Proofs.Ytmndgoapkmhglaa
/- THE CELL 'sum', in the pinned program and in every row, IS THE sha256 OF THE DUMP (.gsa) THAT YtmndgoapkmhglaaProg.lean LOADS. Nothing in Lean hashes anything: it is a label: what it is worth is what the hold of that sum in a sandbox is worth. -/
noncomputable def Try.pinned : Pinned := { name := "ytmndgoapkmhglaa", sum := "2f5dbcba47788de4ed3abb13f3bfa10961e4d5a8c3a4650e8be9d25b14fa9aac", checked := Try.checked }
namespace Rows
def none {H : Type} : Left H := { results := [], args := [] }

/-- 'relaylaw.Checks': WHATEVER THE INPUT: true; the input reads as it did. -/
def checksSpec : ChangeSpec := { name := "checks", fn := fun _ => fun
  | [d] => { results := [.lit (.bool true)], args := [d] }
  | _ => none }
def checksRow : OpenClaim := { program := "ytmndgoapkmhglaa", sum := "2f5dbcba47788de4ed3abb13f3bfa10961e4d5a8c3a4650e8be9d25b14fa9aac", func := "relay/relaylaw.Checks", spec := "checks", recurses := true, apart := false }
def ChecksSaid : Prop := checksRow.holds Try.pinned (OpenSpec.ofChange checksSpec)

/-- ITS FALSE NEIGHBOUR: 'it returns false'. Refute it at one input. -/
def checksWrong : ChangeSpec := { name := "checks", fn := fun _ => fun
  | [d] => { results := [.lit (.bool false)], args := [d] }
  | _ => none }
def ChecksWrongFalsely : Prop := checksRow.holds Try.pinned (OpenSpec.ofChange checksWrong)

/-- 'relaykeep.Reprinted': WHATEVER THE INPUT: true; the input reads as it did. -/
def reprintedSpec : ChangeSpec := { name := "reprinted", fn := fun _ => fun
  | [d] => { results := [.lit (.bool true)], args := [d] }
  | _ => none }
def reprintedRow : OpenClaim := { program := "ytmndgoapkmhglaa", sum := "2f5dbcba47788de4ed3abb13f3bfa10961e4d5a8c3a4650e8be9d25b14fa9aac", func := "relay/relaykeep.Reprinted", spec := "reprinted", recurses := true, apart := false }
def ReprintedSaid : Prop := reprintedRow.holds Try.pinned (OpenSpec.ofChange reprintedSpec)

/-- ITS FALSE NEIGHBOUR: 'it returns false'. Refute it at one input. -/
def reprintedWrong : ChangeSpec := { name := "reprinted", fn := fun _ => fun
  | [d] => { results := [.lit (.bool false)], args := [d] }
  | _ => none }
def ReprintedWrongFalsely : Prop := reprintedRow.holds Try.pinned (OpenSpec.ofChange reprintedWrong)

/-- 'relaykeep.Spaced': WHATEVER THE INPUT: true; the input reads as it did. -/
def spacedSpec : ChangeSpec := { name := "spaced", fn := fun _ => fun
  | [d] => { results := [.lit (.bool true)], args := [d] }
  | _ => none }
def spacedRow : OpenClaim := { program := "ytmndgoapkmhglaa", sum := "2f5dbcba47788de4ed3abb13f3bfa10961e4d5a8c3a4650e8be9d25b14fa9aac", func := "relay/relaykeep.Spaced", spec := "spaced", recurses := true, apart := false }
def SpacedSaid : Prop := spacedRow.holds Try.pinned (OpenSpec.ofChange spacedSpec)

/-- ITS FALSE NEIGHBOUR: 'it returns false'. Refute it at one input. -/
def spacedWrong : ChangeSpec := { name := "spaced", fn := fun _ => fun
  | [d] => { results := [.lit (.bool false)], args := [d] }
  | _ => none }
def SpacedWrongFalsely : Prop := spacedRow.holds Try.pinned (OpenSpec.ofChange spacedWrong)

/-- 'relaylaw.Linked': WHATEVER THE INPUT: true; the input reads as it did. -/
def linkedSpec : ChangeSpec := { name := "linked", fn := fun _ => fun
  | [d] => { results := [.lit (.bool true)], args := [d] }
  | _ => none }
def linkedRow : OpenClaim := { program := "ytmndgoapkmhglaa", sum := "2f5dbcba47788de4ed3abb13f3bfa10961e4d5a8c3a4650e8be9d25b14fa9aac", func := "relay/relaylaw.Linked", spec := "linked", recurses := true, apart := false }
def LinkedSaid : Prop := linkedRow.holds Try.pinned (OpenSpec.ofChange linkedSpec)

/-- ITS FALSE NEIGHBOUR: 'it returns false'. Refute it at one input. -/
def linkedWrong : ChangeSpec := { name := "linked", fn := fun _ => fun
  | [d] => { results := [.lit (.bool false)], args := [d] }
  | _ => none }
def LinkedWrongFalsely : Prop := linkedRow.holds Try.pinned (OpenSpec.ofChange linkedWrong)

/-- 'relaykeep.Prefixed': WHATEVER THE INPUT: true; the input reads as it did. -/
def prefixedSpec : ChangeSpec := { name := "prefixed", fn := fun _ => fun
  | [d1, d2, d3, d4] => { results := [.lit (.bool true)], args := [d1, d2, d3, d4] }
  | _ => none }
def prefixedRow : OpenClaim := { program := "ytmndgoapkmhglaa", sum := "2f5dbcba47788de4ed3abb13f3bfa10961e4d5a8c3a4650e8be9d25b14fa9aac", func := "relay/relaykeep.Prefixed", spec := "prefixed", recurses := true, apart := false }
def PrefixedSaid : Prop := prefixedRow.holds Try.pinned (OpenSpec.ofChange prefixedSpec)

/-- ITS FALSE NEIGHBOUR: 'it returns false'. Refute it at one input. -/
def prefixedWrong : ChangeSpec := { name := "prefixed", fn := fun _ => fun
  | [d1, d2, d3, d4] => { results := [.lit (.bool false)], args := [d1, d2, d3, d4] }
  | _ => none }
def PrefixedWrongFalsely : Prop := prefixedRow.holds Try.pinned (OpenSpec.ofChange prefixedWrong)

/-- 'relaykeep.Moved': WHATEVER THE INPUT: true; the input reads as it did. -/
def movedSpec : ChangeSpec := { name := "moved", fn := fun _ => fun
  | [d1, d2, d3, d4] => { results := [.lit (.bool true)], args := [d1, d2, d3, d4] }
  | _ => none }
def movedRow : OpenClaim := { program := "ytmndgoapkmhglaa", sum := "2f5dbcba47788de4ed3abb13f3bfa10961e4d5a8c3a4650e8be9d25b14fa9aac", func := "relay/relaykeep.Moved", spec := "moved", recurses := true, apart := false }
def MovedSaid : Prop := movedRow.holds Try.pinned (OpenSpec.ofChange movedSpec)

/-- ITS FALSE NEIGHBOUR: 'it returns false'. Refute it at one input. -/
def movedWrong : ChangeSpec := { name := "moved", fn := fun _ => fun
  | [d1, d2, d3, d4] => { results := [.lit (.bool false)], args := [d1, d2, d3, d4] }
  | _ => none }
def MovedWrongFalsely : Prop := movedRow.holds Try.pinned (OpenSpec.ofChange movedWrong)

/-- 'relaykeep.Known': WHATEVER THE INPUT: true; the input reads as it did. -/
def knownSpec : ChangeSpec := { name := "known", fn := fun _ => fun
  | [d1, d2, d3] => { results := [.lit (.bool true)], args := [d1, d2, d3] }
  | _ => none }
def knownRow : OpenClaim := { program := "ytmndgoapkmhglaa", sum := "2f5dbcba47788de4ed3abb13f3bfa10961e4d5a8c3a4650e8be9d25b14fa9aac", func := "relay/relaykeep.Known", spec := "known", recurses := true, apart := false }
def KnownSaid : Prop := knownRow.holds Try.pinned (OpenSpec.ofChange knownSpec)

/-- ITS FALSE NEIGHBOUR: 'it returns false'. Refute it at one input. -/
def knownWrong : ChangeSpec := { name := "known", fn := fun _ => fun
  | [d1, d2, d3] => { results := [.lit (.bool false)], args := [d1, d2, d3] }
  | _ => none }
def KnownWrongFalsely : Prop := knownRow.holds Try.pinned (OpenSpec.ofChange knownWrong)

/-- 'relaylaw.Machine': WHATEVER THE INPUT: true; the input reads as it did. -/
def machineSpec : ChangeSpec := { name := "machine", fn := fun _ => fun
  | [d1, d2, d3, d4, d5] => { results := [.lit (.bool true)], args := [d1, d2, d3, d4, d5] }
  | _ => none }
def machineRow : OpenClaim := { program := "ytmndgoapkmhglaa", sum := "2f5dbcba47788de4ed3abb13f3bfa10961e4d5a8c3a4650e8be9d25b14fa9aac", func := "relay/relaylaw.Machine", spec := "machine", apart := false }
def MachineSaid : Prop := machineRow.holds Try.pinned (OpenSpec.ofChange machineSpec)

/-- ITS FALSE NEIGHBOUR: 'it returns false'. Refute it at one input. -/
def machineWrong : ChangeSpec := { name := "machine", fn := fun _ => fun
  | [d1, d2, d3, d4, d5] => { results := [.lit (.bool false)], args := [d1, d2, d3, d4, d5] }
  | _ => none }
def MachineWrongFalsely : Prop := machineRow.holds Try.pinned (OpenSpec.ofChange machineWrong)

/-- 'relaylaw.Allowed': WHATEVER THE INPUT: true; the input reads as it did. -/
def allowedSpec : ChangeSpec := { name := "allowed", fn := fun _ => fun
  | [d1, d2, d3] => { results := [.lit (.bool true)], args := [d1, d2, d3] }
  | _ => none }
def allowedRow : OpenClaim := { program := "ytmndgoapkmhglaa", sum := "2f5dbcba47788de4ed3abb13f3bfa10961e4d5a8c3a4650e8be9d25b14fa9aac", func := "relay/relaylaw.Allowed", spec := "allowed", recurses := true, apart := false }
def AllowedSaid : Prop := allowedRow.holds Try.pinned (OpenSpec.ofChange allowedSpec)

/-- ITS FALSE NEIGHBOUR: 'it returns false'. Refute it at one input. -/
def allowedWrong : ChangeSpec := { name := "allowed", fn := fun _ => fun
  | [d1, d2, d3] => { results := [.lit (.bool false)], args := [d1, d2, d3] }
  | _ => none }
def AllowedWrongFalsely : Prop := allowedRow.holds Try.pinned (OpenSpec.ofChange allowedWrong)

/- THE SECOND FORM. 'bulk': how many values and letters a reading holds, each counted each time it is reached (what is shared counts as often as it is met; a slice's spare places count too). A statement '..UptoSaid' is the law's where the arguments, and the package variables that the reading takes, are together of bulk at most 1048576: NARROWER than '..Said'. Prove '..Said' where nothing that the law and all that it calls make is longer than what came in: it says more and counts as full. Else prove '..UptoSaid'. A law counts once. -/
mutual
def uptoBulk {H : Type} : DataW H → Nat
  | .lit (.string bytes) => bytes.length + 1
  | .lit _ => 1
  | .nil => 1
  | .ptr d => uptoBulk d + 1
  | .slice elems spare => uptoBulkAll elems + uptoBulkAll spare + 1
  | .agg parts => uptoBulkAll parts + 1
  | .iface _ d => uptoBulk d + 1
  | .map entries => uptoBulkEntries entries + 1
  | .held _ => 1
def uptoBulkAll {H : Type} : List (DataW H) → Nat
  | [] => 0
  | d :: r => uptoBulk d + uptoBulkAll r
def uptoBulkEntries {H : Type} : List (Lit × DataW H) → Nat
  | [] => 0
  | x :: r => uptoBulkEntry x + uptoBulkEntries r
def uptoBulkEntry {H : Type} : Lit × DataW H → Nat
  | (.string bytes, d) => bytes.length + uptoBulk d + 1
  | (_, d) => uptoBulk d + 1
 end
def uptoSmall : (H : Type) → List (DataW H) → Bool := fun _ ds => decide (uptoBulkAll ds ≤ 1048576)
def OpenSpec.upto (s : _root_.Go.ChangeSpec) : _root_.Go.OpenSpec := { _root_.Go.OpenSpec.ofChange s with cond := some uptoSmall }

/-- 'relaylaw.Checks', WHERE WHAT IT READS IS OF BULK AT MOST 1048576: true; the input reads as it did. -/
def checksUptoRow : OpenClaim := { program := "ytmndgoapkmhglaa", sum := "2f5dbcba47788de4ed3abb13f3bfa10961e4d5a8c3a4650e8be9d25b14fa9aac", func := "relay/relaylaw.Checks", spec := "checks", recurses := true, apart := false, narrowed := true }
def ChecksUptoSaid : Prop := checksUptoRow.holds Try.pinned (OpenSpec.upto checksSpec)

/-- 'relaykeep.Reprinted', WHERE WHAT IT READS IS OF BULK AT MOST 1048576: true; the input reads as it did. -/
def reprintedUptoRow : OpenClaim := { program := "ytmndgoapkmhglaa", sum := "2f5dbcba47788de4ed3abb13f3bfa10961e4d5a8c3a4650e8be9d25b14fa9aac", func := "relay/relaykeep.Reprinted", spec := "reprinted", recurses := true, apart := false, narrowed := true }
def ReprintedUptoSaid : Prop := reprintedUptoRow.holds Try.pinned (OpenSpec.upto reprintedSpec)

/-- 'relaykeep.Spaced', WHERE WHAT IT READS IS OF BULK AT MOST 1048576: true; the input reads as it did. -/
def spacedUptoRow : OpenClaim := { program := "ytmndgoapkmhglaa", sum := "2f5dbcba47788de4ed3abb13f3bfa10961e4d5a8c3a4650e8be9d25b14fa9aac", func := "relay/relaykeep.Spaced", spec := "spaced", recurses := true, apart := false, narrowed := true }
def SpacedUptoSaid : Prop := spacedUptoRow.holds Try.pinned (OpenSpec.upto spacedSpec)

/-- 'relaylaw.Linked', WHERE WHAT IT READS IS OF BULK AT MOST 1048576: true; the input reads as it did. -/
def linkedUptoRow : OpenClaim := { program := "ytmndgoapkmhglaa", sum := "2f5dbcba47788de4ed3abb13f3bfa10961e4d5a8c3a4650e8be9d25b14fa9aac", func := "relay/relaylaw.Linked", spec := "linked", recurses := true, apart := false, narrowed := true }
def LinkedUptoSaid : Prop := linkedUptoRow.holds Try.pinned (OpenSpec.upto linkedSpec)

/-- 'relaykeep.Prefixed', WHERE WHAT IT READS IS OF BULK AT MOST 1048576: true; the input reads as it did. -/
def prefixedUptoRow : OpenClaim := { program := "ytmndgoapkmhglaa", sum := "2f5dbcba47788de4ed3abb13f3bfa10961e4d5a8c3a4650e8be9d25b14fa9aac", func := "relay/relaykeep.Prefixed", spec := "prefixed", recurses := true, apart := false, narrowed := true }
def PrefixedUptoSaid : Prop := prefixedUptoRow.holds Try.pinned (OpenSpec.upto prefixedSpec)

/-- 'relaykeep.Moved', WHERE WHAT IT READS IS OF BULK AT MOST 1048576: true; the input reads as it did. -/
def movedUptoRow : OpenClaim := { program := "ytmndgoapkmhglaa", sum := "2f5dbcba47788de4ed3abb13f3bfa10961e4d5a8c3a4650e8be9d25b14fa9aac", func := "relay/relaykeep.Moved", spec := "moved", recurses := true, apart := false, narrowed := true }
def MovedUptoSaid : Prop := movedUptoRow.holds Try.pinned (OpenSpec.upto movedSpec)

/-- 'relaykeep.Known', WHERE WHAT IT READS IS OF BULK AT MOST 1048576: true; the input reads as it did. -/
def knownUptoRow : OpenClaim := { program := "ytmndgoapkmhglaa", sum := "2f5dbcba47788de4ed3abb13f3bfa10961e4d5a8c3a4650e8be9d25b14fa9aac", func := "relay/relaykeep.Known", spec := "known", recurses := true, apart := false, narrowed := true }
def KnownUptoSaid : Prop := knownUptoRow.holds Try.pinned (OpenSpec.upto knownSpec)

/-- 'relaylaw.Machine', WHERE WHAT IT READS IS OF BULK AT MOST 1048576: true; the input reads as it did. -/
def machineUptoRow : OpenClaim := { program := "ytmndgoapkmhglaa", sum := "2f5dbcba47788de4ed3abb13f3bfa10961e4d5a8c3a4650e8be9d25b14fa9aac", func := "relay/relaylaw.Machine", spec := "machine", apart := false, narrowed := true }
def MachineUptoSaid : Prop := machineUptoRow.holds Try.pinned (OpenSpec.upto machineSpec)

/-- 'relaylaw.Allowed', WHERE WHAT IT READS IS OF BULK AT MOST 1048576: true; the input reads as it did. -/
def allowedUptoRow : OpenClaim := { program := "ytmndgoapkmhglaa", sum := "2f5dbcba47788de4ed3abb13f3bfa10961e4d5a8c3a4650e8be9d25b14fa9aac", func := "relay/relaylaw.Allowed", spec := "allowed", recurses := true, apart := false, narrowed := true }
def AllowedUptoSaid : Prop := allowedUptoRow.holds Try.pinned (OpenSpec.upto allowedSpec)

end Rows
end Go.Proofs.Ytmndgoapkmhglaa
