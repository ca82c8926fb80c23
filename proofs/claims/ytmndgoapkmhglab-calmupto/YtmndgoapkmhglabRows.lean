/-
  No cell of these rows narrows 'for every input' (looked for: loops, veiled, ifaces, maps, wideKeys, modest, calm, conditions, laid).
  DERIVED. THE GIVEN ROWS OF THIS SEAT. 5 by the template 'for every input the law returns true; each argument reads behind the call as it read before'; 0 by the template 'total and deterministic' (their statements: YtmndgoapkmhglabTotals.lean).
  GIVEN WITH THE SEED: the statements are not yours to turn. If you find one false, say at which input.
  Laid BY PROGRAM, IN A SANDBOX (cutbox-rows.mjs): the forced cells as the released guide's own fill.sh prints them over the translation a66641bb4fce5b0a… (all of the seat's roots in one cut). By AI agents, Wed Nov 11 2026. No macro, syntax, notation, axiom, sorry.
-/
import Derived.Test.YtmndgoapkmhglabChecked
import GoSem.Claim
import GoSem.ClaimJoined
import GoSem.ClaimMapViews
import Derived.JoinedTies
import Derived.KernelRfl
namespace Go.Proofs.Ytmndgoapkmhglab
/- THE CELL 'sum', in the pinned program and in every row, IS THE sha256 OF THE DUMP (.gsa) THAT YtmndgoapkmhglabProg.lean LOADS. Nothing in Lean hashes anything: it is a label: what it is worth is what the hold of that sum in a sandbox is worth. -/
noncomputable def Try.pinned : Pinned := { name := "ytmndgoapkmhglab", sum := "a66641bb4fce5b0aa1bd1fac77ab3fd009f151e8ac753eb4a0c291680ad38fd9", checked := Try.checked }
namespace Rows
def none {H : Type} : Left H := { results := [], args := [] }

/-- 'relaylaw.Latests': WHATEVER THE INPUT: true; the input reads as it did. -/
def latestsSpec : ChangeSpec := { name := "latests", fn := fun _ => fun
  | [d1, d2, d3] => { results := [.lit (.bool true)], args := [d1, d2, d3] }
  | _ => none }
def latestsRow : OpenClaim := { program := "ytmndgoapkmhglab", sum := "a66641bb4fce5b0aa1bd1fac77ab3fd009f151e8ac753eb4a0c291680ad38fd9", func := "relay/relaylaw.Latests", spec := "latests", recurses := true, apart := false }
def LatestsSaid : Prop := latestsRow.holds Try.pinned (OpenSpec.ofChange latestsSpec)

/-- ITS FALSE NEIGHBOUR: 'it returns false'. Refute it at one input. -/
def latestsWrong : ChangeSpec := { name := "latests", fn := fun _ => fun
  | [d1, d2, d3] => { results := [.lit (.bool false)], args := [d1, d2, d3] }
  | _ => none }
def LatestsWrongFalsely : Prop := latestsRow.holds Try.pinned (OpenSpec.ofChange latestsWrong)

/-- 'relaykeep.Kept': WHATEVER THE INPUT: true; the input reads as it did. -/
def keptSpec : ChangeSpec := { name := "kept", fn := fun _ => fun
  | [d1, d2, d3] => { results := [.lit (.bool true)], args := [d1, d2, d3] }
  | _ => none }
def keptRow : OpenClaim := { program := "ytmndgoapkmhglab", sum := "a66641bb4fce5b0aa1bd1fac77ab3fd009f151e8ac753eb4a0c291680ad38fd9", func := "relay/relaykeep.Kept", spec := "kept", recurses := true, apart := false }
def KeptSaid : Prop := keptRow.holds Try.pinned (OpenSpec.ofChange keptSpec)

/-- ITS FALSE NEIGHBOUR: 'it returns false'. Refute it at one input. -/
def keptWrong : ChangeSpec := { name := "kept", fn := fun _ => fun
  | [d1, d2, d3] => { results := [.lit (.bool false)], args := [d1, d2, d3] }
  | _ => none }
def KeptWrongFalsely : Prop := keptRow.holds Try.pinned (OpenSpec.ofChange keptWrong)

/-- 'relaykeep.Once': WHATEVER THE INPUT: true; the input reads as it did. -/
def onceSpec : ChangeSpec := { name := "once", fn := fun _ => fun
  | [d1, d2, d3] => { results := [.lit (.bool true)], args := [d1, d2, d3] }
  | _ => none }
def onceRow : OpenClaim := { program := "ytmndgoapkmhglab", sum := "a66641bb4fce5b0aa1bd1fac77ab3fd009f151e8ac753eb4a0c291680ad38fd9", func := "relay/relaykeep.Once", spec := "once", recurses := true, apart := false }
def OnceSaid : Prop := onceRow.holds Try.pinned (OpenSpec.ofChange onceSpec)

/-- ITS FALSE NEIGHBOUR: 'it returns false'. Refute it at one input. -/
def onceWrong : ChangeSpec := { name := "once", fn := fun _ => fun
  | [d1, d2, d3] => { results := [.lit (.bool false)], args := [d1, d2, d3] }
  | _ => none }
def OnceWrongFalsely : Prop := onceRow.holds Try.pinned (OpenSpec.ofChange onceWrong)

/-- 'relaykeep.Broken': WHATEVER THE INPUT: true; the input reads as it did. -/
def brokenSpec : ChangeSpec := { name := "broken", fn := fun _ => fun
  | [d1, d2, d3, d4] => { results := [.lit (.bool true)], args := [d1, d2, d3, d4] }
  | _ => none }
def brokenRow : OpenClaim := { program := "ytmndgoapkmhglab", sum := "a66641bb4fce5b0aa1bd1fac77ab3fd009f151e8ac753eb4a0c291680ad38fd9", func := "relay/relaykeep.Broken", spec := "broken", recurses := true, apart := false }
def BrokenSaid : Prop := brokenRow.holds Try.pinned (OpenSpec.ofChange brokenSpec)

/-- ITS FALSE NEIGHBOUR: 'it returns false'. Refute it at one input. -/
def brokenWrong : ChangeSpec := { name := "broken", fn := fun _ => fun
  | [d1, d2, d3, d4] => { results := [.lit (.bool false)], args := [d1, d2, d3, d4] }
  | _ => none }
def BrokenWrongFalsely : Prop := brokenRow.holds Try.pinned (OpenSpec.ofChange brokenWrong)

/-- 'relaykeep.Calm': WHATEVER THE INPUT: true; the input reads as it did. -/
def calmSpec : ChangeSpec := { name := "calm", fn := fun _ => fun
  | [d1, d2, d3, d4, d5, d6, d7, d8] => { results := [.lit (.bool true)], args := [d1, d2, d3, d4, d5, d6, d7, d8] }
  | _ => none }
def calmRow : OpenClaim := { program := "ytmndgoapkmhglab", sum := "a66641bb4fce5b0aa1bd1fac77ab3fd009f151e8ac753eb4a0c291680ad38fd9", func := "relay/relaykeep.Calm", spec := "calm", recurses := true, apart := false }
def CalmSaid : Prop := calmRow.holds Try.pinned (OpenSpec.ofChange calmSpec)

/-- ITS FALSE NEIGHBOUR: 'it returns false'. Refute it at one input. -/
def calmWrong : ChangeSpec := { name := "calm", fn := fun _ => fun
  | [d1, d2, d3, d4, d5, d6, d7, d8] => { results := [.lit (.bool false)], args := [d1, d2, d3, d4, d5, d6, d7, d8] }
  | _ => none }
def CalmWrongFalsely : Prop := calmRow.holds Try.pinned (OpenSpec.ofChange calmWrong)

/- THE SECOND FORM. 'bulk': how many values and letters a reading holds, each counted each time it is reached (what is shared counts as often as it is met; a slice's spare places count too). A statement '..UptoSaid' is the law's where the arguments, and the package variables that the reading takes, are together of bulk at most 1048576: NARROWER than '..Said'. Prove '..Said' where nothing that the law and all that it calls make is longer than what came in: it says more and counts as full. Else prove '..UptoSaid'. A law counts once. -/
mutual
def uptoBulk {H : Type} : DataW H → Nat
  | .lit (.string bytes) => bytes.length + 1
  | .lit _ => 1
  | .nil => 1
  | .ptr d => uptoBulk d + 1
  | .slice elems spare => uptoBulkAll elems + uptoBulkAll spare + 1
  | .agg parts => uptoBulkAll parts + 1
  | .iface _ d => uptoBulk d + 1
  | .map entries => uptoBulkEntries entries + 1
  | .held _ => 1
def uptoBulkAll {H : Type} : List (DataW H) → Nat
  | [] => 0
  | d :: r => uptoBulk d + uptoBulkAll r
def uptoBulkEntries {H : Type} : List (Lit × DataW H) → Nat
  | [] => 0
  | x :: r => uptoBulkEntry x + uptoBulkEntries r
def uptoBulkEntry {H : Type} : Lit × DataW H → Nat
  | (.string bytes, d) => bytes.length + uptoBulk d + 1
  | (_, d) => uptoBulk d + 1
 end
def uptoSmall : (H : Type) → List (DataW H) → Bool := fun _ ds => decide (uptoBulkAll ds ≤ 1048576)
def OpenSpec.upto (s : _root_.Go.ChangeSpec) : _root_.Go.OpenSpec := { _root_.Go.OpenSpec.ofChange s with cond := some uptoSmall }

/-- 'relaylaw.Latests', WHERE WHAT IT READS IS OF BULK AT MOST 1048576: true; the input reads as it did. -/
def latestsUptoRow : OpenClaim := { program := "ytmndgoapkmhglab", sum := "a66641bb4fce5b0aa1bd1fac77ab3fd009f151e8ac753eb4a0c291680ad38fd9", func := "relay/relaylaw.Latests", spec := "latests", recurses := true, apart := false, narrowed := true }
def LatestsUptoSaid : Prop := latestsUptoRow.holds Try.pinned (OpenSpec.upto latestsSpec)

/-- 'relaykeep.Kept', WHERE WHAT IT READS IS OF BULK AT MOST 1048576: true; the input reads as it did. -/
def keptUptoRow : OpenClaim := { program := "ytmndgoapkmhglab", sum := "a66641bb4fce5b0aa1bd1fac77ab3fd009f151e8ac753eb4a0c291680ad38fd9", func := "relay/relaykeep.Kept", spec := "kept", recurses := true, apart := false, narrowed := true }
def KeptUptoSaid : Prop := keptUptoRow.holds Try.pinned (OpenSpec.upto keptSpec)

/-- 'relaykeep.Once', WHERE WHAT IT READS IS OF BULK AT MOST 1048576: true; the input reads as it did. -/
def onceUptoRow : OpenClaim := { program := "ytmndgoapkmhglab", sum := "a66641bb4fce5b0aa1bd1fac77ab3fd009f151e8ac753eb4a0c291680ad38fd9", func := "relay/relaykeep.Once", spec := "once", recurses := true, apart := false, narrowed := true }
def OnceUptoSaid : Prop := onceUptoRow.holds Try.pinned (OpenSpec.upto onceSpec)

/-- 'relaykeep.Broken', WHERE WHAT IT READS IS OF BULK AT MOST 1048576: true; the input reads as it did. -/
def brokenUptoRow : OpenClaim := { program := "ytmndgoapkmhglab", sum := "a66641bb4fce5b0aa1bd1fac77ab3fd009f151e8ac753eb4a0c291680ad38fd9", func := "relay/relaykeep.Broken", spec := "broken", recurses := true, apart := false, narrowed := true }
def BrokenUptoSaid : Prop := brokenUptoRow.holds Try.pinned (OpenSpec.upto brokenSpec)

/-- 'relaykeep.Calm', WHERE WHAT IT READS IS OF BULK AT MOST 1048576: true; the input reads as it did. -/
def calmUptoRow : OpenClaim := { program := "ytmndgoapkmhglab", sum := "a66641bb4fce5b0aa1bd1fac77ab3fd009f151e8ac753eb4a0c291680ad38fd9", func := "relay/relaykeep.Calm", spec := "calm", recurses := true, apart := false, narrowed := true }
def CalmUptoSaid : Prop := calmUptoRow.holds Try.pinned (OpenSpec.upto calmSpec)

end Rows
end Go.Proofs.Ytmndgoapkmhglab
