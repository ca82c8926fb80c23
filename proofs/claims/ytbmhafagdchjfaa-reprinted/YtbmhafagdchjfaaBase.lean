import Derived.Test.YtbmhafagdchjfaaRows
import Derived.Test.YtbmhafagdchjfaaToks
import Derived.WalkKit
import Derived.WalkSpells
import Derived.WalkLawsBesides
import Derived.BigQuiet
import Derived.Deep.QuietTactic
namespace Go.Proofs.Ytbmhafagdchjfaa
open Go.RowKit

theorem hide {p : Prop} (h : p) : Hid p := h
theorem ret_intN {k : IntKind} {a b : Int} (h : a = b) : Ending.returned (.int k a) = .returned (.int k b) := by rw [h]


theorem wrapI (x : Int) (h : -1000000000 ≤ x) (h2 : x ≤ 1000000000) : IntKind.i64.wrap x = x := by
  rw [IntKind.wrap_i64]
  omega
/-- a string's test against a constant, both ways. -/
theorem str_yes {t : ByteArray} {l : List UInt8} (h : t.data.toList = l) : t.toList = l := by rw [ByteArray.toList_eq]; exact h
theorem str_no {t : ByteArray} {l : List UInt8} (h : t.data.toList ≠ l) : (t.toList == l) = false := by
  rw [ByteArray.toList_eq]; simpa using h
theorem size_len (t : ByteArray) : t.data.toList.length = t.size := Array.length_toList

end Go.Proofs.Ytbmhafagdchjfaa
