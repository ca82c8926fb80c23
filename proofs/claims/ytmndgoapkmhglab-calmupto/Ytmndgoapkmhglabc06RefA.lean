import Derived.Test.Ytmndgoapkmhglabc02RefClass
import Derived.Test.Ytmndgoapkmhglabc03ParB
import Derived.Test.Ytmndgoapkmhglabc05Bytes
namespace Go.Proofs.Ytmndgoapkmhglab

def kwL : List (List UInt8) := [[40], [41], [59], [61], [43], [45], [42], [47], [60], [38], [124], kIn, kInt, kBool, kAt, kIf, kFby, kNot, kTrue, kFalse]
section
variable {k : Nat} {ts ts' : List Tk}
end
section
variable {k : Nat} {ts ts' : List Tk}
end
end Go.Proofs.Ytmndgoapkmhglab
namespace Go.Proofs.Ytmndgoapkmhglab
open Go.RowKit
attribute [local go_sem ↓] Go.wp_at_zero Go.wp_at_succ

end Go.Proofs.Ytmndgoapkmhglab
