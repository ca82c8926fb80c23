import Derived.Test.Ytmndgoapkmhglabc05Bytes
import Derived.Test.Ytmndgoapkmhglabc06RefA
namespace Go.Proofs.Ytmndgoapkmhglab
open Go.RowKit
attribute [local go_sem ↓] Go.wp_at_zero Go.wp_at_succ

end Go.Proofs.Ytmndgoapkmhglab
