import Derived.Test.Ytmndgoapkmhglabc15RefU
import Derived.Test.Ytmndgoapkmhglabc26JudI
namespace Go.Proofs.Ytmndgoapkmhglab
open Go.RowKit
attribute [local go_sem ↓] Go.wp_at_zero Go.wp_at_succ

end Go.Proofs.Ytmndgoapkmhglab
