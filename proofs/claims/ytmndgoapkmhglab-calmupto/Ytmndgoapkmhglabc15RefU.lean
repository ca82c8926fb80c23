import Derived.Test.Ytmndgoapkmhglabc14RefM
namespace Go.Proofs.Ytmndgoapkmhglab
open Go.RowKit
attribute [local go_sem ↓] Go.wp_at_zero Go.wp_at_succ


end Go.Proofs.Ytmndgoapkmhglab
