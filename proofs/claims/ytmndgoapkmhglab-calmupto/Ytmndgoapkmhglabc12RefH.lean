import Derived.BigRegion
import Derived.Deep.RegionLaw
import Derived.Test.Ytmndgoapkmhglabc11RefHa
namespace Go.Proofs.Ytmndgoapkmhglab
open Go.RowKit
attribute [local go_sem ↓] Go.wp_at_zero Go.wp_at_succ

end Go.Proofs.Ytmndgoapkmhglab
