import Derived.Test.Ytmndgoapkmhglabc16RefS
import Derived.Test.Ytmndgoapkmhglabc25RefP
import Derived.Test.Ytmndgoapkmhglabc27RefV
namespace Go.Proofs.Ytmndgoapkmhglab
open Go.RowKit
attribute [local go_sem ↓] Go.wp_at_zero Go.wp_at_succ



end Go.Proofs.Ytmndgoapkmhglab
