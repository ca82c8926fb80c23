import Derived.Test.Ytmndgoapkmhglabc11RefHa
import Derived.Test.Ytmndgoapkmhglabc12RefH
import Derived.Test.Ytmndgoapkmhglabc14RefM
import Derived.Test.Ytmndgoapkmhglabc25RefP
import Derived.Test.Ytmndgoapkmhglabc28RefX
import Derived.Test.Ytmndgoapkmhglabc30LawP
namespace Go.Proofs.Ytmndgoapkmhglab
open Go.RowKit
attribute [local go_sem ↓] Go.wp_at_zero Go.wp_at_succ

end Go.Proofs.Ytmndgoapkmhglab
