import Derived.Test.Ytmndgoapkmhglabc05Bytes
import Derived.Test.Ytmndgoapkmhglabc07RefB
namespace Go.Proofs.Ytmndgoapkmhglab
open Go.RowKit
attribute [local go_sem ↓] Go.wp_at_zero Go.wp_at_succ
theorem Try.infoRTok : (Try.prog.info? 157).map (fun i => (i.zero, i.size, i.bytes)) = some (some (.agg #[.int .u8 0, .string ⟨#[]⟩, .int .i64 0, .int .i64 0]), 4, 40) := by kernel_rfl


end Go.Proofs.Ytmndgoapkmhglab
