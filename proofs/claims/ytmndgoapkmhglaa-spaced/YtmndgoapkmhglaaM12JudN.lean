import Derived.Test.YtmndgoapkmhglaaM10Wide
namespace Go.Proofs.Ytmndgoapkmhglaa
open Go.RowKit
attribute [local go_sem ↓] Go.wp_at_zero Go.wp_at_succ

set_option maxHeartbeats 1000000 in
set_option maxRecDepth 100000 in
theorem check_any (s : ByteArray) (w : World) (hs : s.size ≤ maxLen) (hg : s.size ≤ 1500 → ∀ p, parseF s = .ok p → Good p.decls (boundN p)) :
    Calls Try.prog 12 #[.string s] w fun e w' => e = .returned (.tuple #[.int .i64 ((textF s).1 : Int), .int .i64 ((textF s).2 : Int)]) ∧ Below w.heap.size w w' := by
  go_enter Try.func12, Try.ntmps12
  go_wp2_with fail
  refine (text_any s w hs hg).mono ?_
  rintro e w1 ⟨⟨vd, vn, rfl, hr⟩, hb1⟩
  have hv : (∃ a n c, vd = .slice a n c) ∧ (∃ a n c, vn = .slice a n c) := by
    rcases hr with ⟨_, rfl, rfl⟩ | ⟨_, p, _, h1, h2, _⟩
    · exact ⟨⟨_, _, _, rfl⟩, ⟨_, _, _, rfl⟩⟩
    · exact ⟨h1, h2⟩
  obtain ⟨⟨a1, n1, c1, rfl⟩, ⟨a2, n2, c2, rfl⟩⟩ := hv
  clear hr hg hs
  go_wp2_with fail
  go_ret2
  exact ⟨rfl, hb1.alloc hb1.size _⟩

end Go.Proofs.Ytmndgoapkmhglaa
