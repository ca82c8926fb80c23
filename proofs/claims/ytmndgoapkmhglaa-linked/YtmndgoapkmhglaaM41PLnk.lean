import Derived.Test.YtmndgoapkmhglaaM09JudK
import Derived.Test.YtmndgoapkmhglaaM10Wide
import Derived.Test.YtmndgoapkmhglaaM19ROkP
import Derived.Test.YtmndgoapkmhglaaM24HeldT
/- what a program's Links must hand over. -/
namespace Go.Proofs.Ytmndgoapkmhglaa
open Go.RowKit

/-- what a program's Links answers. -/
def LkQ (s : ByteArray) (B : Nat) (w' : World) (v : Value) : Prop :=
  if (textF s).1 = 0 then ∀ L, RGood s L → ROk (toks s) L → w'.ownsRow B 42 3 v (routesR (toks s) L).length (rtCells (routesR (toks s) L)) else ∃ a cap, v = .slice a 0 cap

end Go.Proofs.Ytmndgoapkmhglaa

/- Links of the program. -/
namespace Go.Proofs.Ytmndgoapkmhglaa
open Go.RowKit
attribute [local go_sem ↓] Go.wp_at_zero Go.wp_at_succ

set_option maxHeartbeats 1000000 in
set_option maxRecDepth 100000 in
theorem plinks_any (s : ByteArray) (hs : s.size ≤ maxLen) (w : World) :
    Calls Try.prog 20 #[.string s] w fun e w' => ∃ v, e = .returned (.tuple #[v, .int .i64 ((textF s).1 : Int)]) ∧ LkQ s w.heap.size w' v ∧ Below w.heap.size w w' := by
  go_enter Try.func20, Try.ntmps20
  go_wp2_with fail
  refine (text_any s w hs (good_parse s)).mono ?_
  rintro e w1 ⟨⟨vd, vn, rfl, hr⟩, hb1⟩
  rcases hr with ⟨h0, rfl, rfl⟩ | ⟨h0, p, hp, ⟨a1, n1, c1, rfl⟩, ⟨a2, n2, c2, rfl⟩, hod, hon, hdn⟩
  · have q1 : (((textF s).1 : Int) != 0) = true := by rw [bne_iff_ne]; omega
    have H0 := hide h0
    clear h0
    go_wp2
    go_ret2
    exact ⟨_, rfl, by unfold LkQ; rw [if_neg H0.out]; exact ⟨_, _, rfl⟩, hb1.alloc hb1.size _⟩
  · have q1 : (((textF s).1 : Int) != 0) = false := by rw [h0]; rfl
    have H0 := hide h0
    have hs' := text_le h0
    have hg := good_parse s hs' p hp
    have hbl : (boundN p).length = p.nodes.length := by simp [boundN]
    have HPA : Hid (∀ o, o = .cells #[.slice a1 n1 c1, .slice a2 n2 c2] 83 → ProgAt (w1.alloc o) w1.heap.size p.decls (boundN p) (.slice a1 n1 c1) (.slice a2 n2 c2)) := hide (fun o ho => by
      subst ho
      exact ⟨by simp, (World.cell?_alloc_at _ _ _ _ rfl).trans rfl, (World.cell?_alloc_at _ _ _ _ rfl).trans rfl, (own_zero hod).alloc _, by rw [hbl]; exact (own_zero hon).alloc _⟩)
    have HG := hide hg
    have HP := hide hp
    have HB1 := hide hb1
    clear h0 hod hon hdn hg hp hb1 hbl
    go_wp2_with fail
    refine (linksOf_any _ w1.heap.size p.decls (boundN p) _ _ (HPA.out _ rfl) HG.out.wf).mono ?_
    rintro e w2 ⟨v, rfl, hown, hb2⟩
    have HO := hide hown
    have HB2 := hide hb2
    clear hown hb2 HPA
    go_wp2
    go_ret2
    refine ⟨v, by rw [H0.out]; rfl, ?_, (HB1.out.alloc HB1.out.size _).trans (HB2.out.mono (by have := HB1.out.size; simp; omega))⟩
    unfold LkQ
    rw [if_pos H0.out]
    intro L hG hR
    rw [← links_held hs' HP.out hG]
    exact own_weak HO.out (by have := HB1.out.size; simp; omega)

end Go.Proofs.Ytmndgoapkmhglaa
