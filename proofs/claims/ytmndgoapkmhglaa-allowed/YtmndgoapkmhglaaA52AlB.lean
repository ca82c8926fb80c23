import Derived.Test.YtmndgoapkmhglaaA29GoodT
import Derived.Test.YtmndgoapkmhglaaA49RVal
import Derived.Test.YtmndgoapkmhglaaA51AlA
/- the statement on Valid. -/
namespace Go.Proofs.Ytmndgoapkmhglaa
open Go.RowKit
attribute [local go_sem ↓] Go.wp_at_zero Go.wp_at_succ

theorem ops_none {w : World} {A : Option Addr} {C : Nat} {sc : List OpF} (h : OpsAt w (.slice A sc.length C) sc) : A = none → sc = [] := by
  intro hA
  obtain ⟨A', C', he, _, hc⟩ := h
  simp only [Value.slice.injEq, true_and] at he
  obtain ⟨rfl, rfl⟩ := he
  rcases Nat.eq_zero_or_pos sc.length with h0 | hp
  · exact List.eq_nil_of_length_eq_zero h0
  · obtain ⟨b, o, e, _⟩ := hc hp
    rw [hA] at e; cases e

set_option maxHeartbeats 2000000 in
set_option maxRecDepth 100000 in
theorem allowed_any (s : ByteArray) (hs : s.size ≤ maxLen) (b : BdF) (A : Option Addr) (C : Nat) (sc : List OpF) (w : World) (hS : OpsAt w (.slice A sc.length C) sc) :
    Calls Try.prog 11 #[.string s, b.val, .slice A sc.length C] w fun e w' => e = .returned (.bool true) ∧ Below w.heap.size w w' := by
  have hol : sc.length ≤ 4398046511104 := by obtain ⟨_, _, _, hl, _⟩ := hS; exact hl
  have H1 := hide (fun W v h => pvalid_any s hs b v sc W h)
  have H2 := hide (fun W v h => rvalid_any s b v sc W h)
  have H3 : Hid (∀ n m, ValQ s b sc n → ValR s b sc m → n = m) := hide fun n m h h' => val_same h h'
  have HN := hide (ops_none hS)
  have HS := hide hS
  generalize ValQ s b sc = Q1 at *
  generalize ValR s b sc = Q2 at *
  obtain ⟨t0, t1, d0, d1⟩ := b
  clear hs hS
  obtain ⟨b0, hb0⟩ : ∃ b0, b0 = w.alloc (.cells #[.int .i64 t0, .int .i64 t1, .int .i64 d0, .int .i64 d1] 73) := ⟨_, rfl⟩
  have HW0 : Hid (Below w.heap.size w b0) := hide (by rw [hb0]; exact (Below.refl _ _).alloc (Nat.le_refl _) _)
  have HC : Hid (∀ W : World, Below b0.heap.size b0 W → W.cell? ⟨w.heap.size, 0, none⟩ = some (.int .i64 t0) ∧ W.cell? ⟨w.heap.size, 1, none⟩ = some (.int .i64 t1) ∧ W.cell? ⟨w.heap.size, 2, none⟩ = some (.int .i64 d0) ∧ W.cell? ⟨w.heap.size, 3, none⟩ = some (.int .i64 d1)) := hide fun W hW => box_cells (by rw [hb0] at hW; simpa using hW)
  go_enter Try.func11, Try.ntmps11
  go_wp2_with fail
  rw [← hb0]
  clear hb0
  refine (lacts_any b0 A C sc (HS.out.below HW0.out) HN.out).mono ?_
  rintro e w1 ⟨v, rfl, hv, hb1⟩
  have HB1 := hide hb1
  have HV := hide hv
  have HW1 : Hid (Below w.heap.size w w1) := hide (HW0.out.trans (hb1.mono HW0.out.size))
  obtain ⟨c0, c1, c2, c3⟩ := HC.out w1 hb1
  clear hb1 hv
  go_wp2_with fail
  refine (H1.out w1 v (HV.out.at HN.out hol)).mono ?_
  rintro e w2 ⟨n, rfl, hq, hb2⟩
  have HQ := hide hq
  have hb02 : Below b0.heap.size b0 w2 := HB1.out.trans (hb2.mono HB1.out.size)
  have HV2 := hide (HV.out.below hb2)
  have HB2 := hide hb02
  have HW2 : Hid (Below w.heap.size w w2) := hide (HW0.out.trans (hb02.mono HW0.out.size))
  obtain ⟨k0, k1, k2, k3⟩ := HC.out w2 hb02
  clear hb2 hq hb02 c0 c1 c2 c3
  go_wp2_with fail
  refine (H2.out w2 _ (HS.out.below HW2.out)).mono ?_
  rintro e w3 ⟨m, rfl, hr, hb3⟩
  have hu := H3.out _ _ HQ.out hr
  subst hu
  have HV3 := hide (HV2.out.below hb3)
  have HW3 : Hid (Below w.heap.size w w3) := hide (HW2.out.trans (hb3.mono HW2.out.size))
  clear hb3 hr k0 k1 k2 k3
  go_wp2_with fail
  refine (lleft_any w3 _ A C sc (HS.out.below HW3.out) HN.out v HV3.out).mono ?_
  rintro e w4 ⟨rfl, hb4⟩
  have HW4 : Hid (Below w.heap.size w w4) := hide (HW3.out.trans (hb4.mono HW3.out.size))
  have q2 : ((n : Int) == (n : Int)) = true := by simp
  clear hb4
  go_wp2_with fail
  refine (num_of _ _).mono ?_
  rintro e5 w5 ⟨rfl, rfl⟩
  go_wp2
  go_ret
  exact ⟨by simp, HW4.out⟩

end Go.Proofs.Ytmndgoapkmhglaa
