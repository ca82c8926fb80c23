import Derived.Test.YtmndgoapkmhglaaA25RefHa
import Derived.Test.YtmndgoapkmhglaaA28TabBn
import Derived.Test.YtmndgoapkmhglaaA32HeldT
/- code as it lies; reads, at. -/
namespace Go.Proofs.Ytmndgoapkmhglaa
open Go.RowKit
attribute [local go_sem ↓] Go.wp_at_zero Go.wp_at_succ

/-- code, as it lies. -/
structure CodeAt (w : World) (vO vC vN vU : Value) (c : CdF) : Prop where
  ops : OpsAt w vO c.ops
  cells : RowAt w vC c.cells
  next : RowAt w vN c.next
  out : RowAt w vU c.out
theorem CodeAt.below {w w' : World} {vO vC vN vU : Value} {c : CdF} (h : CodeAt w vO vC vN vU c) (hb : Below w.heap.size w w') : CodeAt w' vO vC vN vU c :=
  ⟨h.ops.below hb, h.cells.below hb, h.next.below hb, h.out.below hb⟩

theorem rreads_any (w : World) (k : Int) :
    Calls Try.prog 90 #[.int .i64 k] w fun e w' => e = .returned (.int .i64 (readsF k : Nat)) ∧ w = w' := by
  by_cases h1 : k < 5
  · have HF : Hid (readsF k = 0) := hide (by unfold readsF; rw [if_pos h1])
    go_enter Try.func90, Try.ntmps90
    go_wp2
    go_ret
    exact ⟨by rw [HF.out]; rfl, rfl⟩
  by_cases h2 : k = 13
  · have HF : Hid (readsF k = 1) := hide (by unfold readsF; rw [if_neg h1, if_pos h2])
    have q : (k == 13) = true := by rw [h2]; rfl
    clear h2
    go_enter Try.func90, Try.ntmps90
    go_wp2
    go_ret
    exact ⟨by rw [HF.out]; rfl, rfl⟩
  have q1 : (k == 13) = false := by rw [beq_eq_false_iff_ne]; exact h2
  by_cases h3 : k = 14
  · have HF : Hid (readsF k = 3) := hide (by unfold readsF; rw [if_neg h1, if_neg h2, if_pos h3])
    have q : (k == 14) = true := by rw [h3]; rfl
    clear h3 h2
    go_enter Try.func90, Try.ntmps90
    go_wp2
    go_ret
    exact ⟨by rw [HF.out]; rfl, rfl⟩
  have q2 : (k == 14) = false := by rw [beq_eq_false_iff_ne]; exact h3
  have HF : Hid (readsF k = 2) := hide (by unfold readsF; rw [if_neg h1, if_neg h2, if_neg h3])
  clear h2 h3
  go_enter Try.func90, Try.ntmps90
  go_wp2
  go_ret
  exact ⟨by rw [HF.out]; rfl, rfl⟩

theorem rat_any (w : World) (v : Value) (l : List Int) (h : RowAt w v l) (i : Int) :
    Calls Try.prog 91 #[v, .int .i64 i] w fun e w' => e = .returned (.int .i64 (atF l i)) ∧ w = w' := by
  obtain ⟨A, C, rfl, hm, hc⟩ := h
  by_cases h0 : i < 0
  · have HF : Hid (atF l i = 0) := hide (by unfold atF; rw [if_pos h0])
    clear hc
    go_enter Try.func91, Try.ntmps91
    go_wp2
    go_ret
    exact ⟨by rw [HF.out]; rfl, rfl⟩
  obtain ⟨k, rfl⟩ : ∃ k : Nat, i = (k : Int) := ⟨i.toNat, by omega⟩
  by_cases hk : k < l.length
  · obtain ⟨b, o, rfl, hb, hr⟩ := hc (by omega)
    have hx := hr k hk
    have HF : Hid (atF l (k : Int) = l[k]) := hide (by unfold atF; rw [if_neg h0, show ((k : Int)).toNat = k by omega, List.getD_eq_getElem?_getD, List.getElem?_eq_getElem hk]; rfl)
    have k1 : (0 : Int) ≤ (k : Int) := by omega
    have k2 : (k : Int) < (l.length : Int) := by omega
    have k3 : ¬ (k : Int) ≥ (l.length : Int) := by omega
    generalize l[k] = z at hx HF
    clear hc hr hk
    go_enter Try.func91, Try.ntmps91
    go_wp2
    go_ret
    exact ⟨by rw [HF.out]; rfl, rfl⟩
  · have HF : Hid (atF l (k : Int) = 0) := hide (by unfold atF; rw [if_neg h0, show ((k : Int)).toNat = k by omega, List.getD_eq_getElem?_getD, List.getElem?_eq_none (by omega)]; rfl)
    have k3 : (k : Int) ≥ (l.length : Int) := by omega
    clear hc
    go_enter Try.func91, Try.ntmps91
    go_wp2
    go_ret
    exact ⟨by rw [HF.out]; rfl, rfl⟩

end Go.Proofs.Ytmndgoapkmhglaa
