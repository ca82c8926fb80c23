import Derived.Test.Ytmndgoapkmhglabc13RefI
import Derived.Test.Ytmndgoapkmhglabc15RefU
namespace Go.Proofs.Ytmndgoapkmhglab
open Go.RowKit
attribute [local go_sem ↓] Go.wp_at_zero Go.wp_at_succ
set_option maxHeartbeats 2000000 in
set_option maxRecDepth 100000 in
theorem pfull_any {w : World} {X : Nat → Prop} {b : Nat} {aW : Option Addr} {n cW : Nat} {vE vV : Value} {F : Nat → WrF} {nx : Nat → Nat} {hd : Nat → Bool} (h : Scn w X b aW n cW vE vV F nx hd) (o : OpF) :
    Calls Try.prog 101 #[.pointer (some ⟨b, 0, none⟩), .agg #[.int .i64 o.k, .int .i64 o.a, .int .i64 o.b, .int .i64 o.c]] w fun e w' => e = .returned (.bool ((List.range n).all fun l => !decide ((F l).dst = o.k) || (F l).full)) ∧ Below w.heap.size w w' := by
  obtain ⟨w0, hw0⟩ : ∃ w0, w0 = w.alloc (.cells #[.int .i64 o.k, .int .i64 o.a, .int .i64 o.b, .int .i64 o.c] 43) := ⟨_, rfl⟩
  have hb0 : Below w.heap.size w w0 := by rw [hw0]; exact (Below.refl _ _).alloc (Nat.le_refl _) _
  have hA : ActAt w0 w.heap.size o := by rw [hw0]; exact ActAt.boxed w o
  have hs0 := h.below hb0
  have c2 := hs0.c2
  have hfew := h.few
  have HA := hide hA
  have HS := hide hs0
  have HB0 := hide hb0
  rw [hw0] at c2
  have HW0 := hide hw0
  clear hb0 hA hs0 h hw0
  go_enter Try.func101, Try.ntmps101
  go_wp2
  go_loopw [12] (fun vi wr => ∃ l : Nat, l ≤ n ∧ vi = .int .i64 l ∧ Below w0.heap.size w0 wr ∧ ((List.range l).all fun l => !decide ((F l).dst = o.k) || (F l).full) = true) (fun vi _ => n - (intOf vi).toNat)
  case atStart => exact ⟨0, Nat.zero_le _, rfl, by rw [HW0.out]; exact Below.refl _ _, rfl⟩
  case round =>
    obtain ⟨l, hl, rfl, hbr, hall⟩ := hrel
    have HAL := hide hall
    have HBR := hide hbr
    have HWR : Hid (Below w.heap.size w wr) := hide (HB0.out.trans (hbr.mono HB0.out.size))
    clear hall c2
    by_cases hil : l < n
    · obtain ⟨g, rfl, hW, hne⟩ := (HS.out.below hbr).wi (by omega)
      obtain ⟨x0, x1, x2, x3, x4, x5⟩ := hW.cells hil
      have k0 : ∀ u, (wr.alloc u).cell? ⟨w.heap.size, 0, none⟩ = some (.int .i64 o.k) := fun u => (((hbr.alloc hbr.size u).cell (p := ⟨w.heap.size, 0, none⟩) HA.out.lt).trans HA.out.cells.1)
      have j3 : (0 : Int) ≤ (l : Int) := by omega
      have j4 : (l : Int) < (n : Int) := by omega
      have HST := hide (@all_step l (fun l => !decide ((F l).dst = o.k) || (F l).full) HAL.out)
      have HFL : Hid ((!decide ((F l).dst = o.k) || (F l).full) = false → ((List.range n).all fun l => !decide ((F l).dst = o.k) || (F l).full) = false) := hide (fun e => all_fail hil e)
      clear hW hbr
      obtain ⟨p1, hp1⟩ : ∃ p1, ((F l).dst == o.k) = p1 := ⟨_, rfl⟩
      have hd1 : decide ((F l).dst = o.k) = p1 := by rw [← hp1]; rfl
      rw [hd1] at HST HFL
      clear hd1
      cases p1 with
      | false =>
        go_wp2
        go_roundw
        case rel => exact ⟨l + 1, by omega, by go_num, HBR.out.alloc HBR.out.size _, HST.out rfl⟩
        case measure => simp [intOf]; omega
      | true =>
        obtain ⟨fl, hfl⟩ : ∃ fl, (F l).full = fl := ⟨_, rfl⟩
        rw [hfl] at HST HFL x2
        clear hfl
        cases fl with
        | false =>
          go_wp2
          go_ret
          exact ⟨by rw [HFL.out rfl]; rfl, HWR.out.alloc HWR.out.size _⟩
        | true =>
          go_wp2
          go_roundw
          case rel => exact ⟨l + 1, by omega, by go_num, HBR.out.alloc HBR.out.size _, HST.out rfl⟩
          case measure => simp [intOf]; omega
    · have ek : l = n := by omega
      subst ek
      clear hbr
      go_wp2
      go_ret
      exact ⟨by rw [HAL.out]; rfl, HWR.out⟩
set_option maxHeartbeats 2000000 in
set_option maxRecDepth 100000 in
theorem pfree_any {w : World} {X : Nat → Prop} {b : Nat} {aW : Option Addr} {n cW : Nat} {vE vV : Value} {F : Nat → WrF} {nx : Nat → Nat} {hd : Nat → Bool} (h : Scn w X b aW n cW vE vV F nx hd) (o : OpF) :
    Calls Try.prog 103 #[.pointer (some ⟨b, 0, none⟩), .agg #[.int .i64 o.k, .int .i64 o.a, .int .i64 o.b, .int .i64 o.c]] w fun e w' => e = .returned (.bool ((List.range n).all fun l => !decide ((F l).src = o.k) || (!(F l).unt && decide ((F l).known ≤ o.a)))) ∧ Below w.heap.size w w' := by
  obtain ⟨w0, hw0⟩ : ∃ w0, w0 = w.alloc (.cells #[.int .i64 o.k, .int .i64 o.a, .int .i64 o.b, .int .i64 o.c] 43) := ⟨_, rfl⟩
  have hb0 : Below w.heap.size w w0 := by rw [hw0]; exact (Below.refl _ _).alloc (Nat.le_refl _) _
  have hA : ActAt w0 w.heap.size o := by rw [hw0]; exact ActAt.boxed w o
  have hs0 := h.below hb0
  have c2 := hs0.c2
  have hfew := h.few
  have HA := hide hA
  have HS := hide hs0
  have HB0 := hide hb0
  rw [hw0] at c2
  have HW0 := hide hw0
  clear hb0 hA hs0 h hw0
  go_enter Try.func103, Try.ntmps103
  go_wp2
  go_loopw [12] (fun vi wr => ∃ l : Nat, l ≤ n ∧ vi = .int .i64 l ∧ Below w0.heap.size w0 wr ∧ ((List.range l).all fun l => !decide ((F l).src = o.k) || (!(F l).unt && decide ((F l).known ≤ o.a))) = true) (fun vi _ => n - (intOf vi).toNat)
  case atStart => exact ⟨0, Nat.zero_le _, rfl, by rw [HW0.out]; exact Below.refl _ _, rfl⟩
  case round =>
    obtain ⟨l, hl, rfl, hbr, hall⟩ := hrel
    have HAL := hide hall
    have HBR := hide hbr
    have HWR : Hid (Below w.heap.size w wr) := hide (HB0.out.trans (hbr.mono HB0.out.size))
    clear hall c2
    by_cases hil : l < n
    · obtain ⟨g, rfl, hW, hne⟩ := (HS.out.below hbr).wi (by omega)
      obtain ⟨x0, x1, x2, x3, x4, x5⟩ := hW.cells hil
      have k0 : ∀ u, (wr.alloc u).cell? ⟨w.heap.size, 0, none⟩ = some (.int .i64 o.k) := fun u => (((hbr.alloc hbr.size u).cell (p := ⟨w.heap.size, 0, none⟩) HA.out.lt).trans HA.out.cells.1)
      have k1 : ∀ u, (wr.alloc u).cell? ⟨w.heap.size, 1, none⟩ = some (.int .i64 o.a) := fun u => (((hbr.alloc hbr.size u).cell (p := ⟨w.heap.size, 1, none⟩) HA.out.lt).trans HA.out.cells.2.1)
      have j3 : (0 : Int) ≤ (l : Int) := by omega
      have j4 : (l : Int) < (n : Int) := by omega
      have HST := hide (@all_step l (fun l => !decide ((F l).src = o.k) || (!(F l).unt && decide ((F l).known ≤ o.a))) HAL.out)
      have HFL : Hid ((!decide ((F l).src = o.k) || (!(F l).unt && decide ((F l).known ≤ o.a))) = false → ((List.range n).all fun l => !decide ((F l).src = o.k) || (!(F l).unt && decide ((F l).known ≤ o.a))) = false) := hide (fun e => all_fail hil e)
      clear hW hbr
      obtain ⟨p1, hp1⟩ : ∃ p1, ((F l).src == o.k) = p1 := ⟨_, rfl⟩
      have hd1 : decide ((F l).src = o.k) = p1 := by rw [← hp1]; rfl
      rw [hd1] at HST HFL
      clear hd1
      cases p1 with
      | false =>
        go_wp2
        go_roundw
        case rel => exact ⟨l + 1, by omega, by go_num, HBR.out.alloc HBR.out.size _, HST.out rfl⟩
        case measure => simp [intOf]; omega
      | true =>
        obtain ⟨fl, hfl⟩ : ∃ fl, (F l).unt = fl := ⟨_, rfl⟩
        rw [hfl] at HST HFL x3
        clear hfl
        cases fl with
        | true =>
          go_wp2
          go_ret
          exact ⟨by rw [HFL.out rfl]; rfl, HWR.out.alloc HWR.out.size _⟩
        | false =>
          by_cases hkn : (F l).known ≤ o.a
          · have hkn' : ¬ (F l).known > o.a := by omega
            rw [decide_eq_true hkn] at HST
            clear hkn HFL
            go_wp2
            go_roundw
            case rel => exact ⟨l + 1, by omega, by go_num, HBR.out.alloc HBR.out.size _, HST.out rfl⟩
            case measure => simp [intOf]; omega
          · have hkn' : (F l).known > o.a := by omega
            rw [decide_eq_false hkn] at HFL
            clear hkn HST
            go_wp2
            go_ret
            exact ⟨by rw [HFL.out rfl]; rfl, HWR.out.alloc HWR.out.size _⟩
    · have ek : l = n := by omega
      subst ek
      clear hbr
      go_wp2
      go_ret
      exact ⟨by rw [HAL.out]; rfl, HWR.out⟩


end Go.Proofs.Ytmndgoapkmhglab
