import Derived.Test.YtmndgoapkmhglabM28StrE
import Derived.Test.YtmndgoapkmhglabM43RefT
import Derived.Test.YtmndgoapkmhglabM47RefY
/- when places wake: bounds, chains of waits: the document's own answer. -/
namespace Go.Proofs.Ytmndgoapkmhglab
open Go.RowKit
attribute [local go_sem ↓] Go.wp_at_zero Go.wp_at_succ

set_option maxHeartbeats 1000000 in
theorem rfit_any (b : BdF) (w : World) :
    Calls Try.prog 35 #[b.val] w fun e w' => e = .returned (.bool (fitF b)) ∧ Below w.heap.size w w' := by
  obtain ⟨t0, t1, d0, d1⟩ := b
  by_cases h1 : t0 < 1
  · go_enter Try.func35, Try.ntmps35
    go_wp2
    go_ret
    exact ⟨by simp [fitF, h1], (Below.refl _ _).alloc (Nat.le_refl _) _⟩
  by_cases h2 : t1 < t0
  · have h2' : t0 > t1 := h2
    go_enter Try.func35, Try.ntmps35
    go_wp2
    go_ret
    exact ⟨by simp [fitF, h2], (Below.refl _ _).alloc (Nat.le_refl _) _⟩
  by_cases h3 : 1000000 < t1
  · have h3' : t1 > 1000000 := h3
    go_enter Try.func35, Try.ntmps35
    go_wp2
    go_ret
    exact ⟨by simp [fitF, h3], (Below.refl _ _).alloc (Nat.le_refl _) _⟩
  by_cases h4 : 0 ≤ d0
  · by_cases h5 : d0 ≤ d1
    · go_enter Try.func35, Try.ntmps35
      go_wp2
      go_ret
      exact ⟨by simp [fitF, h1, h2, h3, h4, h5], (Below.refl _ _).alloc (Nat.le_refl _) _⟩
    · go_enter Try.func35, Try.ntmps35
      go_wp2
      go_ret
      exact ⟨by simp [fitF]; omega, (Below.refl _ _).alloc (Nat.le_refl _) _⟩
  · go_enter Try.func35, Try.ntmps35
    go_wp2
    go_ret
    exact ⟨by simp [fitF]; omega, (Below.refl _ _).alloc (Nat.le_refl _) _⟩

theorem any_step {m : Nat} {p : Nat → Bool} (h : (List.range m).any p = false) (hp : p m = false) : (List.range (m + 1)).any p = false := by
  rw [List.range_succ, List.any_append, h, List.any_cons, hp]; rfl

theorem Mat.below {w w' : World} {g n : Nat} {R : Nat → Nat} {M : Mx} (h : Mat w g n R M) (hb : Below w.heap.size w w') : Mat w' g n R M := by
  rcases Nat.eq_zero_or_pos n with rfl | hp
  · exact ⟨fun i hi => by omega, fun i hi => by omega, h.inj, h.ne⟩
  · exact h.keep (hb.block g (h.lt hp)) (fun i hi => hb.block (R i) (World.rowIs.lt (h.rows i hi)))

set_option maxHeartbeats 1000000 in
set_option maxRecDepth 100000 in
theorem rahead_any (g cap : Nat) (R : Nat → Nat) (M : Mx) : ∀ (n : Nat), n ≤ 4 → ∀ (w : World), Mat w g 4 R M → ∀ i : Nat, i < 4 →
    Calls Try.prog 37 #[.slice (some ⟨g, 0, none⟩) 4 cap, .int .i64 i, .int .i64 n] w fun e w' => e = .returned (.bool (aheadF M i n)) ∧ Below w.heap.size w w' := by
  intro n
  induction n with
  | zero =>
    intro _ w hM i hi
    clear hM
    go_enter Try.func37, Try.ntmps37
    go_wp2
    go_ret
    exact ⟨rfl, Below.refl _ _⟩
  | succ n ih =>
    intro hn w hM i hi
    have IH := hide (ih (by omega))
    have HM := hide hM
    obtain ⟨N, hN⟩ : ∃ N, N = n + 1 := ⟨_, rfl⟩
    rw [← hN]
    have q1 : ((N : Int) == 0) = false := by rw [beq_eq_false_iff_ne]; omega
    have hw : IntKind.i64.wrap ((N : Int) - 1) = (n : Int) := by rw [IntKind.wrap_i64]; omega
    have HN0 := hide hN
    clear ih hM hN
    go_enter Try.func37, Try.ntmps37
    go_wp2
    go_loopw [7] (fun vq wr => ∃ m : Nat, m ≤ 4 ∧ vq = .int .i64 m ∧ Below w.heap.size w wr ∧ (List.range m).any (fun q => M i q && aheadF M q n) = false) (fun vq _ => 4 - (intOf vq).toNat)
    case atStart => exact ⟨0, by omega, rfl, Below.refl _ _, rfl⟩
    case round =>
      obtain ⟨m, hm, rfl, hbr, hany⟩ := hrel
      have HBR := hide hbr
      have HAN := hide hany
      have HMR : Hid (Mat wr g 4 R M) := hide (HM.out.below hbr)
      clear hbr hany
      by_cases hm4 : m < 4
      · have x1 := HMR.out.outer i hi
        have x2 := HMR.out.cell hi hm4
        have j1 : (0 : Int) ≤ (i : Int) := by omega
        have j2 : (i : Int) < 4 := by omega
        have j3 : (0 : Int) ≤ (m : Int) := by omega
        have j4 : (m : Int) < 4 := by omega
        cases hv : M i m with
        | false =>
          have HN : Hid ((List.range (m + 1)).any (fun q => M i q && aheadF M q n) = false) := hide (any_step HAN.out (by simp [hv]))
          rw [hv] at x2
          clear hv
          go_wp2
          go_roundw
          case rel => exact ⟨m + 1, by omega, by go_num, by first | exact HBR.out | exact below_drewN HBR.out _, HN.out⟩
          case measure => simp [intOf]; omega
        | true =>
          rw [hv] at x2
          have HV := hide hv
          clear hv
          go_wp2_with fail
          refine (IH.out wr HMR.out m hm4).mono ?_
          rintro e w1 ⟨rfl, hb1⟩
          have HB1 : Hid (Below w.heap.size w w1) := hide (HBR.out.trans (hb1.mono HBR.out.size))
          clear hb1 x1 x2
          cases ha : aheadF M m n with
          | false =>
            have HN : Hid ((List.range (m + 1)).any (fun q => M i q && aheadF M q n) = false) := hide (any_step HAN.out (by simp [ha]))
            clear ha
            go_wp2
            go_roundw
            case rel => exact ⟨m + 1, by omega, by go_num, by first | exact HB1.out | exact below_drewN HB1.out _, HN.out⟩
            case measure => simp [intOf]; omega
          | true =>
            have HF : Hid (aheadF M i N = true) := hide (by
              rw [HN0.out]
              unfold aheadF
              rw [List.any_eq_true]
              exact ⟨m, List.mem_range.2 hm4, by rw [HV.out, ha]; rfl⟩)
            clear ha
            go_wp2
            go_ret
            exact ⟨by rw [HF.out]; rfl, HB1.out⟩
      · have em : m = 4 := by omega
        subst em
        have HF : Hid (aheadF M i N = false) := hide (by rw [HN0.out]; exact HAN.out)
        clear HAN
        go_wp2
        go_ret
        exact ⟨by rw [HF.out]; rfl, by first | exact HBR.out | exact below_drewN HBR.out _⟩

/-- how far it is known when q places of the last length are looked at. -/
def dIn (M : Mx) (n q : Nat) : Nat := if (List.range q).any (fun q => aheadF M q (n + 1)) then n + 1 else dUp M n
theorem dIn_zero (M : Mx) (n : Nat) : dIn M n 0 = dUp M n := rfl
theorem dIn_four (M : Mx) (n : Nat) : dIn M n 4 = dUp M (n + 1) := rfl
theorem dIn_hit {M : Mx} {n q : Nat} (h : aheadF M q (n + 1) = true) : dIn M n (q + 1) = n + 1 := by
  unfold dIn
  rw [if_pos]
  rw [List.any_eq_true]
  exact ⟨q, List.mem_range.2 (by omega), h⟩
theorem dIn_miss {M : Mx} {n q : Nat} (h : aheadF M q (n + 1) = false) : dIn M n (q + 1) = dIn M n q := by
  unfold dIn
  rw [List.range_succ, List.any_append, List.any_cons, h]
  simp

end Go.Proofs.Ytmndgoapkmhglab
