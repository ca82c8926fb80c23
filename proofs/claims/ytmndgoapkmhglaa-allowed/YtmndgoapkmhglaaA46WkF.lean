import Derived.Test.YtmndgoapkmhglaaA29GoodT
import Derived.Test.YtmndgoapkmhglaaA32HeldT
import Derived.Test.YtmndgoapkmhglaaA44WkE
import Derived.Test.YtmndgoapkmhglaaA45HeldP
/- scripts: later, first. An act is four numbers: its place k, its time a, its delays b and c. -/
namespace Go.Proofs.Ytmndgoapkmhglaa
open Go.RowKit
attribute [local go_sem ↓] Go.wp_at_zero Go.wp_at_succ

set_option maxHeartbeats 1000000 in
set_option maxRecDepth 100000 in
theorem rlater_any (w : World) (v : Value) (sc : List OpF) (h : OpsAt w v sc) (i : Nat) (hi : i < sc.length) :
    Calls Try.prog 67 #[v, .int .i64 i] w fun e w' => e = .returned (.int .i64 (laterF sc i)) ∧ Below w.heap.size w w' := by
  obtain ⟨A, C, rfl, hm, hc⟩ := h
  obtain ⟨b, o, rfl, hb, hr⟩ := hc (by omega)
  have HR := hide hr
  have hw : IntKind.i64.wrap ((i : Int) + 1) = ((i + 1 : Nat) : Int) := by rw [IntKind.wrap_i64]; omega
  clear hc hr
  go_enter Try.func67, Try.ntmps67
  go_wp2
  go_loopw [5] (fun vk wr => ∃ k : Nat, i < k ∧ k ≤ sc.length ∧ vk = .int .i64 k ∧ Below w.heap.size w wr ∧ laterG sc i (sc.length - k) k = laterF sc i) (fun vk _ => sc.length - (intOf vk).toNat)
  case atStart => exact ⟨i + 1, by omega, by omega, by first | rfl | rw [hw] | simp, Below.refl _ _, rfl⟩
  case round =>
    obtain ⟨k, hik, hk, rfl, hbr, hl⟩ := hrel
    have HL := hide hl
    have HBR := hide hbr
    clear hl
    by_cases hkl : k < sc.length
    · have x1 := (hbr.cell (p := ⟨b, o + k * 4, none⟩) hb).trans (HR.out k hkl).1
      have x2 := (hbr.cell (p := ⟨b, o + i * 4, none⟩) hb).trans (HR.out i hi).1
      rw [actF_get hkl] at x1
      rw [actF_get hi] at x2
      have j1 : (0 : Int) ≤ (i : Int) := by omega
      have j2 : (i : Int) < (sc.length : Int) := by omega
      have j3 : (0 : Int) ≤ (k : Int) := by omega
      have j4 : (k : Int) < (sc.length : Int) := by omega
      clear hbr
      by_cases he : (actF sc k).k = (actF sc i).k
      · have HN : Hid (laterF sc i = (k : Int)) := hide (by rw [← HL.out, later_step hkl, if_pos he])
        have q1 : ((actF sc k).k == (actF sc i).k) = true := by rw [he]; simp
        generalize (actF sc k).k = u at x1 q1
        generalize (actF sc i).k = v at x2 q1
        clear he
        go_wp2_with fail
        go_quiet (fail)
        go_wp2
        go_ret
        exact ⟨by rw [HN.out]; rfl, by first | exact HBR.out | exact below_drewN HBR.out _⟩
      · have HN : Hid (laterG sc i (sc.length - (k + 1)) (k + 1) = laterF sc i) := hide (by rw [← HL.out, later_step hkl, if_neg he])
        have q1 : ((actF sc k).k == (actF sc i).k) = false := by rw [beq_eq_false_iff_ne]; exact he
        generalize (actF sc k).k = u at x1 q1
        generalize (actF sc i).k = v at x2 q1
        clear he
        go_wp2_with fail
        go_quiet (fail)
        go_wp2
        go_roundw
        case rel => exact ⟨k + 1, by omega, by omega, by go_num, by first | exact HBR.out | exact below_drewN HBR.out _, HN.out⟩
        case measure => simp [intOf]; omega
    · have ek : k = sc.length := by omega
      subst ek
      have z1 : ¬ (sc.length : Int) < (sc.length : Int) := by omega
      have HN : Hid (laterF sc i = -1) := hide (by rw [← HL.out, Nat.sub_self]; rfl)
      go_wp2
      go_ret
      exact ⟨by rw [HN.out]; rfl, by first | exact HBR.out | exact below_drewN HBR.out _⟩

set_option maxHeartbeats 1000000 in
set_option maxRecDepth 100000 in
theorem rfirst_any (w : World) (v : Value) (sc : List OpF) (h : OpsAt w v sc) (i : Nat) (hi : i < sc.length) :
    Calls Try.prog 66 #[v, .int .i64 i] w fun e w' => e = .returned (.bool (firstF sc i)) ∧ Below w.heap.size w w' := by
  obtain ⟨A, C, rfl, hm, hc⟩ := h
  obtain ⟨b, o, rfl, hb, hr⟩ := hc (by omega)
  have HR := hide hr
  clear hc hr
  go_enter Try.func66, Try.ntmps66
  go_wp2
  go_loopw [5] (fun vk wr => ∃ k : Nat, k ≤ i ∧ vk = .int .i64 k ∧ Below w.heap.size w wr ∧ firstG sc i k = true) (fun vk _ => i - (intOf vk).toNat)
  case atStart => exact ⟨0, by omega, rfl, Below.refl _ _, rfl⟩
  case round =>
    obtain ⟨k, hk, rfl, hbr, hl⟩ := hrel
    have HL := hide hl
    have HBR := hide hbr
    clear hl
    by_cases hki : k < i
    · have x1 := (hbr.cell (p := ⟨b, o + k * 4, none⟩) hb).trans (HR.out k (by omega)).1
      have x2 := (hbr.cell (p := ⟨b, o + i * 4, none⟩) hb).trans (HR.out i hi).1
      rw [actF_get (by omega)] at x1
      rw [actF_get hi] at x2
      have j1 : (0 : Int) ≤ (i : Int) := by omega
      have j2 : (i : Int) < (sc.length : Int) := by omega
      have j3 : (0 : Int) ≤ (k : Int) := by omega
      have j4 : (k : Int) < (sc.length : Int) := by omega
      have j5 : (k : Int) < (i : Int) := by omega
      clear hbr
      by_cases he : (actF sc k).k = (actF sc i).k
      · have HN : Hid (firstF sc i = false) := hide (all_fail hki (by rw [he]; simp))
        have q1 : ((actF sc k).k == (actF sc i).k) = true := by rw [he]; simp
        generalize (actF sc k).k = u at x1 q1
        generalize (actF sc i).k = v at x2 q1
        clear he
        go_wp2_with fail
        go_quiet (fail)
        go_wp2
        go_ret
        exact ⟨by rw [HN.out]; rfl, by first | exact HBR.out | exact below_drewN HBR.out _⟩
      · have HN : Hid (firstG sc i (k + 1) = true) := hide (all_step HL.out (by rw [bne_iff_ne]; exact he))
        have q1 : ((actF sc k).k == (actF sc i).k) = false := by rw [beq_eq_false_iff_ne]; exact he
        generalize hu : (actF sc k).k = u at x1 q1
        generalize hv : (actF sc i).k = v at x2 q1
        clear he hu hv
        go_wp2_with fail
        go_quiet (fail)
        go_wp2
        go_roundw
        case rel => exact ⟨k + 1, by omega, by go_num, by first | exact HBR.out | exact below_drewN HBR.out _, HN.out⟩
        case measure => simp [intOf]; omega
    · have ek : k = i := by omega
      subst ek
      have z1 : ¬ (k : Int) < (k : Int) := by omega
      have HN : Hid (firstF sc k = true) := HL
      go_wp2
      go_ret
      exact ⟨by rw [HN.out]; rfl, by first | exact HBR.out | exact below_drewN HBR.out _⟩

end Go.Proofs.Ytmndgoapkmhglaa

/- playable. -/
namespace Go.Proofs.Ytmndgoapkmhglaa
open Go.RowKit
attribute [local go_sem ↓] Go.wp_at_zero Go.wp_at_succ

set_option maxHeartbeats 4000000 in
set_option maxRecDepth 100000 in
theorem rplayable_any (w : World) (q g cap : Nat) (ts : List Tk) (L : List Dl) (vE vA vI vQ : Value) (h : RProg w q g cap ts L vE vA vI vQ) (ho : ROk ts L) (v : Value) (sc : List OpF) (hs : OpsAt w v sc) :
    Calls Try.prog 65 #[.pointer (some ⟨q, 0, none⟩), v] w fun e w' => e = .returned (.bool (playF ts L sc)) ∧ Below w.heap.size w w' := by
  have HS := hide hs
  obtain ⟨A, C, rfl, hm, hc⟩ := hs
  by_cases h4 : sc.length ≤ 400
  · have z0 : ¬ (sc.length : Int) > 400 := by omega
    have z0' : ¬ 400 < (sc.length : Int) := by omega
    have HP : Hid (playF ts L sc = (List.range sc.length).all fun i => !badA ts L sc i) := hide (by unfold playF; rw [decide_eq_true h4, Bool.true_and])
    have HR := hide h
    have HO := hide ho
    have HA := hide hc
    clear h ho hc
    go_enter Try.func65, Try.ntmps65
    go_wp2
    go_loopw [5] (fun vi wr => ∃ i : Nat, i ≤ sc.length ∧ vi = .int .i64 i ∧ Below w.heap.size w wr ∧ ((List.range i).all fun i => !badA ts L sc i) = true) (fun vi _ => sc.length - (intOf vi).toNat)
    case atStart => exact ⟨0, Nat.zero_le _, rfl, Below.refl _ _, rfl⟩
    case round =>
      obtain ⟨i, hi, rfl, hbr, hall⟩ := hrel
      have HBR := hide hbr
      have HAL := hide hall
      clear hall
      by_cases hil : i < sc.length
      · obtain ⟨b, o, rfl, hb, hr⟩ := HA.out (by omega)
        obtain ⟨x0, x1, x2, x3⟩ := hr i hil
        rw [actF_get hil] at x0 x1 x2 x3
        rw [← hbr.cell (p := ⟨b, o + i * 4, none⟩) hb] at x0
        rw [← hbr.cell (p := ⟨b, o + i * 4 + 1, none⟩) hb] at x1
        rw [← hbr.cell (p := ⟨b, o + i * 4 + 2, none⟩) hb] at x2
        rw [← hbr.cell (p := ⟨b, o + i * 4 + 3, none⟩) hb] at x3
        have j3 : (0 : Int) ≤ (i : Int) := by omega
        have j4 : (i : Int) < (sc.length : Int) := by omega
        have HCA := hide (fun W hW => rpat_any W q g cap ts L vE vA vI vQ (HR.out.below hW) HO.out (actF sc i).k)
        have HLT := hide (fun W hW => rlater_any W _ sc (HS.out.below hW) i hil)
        obtain ⟨a0, ha0⟩ : ∃ a0, a0 = (actF sc i).k := ⟨_, rfl⟩
        obtain ⟨a1, ha1⟩ : ∃ a1, a1 = (actF sc i).a := ⟨_, rfl⟩
        obtain ⟨a2, ha2⟩ : ∃ a2, a2 = (actF sc i).b := ⟨_, rfl⟩
        obtain ⟨a3, ha3⟩ : ∃ a3, a3 = (actF sc i).c := ⟨_, rfl⟩
        rw [← ha0] at x0 HCA
        rw [← ha1] at x1
        rw [← ha2] at x2
        rw [← ha3] at x3
        have HBD : Hid (badA ts L sc i = ((atR ts L a0).isEmpty || decide (a1 < 0) || decide (1099511627776 < a1) || backA sc i || decide (a2 < 0) || decide (1099511627776 < a2) || decide (a3 < 0) || decide (1099511627776 < a3) || overA sc i)) := hide (by rw [ha0, ha1, ha2, ha3]; rfl)
        have HBAD : Hid (badA ts L sc i = true → playF ts L sc = false) := hide (fun hbad => by rw [HP.out]; exact all_fail hil (by rw [hbad]; rfl))
        obtain ⟨bx, hbx⟩ : ∃ bx, bx = wr.alloc (.cells #[.int .i64 a0, .int .i64 a1, .int .i64 a2, .int .i64 a3] 108) := ⟨_, rfl⟩
        have HBX : Hid (Below wr.heap.size wr bx) := hide (by rw [hbx]; exact (Below.refl _ _).alloc (Nat.le_refl _) _)
        have HC : Hid (∀ W : World, Below bx.heap.size bx W → W.cell? ⟨wr.heap.size, 0, none⟩ = some (.int .i64 a0) ∧ W.cell? ⟨wr.heap.size, 1, none⟩ = some (.int .i64 a1) ∧ W.cell? ⟨wr.heap.size, 2, none⟩ = some (.int .i64 a2) ∧ W.cell? ⟨wr.heap.size, 3, none⟩ = some (.int .i64 a3)) := hide fun W hW => by
          have hy : W.heap[wr.heap.size]? = some (.cells #[.int .i64 a0, .int .i64 a1, .int .i64 a2, .int .i64 a3] 108 (0, 0)) := by
            rw [hW.block _ (by rw [hbx]; simp), hbx]; exact heap_alloc_new _ _
          refine ⟨?_, ?_, ?_, ?_⟩ <;> (rw [cell_of_row _ _ _ _ _ _ hy]; rfl)
        have HBX1 : Hid (Below w.heap.size w bx) := hide (hbr.trans (HBX.out.mono hbr.size))
        have HEX := hide hbx
        have HPB : Hid (0 < i → ∀ W, Below w.heap.size w W → W.cell? ⟨b, o + (i - 1) * 4 + 1, none⟩ = some (.int .i64 (actF sc (i - 1)).a)) := hide fun h1 W hW => by
          rw [hW.cell (p := ⟨b, o + (i - 1) * 4 + 1, none⟩) hb, (hr (i - 1) (by omega)).2.1, actF_get (by omega)]
        have HKB : Hid (∀ k, k < sc.length → ∀ W, Below w.heap.size w W → W.cell? ⟨b, o + k * 4 + 1, none⟩ = some (.int .i64 (actF sc k).a)) := hide fun k hk W hW => by
          rw [hW.cell (p := ⟨b, o + k * 4 + 1, none⟩) hb, (hr k hk).2.1, actF_get hk]
        have HA1 := hide ha1
        have HA2 := hide ha2
        have HA3 := hide ha3
        clear hr hbr hbx ha0 ha1 ha2 ha3
        go_wp2_with fail
        rw [← HEX.out]
        clear HEX x0 x1 x2 x3
        refine (HCA.out bx HBX1.out).mono ?_
        rintro e w1 ⟨v1, rfl, hown, hb1⟩
        obtain ⟨av, cv, rfl, _⟩ := own_shape hown
        have HB1 := hide hb1
        have HW1 : Hid (Below w.heap.size w w1) := hide (HBX1.out.trans (hb1.mono HBX1.out.size))
        obtain ⟨c0, c1, c2, c3⟩ := HC.out w1 hb1
        clear hown hb1 HCA
        have hemp : (atR ts L a0).isEmpty = decide ((atR ts L a0).length = 0) := by cases atR ts L a0 <;> simp
        rw [hemp] at HBD
        clear hemp
        generalize (atR ts L a0).length = ln at *
        have HW1d := hide (below_drewN HW1.out)
        by_cases t1 : ln = 0
        · have HF : Hid (playF ts L sc = false) := hide (HBAD.out (by rw [HBD.out]; simp [t1]))
          have q1 : ((ln : Int) == 0) = true := by rw [t1]; rfl
          clear t1
          go_wp2_with fail
          go_big_region
          go_wp2
          go_ret
          exact ⟨by rw [HF.out]; rfl, by first | exact HW1.out | exact HW1d.out _⟩
        have q1 : ((ln : Int) == 0) = false := by rw [beq_eq_false_iff_ne]; omega
        by_cases t2 : a1 < 0
        · have HF : Hid (playF ts L sc = false) := hide (HBAD.out (by rw [HBD.out]; simp [t2]))
          clear t1
          go_wp2_with fail
          go_big_region
          go_wp2
          go_ret
          exact ⟨by rw [HF.out]; rfl, by first | exact HW1.out | exact HW1d.out _⟩
        have q2 : decide (a1 < 0) = false := decide_eq_false t2
        by_cases t3 : 1099511627776 < a1
        · have HF : Hid (playF ts L sc = false) := hide (HBAD.out (by rw [HBD.out]; simp [t3]))
          have t3' : decide (a1 > 1099511627776) = true := decide_eq_true t3
          clear t1
          go_wp2_with fail
          go_big_region
          go_wp2
          go_ret
          exact ⟨by rw [HF.out]; rfl, by first | exact HW1.out | exact HW1d.out _⟩
        have q3 : decide (a1 > 1099511627776) = false := decide_eq_false t3
        have hback : (i = 0 ∧ backA sc i = false) ∨ (0 < i ∧ backA sc i = decide (a1 < (actF sc (i - 1)).a)) := by
          cases i with
          | zero => exact .inl ⟨rfl, rfl⟩
          | succ i' => exact .inr ⟨by omega, by rw [HA1.out]; rfl⟩
        obtain ⟨bk, hbk⟩ : ∃ bk, bk = backA sc i := ⟨_, rfl⟩
        rw [← hbk] at hback HBD
        clear hbk
        have HRG : Hid (laterF sc i = -1 ∨ ∃ j : Nat, laterF sc i = (j : Int) ∧ i < j ∧ j < sc.length) := hide (later_range sc i (sc.length - (i + 1)) (i + 1) (by omega) (by omega))
        rcases hback with ⟨hi0, hb0⟩ | ⟨hi0, hb0⟩
        · have q4 : decide ((i : Int) > 0) = false := decide_eq_false (by omega)
          have q5 : decide (0 < i) = false := decide_eq_false (by omega)
          have q6 : ¬ 0 < i := by omega
          have HBF : Hid (bk = false) := hide hb0
          clear hi0 hb0
          have t2' := t2
          by_cases u1 : a2 < 0
          · have HF : Hid (playF ts L sc = false) := hide (HBAD.out (by rw [HBD.out]; simp [u1]))
            go_wp2_with fail
            go_big_region
            go_wp2
            go_ret
            exact ⟨by rw [HF.out]; rfl, HW1.out.drew⟩
          by_cases u2 : 1099511627776 < a2
          · have HF : Hid (playF ts L sc = false) := hide (HBAD.out (by rw [HBD.out]; simp [u2]))
            have u2' : a2 > 1099511627776 := u2
            go_wp2_with fail
            go_big_region
            go_wp2
            go_ret
            exact ⟨by rw [HF.out]; rfl, HW1.out.drew⟩
          by_cases u3 : a3 < 0
          · have HF : Hid (playF ts L sc = false) := hide (HBAD.out (by rw [HBD.out]; simp [u3]))
            have u2' : ¬ a2 > 1099511627776 := u2
            go_wp2_with fail
            go_big_region
            go_wp2
            go_ret
            exact ⟨by rw [HF.out]; rfl, HW1.out.drew⟩
          by_cases u4 : 1099511627776 < a3
          · have HF : Hid (playF ts L sc = false) := hide (HBAD.out (by rw [HBD.out]; simp [u4]))
            have u2' : ¬ a2 > 1099511627776 := u2
            have u4' : a3 > 1099511627776 := u4
            go_wp2_with fail
            go_big_region
            go_wp2
            go_ret
            exact ⟨by rw [HF.out]; rfl, HW1.out.drew⟩
          have u2' : ¬ a2 > 1099511627776 := u2
          have u4' : ¬ a3 > 1099511627776 := u4
          have HBO : Hid (badA ts L sc i = overA sc i) := hide (by rw [HBD.out]; simp [t1, t2, t3, HBF.out, u1, u2, u3, u4])
          go_wp2_with fail
          go_big_region
          go_wp2_with fail
          refine (HLT.out _ HW1.out.drew).mono ?_
          rintro e w2 ⟨rfl, hb2⟩
          have HB2 : Hid (Below bx.heap.size bx w2) := hide (HB1.out.drew.trans (hb2.mono HB1.out.size))
          have HW2 : Hid (Below w.heap.size w w2) := hide (HW1.out.drew.trans (hb2.mono HW1.out.size))
          clear hb2 c0 c1 c2 c3
          obtain ⟨c0, c1, c2, c3⟩ := HC.out w2 HB2.out
          rcases HRG.out with hk | ⟨jj, hk, hj1, hj2⟩
          · have HN : Hid (((List.range (i + 1)).all fun i => !badA ts L sc i) = true) := hide (all_step HAL.out (by rw [HBO.out]; unfold overA; rw [hk]; rfl))
            rw [hk]
            clear hk
            go_wp2_with fail
            go_big_region
            go_wp2
            go_roundw
            case rel => exact ⟨i + 1, by omega, by go_num, by first | exact HW2.out | exact HW2.out.drew, HN.out⟩
            case measure => simp [intOf]; omega
          · have y1 := HKB.out jj hj2 w2 HW2.out
            have HOV : Hid (overA sc i = (decide (IntKind.i64.wrap ((actF sc jj).a - a1) ≤ a2) || decide (IntKind.i64.wrap ((actF sc jj).a - a1) ≤ a3))) := hide (by unfold overA; rw [hk, decide_eq_true (by omega), Bool.true_and, Int.toNat_natCast, HA1.out, HA2.out, HA3.out])
            rw [hk]
            generalize (actF sc jj).a = aj at y1 HOV
            obtain ⟨df, hdf⟩ : ∃ df, IntKind.i64.wrap (aj - a1) = df := ⟨_, rfl⟩
            rw [hdf] at HOV
            have g1 : decide ((jj : Int) ≥ 0) = true := decide_eq_true (by omega)
            have g2 : (0 : Int) ≤ (jj : Int) := by omega
            have g3 : (jj : Int) < (sc.length : Int) := by omega
            clear hk hj1 hj2
            by_cases v1 : df ≤ a2
            · have HF : Hid (playF ts L sc = false) := hide (HBAD.out (by rw [HBO.out, HOV.out]; simp [v1]))
              have g4 : decide (a2 ≥ df) = true := decide_eq_true v1
              go_wp2_with fail
              go_big_region
              go_wp2
              go_ret
              exact ⟨by rw [HF.out]; rfl, by first | exact HW2.out | exact HW2.out.drew⟩
            have g4 : decide (a2 ≥ df) = false := decide_eq_false v1
            by_cases v2 : df ≤ a3
            · have HF : Hid (playF ts L sc = false) := hide (HBAD.out (by rw [HBO.out, HOV.out]; simp [v2]))
              have g5 : decide (a3 ≥ df) = true := decide_eq_true v2
              go_wp2_with fail
              go_big_region
              go_wp2
              go_ret
              exact ⟨by rw [HF.out]; rfl, by first | exact HW2.out | exact HW2.out.drew⟩
            have g5 : decide (a3 ≥ df) = false := decide_eq_false v2
            have HN : Hid (((List.range (i + 1)).all fun i => !badA ts L sc i) = true) := hide (all_step HAL.out (by rw [HBO.out, HOV.out]; simp [v1, v2]))
            go_wp2_with fail
            go_big_region
            go_wp2
            go_roundw
            case rel => exact ⟨i + 1, by omega, by go_num, by first | exact HW2.out | exact HW2.out.drew, HN.out⟩
            case measure => simp [intOf]; omega
        · have q4 : decide ((i : Int) > 0) = true := decide_eq_true (by omega)
          have q5 : decide (0 < i) = true := decide_eq_true hi0
          have q6 : 0 < i := hi0
          have y0 := HPB.out hi0 w1 HW1.out
          obtain ⟨im, him⟩ : ∃ im, im = i - 1 := ⟨_, rfl⟩
          rw [← him] at y0 hb0
          have hw1 : IntKind.i64.wrap ((i : Int) - 1) = (im : Int) := by rw [IntKind.wrap_i64]; omega
          have j5 : (0 : Int) ≤ (im : Int) := by omega
          have j6 : (im : Int) < (sc.length : Int) := by omega
          generalize (actF sc im).a = ap at y0 hb0
          clear him hi0
          by_cases t5 : a1 < ap
          · have HF : Hid (playF ts L sc = false) := hide (HBAD.out (by rw [HBD.out, hb0]; simp [t5]))
            have t5' : decide (a1 < ap) = true := decide_eq_true t5
            clear hb0
            go_wp2_with fail
            go_big_region
            go_wp2
            go_ret
            exact ⟨by rw [HF.out]; rfl, by first | exact HW1.out | exact HW1d.out _⟩
          have t5' : decide (a1 < ap) = false := decide_eq_false t5
          have HBF : Hid (bk = false) := hide (hb0.trans t5')
          clear hb0
          have t2' := t2
          by_cases u1 : a2 < 0
          · have HF : Hid (playF ts L sc = false) := hide (HBAD.out (by rw [HBD.out]; simp [u1]))
            go_wp2_with fail
            go_big_region
            go_wp2
            go_ret
            exact ⟨by rw [HF.out]; rfl, HW1.out.drew⟩
          by_cases u2 : 1099511627776 < a2
          · have HF : Hid (playF ts L sc = false) := hide (HBAD.out (by rw [HBD.out]; simp [u2]))
            have u2' : a2 > 1099511627776 := u2
            go_wp2_with fail
            go_big_region
            go_wp2
            go_ret
            exact ⟨by rw [HF.out]; rfl, HW1.out.drew⟩
          by_cases u3 : a3 < 0
          · have HF : Hid (playF ts L sc = false) := hide (HBAD.out (by rw [HBD.out]; simp [u3]))
            have u2' : ¬ a2 > 1099511627776 := u2
            go_wp2_with fail
            go_big_region
            go_wp2
            go_ret
            exact ⟨by rw [HF.out]; rfl, HW1.out.drew⟩
          by_cases u4 : 1099511627776 < a3
          · have HF : Hid (playF ts L sc = false) := hide (HBAD.out (by rw [HBD.out]; simp [u4]))
            have u2' : ¬ a2 > 1099511627776 := u2
            have u4' : a3 > 1099511627776 := u4
            go_wp2_with fail
            go_big_region
            go_wp2
            go_ret
            exact ⟨by rw [HF.out]; rfl, HW1.out.drew⟩
          have u2' : ¬ a2 > 1099511627776 := u2
          have u4' : ¬ a3 > 1099511627776 := u4
          have HBO : Hid (badA ts L sc i = overA sc i) := hide (by rw [HBD.out]; simp [t1, t2, t3, HBF.out, u1, u2, u3, u4])
          go_wp2_with fail
          go_big_region
          go_wp2_with fail
          refine (HLT.out _ HW1.out.drew).mono ?_
          rintro e w2 ⟨rfl, hb2⟩
          have HB2 : Hid (Below bx.heap.size bx w2) := hide (HB1.out.drew.trans (hb2.mono HB1.out.size))
          have HW2 : Hid (Below w.heap.size w w2) := hide (HW1.out.drew.trans (hb2.mono HW1.out.size))
          clear hb2 c0 c1 c2 c3
          obtain ⟨c0, c1, c2, c3⟩ := HC.out w2 HB2.out
          rcases HRG.out with hk | ⟨jj, hk, hj1, hj2⟩
          · have HN : Hid (((List.range (i + 1)).all fun i => !badA ts L sc i) = true) := hide (all_step HAL.out (by rw [HBO.out]; unfold overA; rw [hk]; rfl))
            rw [hk]
            clear hk
            go_wp2_with fail
            go_big_region
            go_wp2
            go_roundw
            case rel => exact ⟨i + 1, by omega, by go_num, by first | exact HW2.out | exact HW2.out.drew, HN.out⟩
            case measure => simp [intOf]; omega
          · have y1 := HKB.out jj hj2 w2 HW2.out
            have HOV : Hid (overA sc i = (decide (IntKind.i64.wrap ((actF sc jj).a - a1) ≤ a2) || decide (IntKind.i64.wrap ((actF sc jj).a - a1) ≤ a3))) := hide (by unfold overA; rw [hk, decide_eq_true (by omega), Bool.true_and, Int.toNat_natCast, HA1.out, HA2.out, HA3.out])
            rw [hk]
            generalize (actF sc jj).a = aj at y1 HOV
            obtain ⟨df, hdf⟩ : ∃ df, IntKind.i64.wrap (aj - a1) = df := ⟨_, rfl⟩
            rw [hdf] at HOV
            have g1 : decide ((jj : Int) ≥ 0) = true := decide_eq_true (by omega)
            have g2 : (0 : Int) ≤ (jj : Int) := by omega
            have g3 : (jj : Int) < (sc.length : Int) := by omega
            clear hk hj1 hj2
            by_cases v1 : df ≤ a2
            · have HF : Hid (playF ts L sc = false) := hide (HBAD.out (by rw [HBO.out, HOV.out]; simp [v1]))
              have g4 : decide (a2 ≥ df) = true := decide_eq_true v1
              go_wp2_with fail
              go_big_region
              go_wp2
              go_ret
              exact ⟨by rw [HF.out]; rfl, by first | exact HW2.out | exact HW2.out.drew⟩
            have g4 : decide (a2 ≥ df) = false := decide_eq_false v1
            by_cases v2 : df ≤ a3
            · have HF : Hid (playF ts L sc = false) := hide (HBAD.out (by rw [HBO.out, HOV.out]; simp [v2]))
              have g5 : decide (a3 ≥ df) = true := decide_eq_true v2
              go_wp2_with fail
              go_big_region
              go_wp2
              go_ret
              exact ⟨by rw [HF.out]; rfl, by first | exact HW2.out | exact HW2.out.drew⟩
            have g5 : decide (a3 ≥ df) = false := decide_eq_false v2
            have HN : Hid (((List.range (i + 1)).all fun i => !badA ts L sc i) = true) := hide (all_step HAL.out (by rw [HBO.out, HOV.out]; simp [v1, v2]))
            go_wp2_with fail
            go_big_region
            go_wp2
            go_roundw
            case rel => exact ⟨i + 1, by omega, by go_num, by first | exact HW2.out | exact HW2.out.drew, HN.out⟩
            case measure => simp [intOf]; omega
      · have ei : i = sc.length := by omega
        subst ei
        have z1 : ¬ (sc.length : Int) < (sc.length : Int) := by omega
        have HF : Hid (playF ts L sc = true) := hide (by rw [HP.out]; exact HAL.out)
        go_wp2
        go_ret
        exact ⟨by rw [HF.out]; rfl, by first | exact HBR.out | exact below_drewN HBR.out _⟩
  · have z0 : (sc.length : Int) > 400 := by omega
    have z0' : 400 < (sc.length : Int) := by omega
    have HP : Hid (playF ts L sc = false) := hide (by unfold playF; rw [decide_eq_false h4, Bool.false_and])
    clear h ho hc
    go_enter Try.func65, Try.ntmps65
    go_wp2
    go_ret
    exact ⟨by rw [HP.out]; rfl, Below.refl _ _⟩

end Go.Proofs.Ytmndgoapkmhglaa
