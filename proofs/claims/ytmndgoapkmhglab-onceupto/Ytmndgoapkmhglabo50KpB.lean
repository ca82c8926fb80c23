import Derived.Test.Ytmndgoapkmhglabo34HeldP
namespace Go.Proofs.Ytmndgoapkmhglab
open Go.RowKit
attribute [local go_sem ↓] Go.wp_at_zero Go.wp_at_succ
theorem here_take (ws : List Nat) (q : Int) (k : Nat) (hk : k < ws.length) : hereK (ws.take (k + 1)) q = (hereK (ws.take k) q || (((ws[k]'hk : Nat) : Int) == q)) := by
  unfold hereK
  rw [List.take_succ_eq_append_getElem hk, List.any_append]
  simp
set_option maxHeartbeats 4000000 in
set_option maxRecDepth 100000 in
theorem kplayable_any (w : World) (vW : Value) (ws : List Nat) (hW : RowAt w vW (ws.map fun (p : Nat) => (p : Int))) (v : Value) (sc : List OpF) (hs : OpsAt w v sc) :
    Calls Try.prog 38 #[vW, v] w fun e w' => e = .returned (.bool (playK ws sc)) ∧ Below w.heap.size w w' := by
  have HS := hide hs
  obtain ⟨A, C, rfl, hm, hc⟩ := hs
  obtain ⟨AW, CW, rfl, hmW, hcW⟩ := hW
  rw [List.length_map] at hmW
  rw [List.length_map]
  by_cases h4 : sc.length ≤ 400
  · have z0 : ¬ (sc.length : Int) > 400 := by omega
    have HP : Hid (playK ws sc = (List.range sc.length).all fun i => !badK ws sc i) := hide (by unfold playK; rw [decide_eq_true h4, Bool.true_and])
    have HA := hide hc
    have HCW := hide hcW
    clear hc hcW
    go_enter Try.func38, Try.ntmps38
    go_wp2
    go_loopw [5] (fun vi wr => ∃ i : Nat, i ≤ sc.length ∧ vi = .int .i64 i ∧ Below w.heap.size w wr ∧ ((List.range i).all fun i => !badK ws sc i) = true) (fun vi _ => sc.length - (intOf vi).toNat)
    case atStart => exact ⟨0, Nat.zero_le _, rfl, Below.refl _ _, rfl⟩
    case round =>
      obtain ⟨i, hi, rfl, hbr, hall⟩ := hrel
      have HBR := hide hbr
      have HAL := hide hall
      clear hall
      by_cases hil : i < sc.length
      · obtain ⟨b, o, rfl, hb, hr⟩ := HA.out (by omega)
        obtain ⟨x0, x1, x2, x3⟩ := hr i hil
        rw [actF_get hil] at x0 x1 x2 x3
        rw [← hbr.cell (p := ⟨b, o + i * 4, none⟩) hb] at x0
        rw [← hbr.cell (p := ⟨b, o + i * 4 + 1, none⟩) hb] at x1
        rw [← hbr.cell (p := ⟨b, o + i * 4 + 2, none⟩) hb] at x2
        rw [← hbr.cell (p := ⟨b, o + i * 4 + 3, none⟩) hb] at x3
        have j3 : (0 : Int) ≤ (i : Int) := by omega
        have j4 : (i : Int) < (sc.length : Int) := by omega
        have HLT := hide (fun W hW => knext_any W _ sc (HS.out.below hW) i hil)
        obtain ⟨a0, ha0⟩ : ∃ a0, a0 = (actF sc i).k := ⟨_, rfl⟩
        obtain ⟨a1, ha1⟩ : ∃ a1, a1 = (actF sc i).a := ⟨_, rfl⟩
        obtain ⟨a2, ha2⟩ : ∃ a2, a2 = (actF sc i).b := ⟨_, rfl⟩
        obtain ⟨a3, ha3⟩ : ∃ a3, a3 = (actF sc i).c := ⟨_, rfl⟩
        rw [← ha0] at x0
        rw [← ha1] at x1
        rw [← ha2] at x2
        rw [← ha3] at x3
        have HBD : Hid (badK ws sc i = (!hereK ws a0 || decide (a1 < 0) || decide (1099511627776 < a1) || decide (a2 < 0) || decide (1099511627776 < a2) || decide (a3 < 0) || decide (1099511627776 < a3) || backA sc i || (decide (0 ≤ nextF sc i) && (decide (nextF sc i ≤ a2) || decide (nextF sc i ≤ a3))))) := hide (by rw [ha0, ha1, ha2, ha3]; rfl)
        have HBAD : Hid (badK ws sc i = true → playK ws sc = false) := hide (fun hbad => by rw [HP.out]; exact all_fail hil (by rw [hbad]; rfl))
        obtain ⟨B, hB⟩ : ∃ B, B = wr.heap.size := ⟨_, rfl⟩
        obtain ⟨bx, hbx⟩ : ∃ bx, bx = wr.alloc (.cells #[.int .i64 a0, .int .i64 a1, .int .i64 a2, .int .i64 a3] 43) := ⟨_, rfl⟩
        have HBX1 : Hid (Below w.heap.size w bx) := hide (by rw [hbx]; exact hbr.alloc hbr.size _)
        have HC : Hid (∀ W : World, Below bx.heap.size bx W → W.cell? ⟨B, 0, none⟩ = some (.int .i64 a0) ∧ W.cell? ⟨B, 1, none⟩ = some (.int .i64 a1) ∧ W.cell? ⟨B, 2, none⟩ = some (.int .i64 a2) ∧ W.cell? ⟨B, 3, none⟩ = some (.int .i64 a3)) := hide fun W hW => by
          have hy : W.heap[B]? = some (.cells #[.int .i64 a0, .int .i64 a1, .int .i64 a2, .int .i64 a3] 43 (0, 0)) := by
            rw [hB, hW.block _ (by rw [hbx]; simp), hbx]; exact heap_alloc_new _ _
          refine ⟨?_, ?_, ?_, ?_⟩ <;> (rw [cell_of_row _ _ _ _ _ _ hy]; rfl)
        have HPB : Hid (0 < i → ∀ W, Below w.heap.size w W → W.cell? ⟨b, o + (i - 1) * 4 + 1, none⟩ = some (.int .i64 (actF sc (i - 1)).a)) := hide fun h1 W hW => by
          rw [hW.cell (p := ⟨b, o + (i - 1) * 4 + 1, none⟩) hb, (hr (i - 1) (by omega)).2.1, actF_get (by omega)]
        have HA1 := hide ha1
        have HEX := hide hbx
        have HBB := hide hB
        clear hr hbr hbx ha0 ha1 ha2 ha3 hB
        go_wp2
        go_loopw [7, 8] (fun vh vk wx => ∃ k : Nat, k ≤ ws.length ∧ vk = .int .i64 k ∧ vh = .bool (hereK (ws.take k) a0) ∧ Below bx.heap.size bx wx) (fun _ vk _ => ws.length - (intOf vk).toNat)
        case atStart => exact ⟨0, Nat.zero_le _, rfl, rfl, by rw [HEX.out]; exact Below.refl _ _⟩
        case round =>
          obtain ⟨k, hk, rfl, rfl, hbk⟩ := hrel
          obtain ⟨c0, c1, c2, c3⟩ := HC.out wr hbk
          rw [HBB.out] at c0 c1 c2 c3
          have HW1 : Hid (Below w.heap.size w wr) := hide (HBX1.out.trans (hbk.mono HBX1.out.size))
          have HBK := hide hbk
          clear hbk x0 x1 x2 x3
          by_cases hkl : k < ws.length
          · obtain ⟨bw, ow, rfl, hbw, hrw⟩ := HCW.out (by rw [List.length_map]; omega)
            have y0 := (HW1.out.cell (p := ⟨bw, ow + k, none⟩) hbw).trans (hrw k (by rw [List.length_map]; exact hkl))
            rw [List.getElem_map] at y0
            have k1 : (0 : Int) ≤ (k : Int) := by omega
            have k2 : (k : Int) < (ws.length : Int) := by omega
            have hk1 : k + 1 ≤ ws.length := hkl
            have HN := hide (here_take ws a0 k hkl)
            generalize (ws[k]'hkl : Nat) = p at y0 HN
            generalize hereK (ws.take k) a0 = hh at *
            clear hrw
            cases hh
            · obtain ⟨pq, hpq⟩ : ∃ pq, (((p : Nat) : Int) == a0) = pq := ⟨_, rfl⟩
              rw [hpq] at HN
              cases pq
              all_goals
                go_wp2_with fail
                first | go_quiet (fail) | go_big_region
                go_wp2
                go_roundw
                case rel => exact ⟨k + 1, hk1, by go_num, by rw [HN.out]; rfl, by first | exact HBK.out | exact below_drewN HBK.out _ | exact HBK.out.drew⟩
                case measure => simp [intOf]; omega
            · go_wp2_with fail
              first | go_quiet (fail) | go_big_region
              go_wp2
              go_roundw
              case rel => exact ⟨k + 1, hk1, by go_num, by rw [HN.out]; rfl, by first | exact HBK.out | exact below_drewN HBK.out _ | exact HBK.out.drew⟩
              case measure => simp [intOf]; omega
          · have ek : ws.take k = ws := List.take_of_length_le (by omega)
            rw [ek]
            generalize hereK ws a0 = hh at *
            clear ek
            have HW1d := hide (below_drewN HW1.out)
            cases hh with
            | false =>
              have HF : Hid (playK ws sc = false) := hide (HBAD.out (by rw [HBD.out]; rfl))
              go_wp2
              go_ret
              exact ⟨by rw [HF.out]; rfl, by first | exact HW1.out | exact HW1d.out _⟩
            | true =>
              by_cases t2 : a1 < 0
              · have HF : Hid (playK ws sc = false) := hide (HBAD.out (by rw [HBD.out]; have h' : a1 < 0 := t2; simp [h']))
                go_wp2
                go_ret
                exact ⟨by rw [HF.out]; rfl, by first | exact HW1.out | exact HW1d.out _⟩
              by_cases t3 : a1 > 1099511627776
              · have HF : Hid (playK ws sc = false) := hide (HBAD.out (by rw [HBD.out]; have h' : 1099511627776 < a1 := t3; simp [h']))
                go_wp2
                go_ret
                exact ⟨by rw [HF.out]; rfl, by first | exact HW1.out | exact HW1d.out _⟩
              by_cases t4 : a2 < 0
              · have HF : Hid (playK ws sc = false) := hide (HBAD.out (by rw [HBD.out]; have h' : a2 < 0 := t4; simp [h']))
                go_wp2
                go_ret
                exact ⟨by rw [HF.out]; rfl, by first | exact HW1.out | exact HW1d.out _⟩
              by_cases t5 : a2 > 1099511627776
              · have HF : Hid (playK ws sc = false) := hide (HBAD.out (by rw [HBD.out]; have h' : 1099511627776 < a2 := t5; simp [h']))
                go_wp2
                go_ret
                exact ⟨by rw [HF.out]; rfl, by first | exact HW1.out | exact HW1d.out _⟩
              by_cases t6 : a3 < 0
              · have HF : Hid (playK ws sc = false) := hide (HBAD.out (by rw [HBD.out]; have h' : a3 < 0 := t6; simp [h']))
                go_wp2
                go_ret
                exact ⟨by rw [HF.out]; rfl, by first | exact HW1.out | exact HW1d.out _⟩
              by_cases t7 : a3 > 1099511627776
              · have HF : Hid (playK ws sc = false) := hide (HBAD.out (by rw [HBD.out]; have h' : 1099511627776 < a3 := t7; simp [h']))
                go_wp2
                go_ret
                exact ⟨by rw [HF.out]; rfl, by first | exact HW1.out | exact HW1d.out _⟩
              have hback : (i = 0 ∧ backA sc i = false) ∨ (0 < i ∧ backA sc i = decide (a1 < (actF sc (i - 1)).a)) := by
                cases i with
                | zero => exact .inl ⟨rfl, rfl⟩
                | succ i' => exact .inr ⟨by omega, by rw [HA1.out]; rfl⟩
              obtain ⟨bk, hbk⟩ : ∃ bk, bk = backA sc i := ⟨_, rfl⟩
              rw [← hbk] at hback HBD
              clear hbk
              have HEND : Hid (bk = false → (decide (0 ≤ nextF sc i) && (decide (nextF sc i ≤ a2) || decide (nextF sc i ≤ a3))) = false → ((List.range (i + 1)).all fun i => !badK ws sc i) = true) := hide (fun h1 h2 => all_step HAL.out (by
                rw [HBD.out, h1, h2]
                simp
                omega))
              have HEND2 : Hid ((decide (0 ≤ nextF sc i) && (decide (nextF sc i ≤ a2) || decide (nextF sc i ≤ a3))) = true → playK ws sc = false) := hide (fun h2 => HBAD.out (by rw [HBD.out, h2]; simp))
              have HEND3 : Hid (bk = true → playK ws sc = false) := hide (fun h2 => HBAD.out (by rw [HBD.out, h2]; simp))
              have HNX : Hid (∀ W, Below wr.heap.size wr W → W.cell? ⟨B, 2, none⟩ = some (.int .i64 a2) ∧ W.cell? ⟨B, 3, none⟩ = some (.int .i64 a3)) := hide (fun W hW => by
                obtain ⟨_, _, d2, d3⟩ := HC.out W (HBK.out.trans (hW.mono HBK.out.size))
                exact ⟨d2, d3⟩)
              clear HBD HBAD
              rcases hback with ⟨hi0, hb0⟩ | ⟨hi0, hb0⟩
              · have q4 : ¬ (i : Int) > 0 := by omega
                have q4' : decide ((i : Int) > 0) = false := decide_eq_false q4
                have q5 : decide (0 < i) = false := decide_eq_false (by omega)
                have q6 : ¬ 0 < i := by omega
                clear q4
                have HBF := hide hb0
                clear hi0 hb0
                go_wp2_with fail
                first | go_quiet (fail) | go_big_region
                go_wp2_with fail
                refine (HLT.out _ (by first | exact below_drewN HW1.out _ | exact HW1.out.drew | exact HW1.out)).mono ?_
                rintro e w2 ⟨rfl, hb2⟩
                have hb2' : Below wr.heap.size wr w2 := (by first | exact below_drewN (Below.refl wr.heap.size wr) _ | exact (Below.refl wr.heap.size wr).drew | exact Below.refl wr.heap.size wr : Below wr.heap.size wr _).trans hb2
                obtain ⟨d2, d3⟩ := HNX.out w2 hb2'
                rw [HBB.out] at d2 d3
                have HW2 : Hid (Below w.heap.size w w2) := hide (HW1.out.trans (hb2'.mono HW1.out.size))
                clear hb2 hb2' c0 c1 c2 c3
                generalize nextF sc i = nx at *
                by_cases u0 : nx ≥ 0
                · by_cases u1 : a2 ≥ nx
                  · have HF : Hid (playK ws sc = false) := hide (HEND2.out (by rw [Bool.and_eq_true, Bool.or_eq_true, decide_eq_true_iff, decide_eq_true_iff, decide_eq_true_iff]; exact ⟨u0, .inl u1⟩))
                    go_wp2
                    go_ret
                    exact ⟨by rw [HF.out]; rfl, HW2.out⟩
                  · by_cases u2 : a3 ≥ nx
                    · have HF : Hid (playK ws sc = false) := hide (HEND2.out (by rw [Bool.and_eq_true, Bool.or_eq_true, decide_eq_true_iff, decide_eq_true_iff, decide_eq_true_iff]; exact ⟨u0, .inr u2⟩))
                      go_wp2
                      go_ret
                      exact ⟨by rw [HF.out]; rfl, HW2.out⟩
                    · have HN := hide (HEND.out HBF.out (by simp only [Bool.and_eq_false_iff, Bool.or_eq_false_iff, decide_eq_false_iff_not]; exact .inr ⟨by omega, by omega⟩))
                      go_wp2
                      go_roundw
                      case rel => exact ⟨i + 1, by omega, by go_num, HW2.out, HN.out⟩
                      case measure => simp [intOf]; omega
                · have HN := hide (HEND.out HBF.out (by simp only [Bool.and_eq_false_iff, decide_eq_false_iff_not]; exact .inl u0))
                  go_wp2
                  go_roundw
                  case rel => exact ⟨i + 1, by omega, by go_num, HW2.out, HN.out⟩
                  case measure => simp [intOf]; omega
              · have q4' : decide ((i : Int) > 0) = true := decide_eq_true (by omega)
                have q5 : decide (0 < i) = true := decide_eq_true hi0
                have q6 : 0 < i := hi0
                have em1 : IntKind.i64.wrap ((i : Int) - 1) = ((i - 1 : Nat) : Int) := by rw [IntKind.wrap_i64]; omega
                have em2 : (i : Int) - 1 = ((i - 1 : Nat) : Int) := by omega
                have p1 := HPB.out hi0 wr HW1.out
                have e1 : (0 : Int) ≤ ((i - 1 : Nat) : Int) := by omega
                have e2 : ((i - 1 : Nat) : Int) < (sc.length : Int) := by omega
                generalize (actF sc (i - 1)).a = pa at *
                generalize hii : i - 1 = ii at *
                have HII := hide hii
                clear hii
                by_cases tb : a1 < pa
                · have HF : Hid (playK ws sc = false) := hide (HEND3.out (by rw [hb0]; exact decide_eq_true tb))
                  clear hb0
                  go_wp2_with fail
                  first | go_quiet (fail) | go_big_region
                  go_wp2
                  go_ret
                  exact ⟨by rw [HF.out]; rfl, by first | exact HW1.out | exact HW1d.out _ | exact HW1.out.drew⟩
                · have HBF : Hid (bk = false) := hide (by rw [hb0]; exact decide_eq_false tb)
                  clear hb0
                  go_wp2_with fail
                  first | go_quiet (fail) | go_big_region
                  go_wp2_with fail
                  refine (HLT.out _ (by first | exact below_drewN HW1.out _ | exact HW1.out.drew | exact HW1.out)).mono ?_
                  rintro e w2 ⟨rfl, hb2⟩
                  have hb2' : Below wr.heap.size wr w2 := (by first | exact below_drewN (Below.refl wr.heap.size wr) _ | exact (Below.refl wr.heap.size wr).drew | exact Below.refl wr.heap.size wr : Below wr.heap.size wr _).trans hb2
                  obtain ⟨d2, d3⟩ := HNX.out w2 hb2'
                  rw [HBB.out] at d2 d3
                  have HW2 : Hid (Below w.heap.size w w2) := hide (HW1.out.trans (hb2'.mono HW1.out.size))
                  clear hb2 hb2' c0 c1 c2 c3
                  generalize nextF sc i = nx at *
                  by_cases u0 : nx ≥ 0
                  · by_cases u1 : a2 ≥ nx
                    · have HF : Hid (playK ws sc = false) := hide (HEND2.out (by rw [Bool.and_eq_true, Bool.or_eq_true, decide_eq_true_iff, decide_eq_true_iff, decide_eq_true_iff]; exact ⟨u0, .inl u1⟩))
                      go_wp2
                      go_ret
                      exact ⟨by rw [HF.out]; rfl, HW2.out⟩
                    · by_cases u2 : a3 ≥ nx
                      · have HF : Hid (playK ws sc = false) := hide (HEND2.out (by rw [Bool.and_eq_true, Bool.or_eq_true, decide_eq_true_iff, decide_eq_true_iff, decide_eq_true_iff]; exact ⟨u0, .inr u2⟩))
                        go_wp2
                        go_ret
                        exact ⟨by rw [HF.out]; rfl, HW2.out⟩
                      · have HN := hide (HEND.out HBF.out (by simp only [Bool.and_eq_false_iff, Bool.or_eq_false_iff, decide_eq_false_iff_not]; exact .inr ⟨by omega, by omega⟩))
                        go_wp2
                        go_roundw
                        case rel => exact ⟨i + 1, by omega, by go_num, HW2.out, HN.out⟩
                        case measure => simp [intOf]; omega
                  · have HN := hide (HEND.out HBF.out (by simp only [Bool.and_eq_false_iff, decide_eq_false_iff_not]; exact .inl u0))
                    go_wp2
                    go_roundw
                    case rel => exact ⟨i + 1, by omega, by go_num, HW2.out, HN.out⟩
                    case measure => simp [intOf]; omega
      · have hx : ((List.range sc.length).all fun i => !badK ws sc i) = true := by
          have e : i = sc.length := by omega
          rw [← e]; exact HAL.out
        have HF : Hid (playK ws sc = true) := hide (by rw [HP.out]; exact hx)
        have z1 : ¬ (i : Int) < (sc.length : Int) := by omega
        clear hx
        go_wp2
        go_ret
        exact ⟨by rw [HF.out]; rfl, hbr⟩
  · have z0 : (sc.length : Int) > 400 := by omega
    have HF : Hid (playK ws sc = false) := hide (by unfold playK; rw [decide_eq_false h4, Bool.false_and])
    go_enter Try.func38, Try.ntmps38
    go_wp2
    go_ret
    exact ⟨by rw [HF.out]; rfl, Below.refl _ _⟩
end Go.Proofs.Ytmndgoapkmhglab
