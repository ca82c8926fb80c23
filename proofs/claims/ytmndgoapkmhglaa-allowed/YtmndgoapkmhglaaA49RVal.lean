import Derived.Test.YtmndgoapkmhglaaA46WkF
import Derived.Test.YtmndgoapkmhglaaA48PVal
/- Valid: the document's own answer. -/
namespace Go.Proofs.Ytmndgoapkmhglaa
open Go.RowKit
attribute [local go_sem ↓] Go.wp_at_zero Go.wp_at_succ

set_option maxHeartbeats 8000000 in
set_option maxRecDepth 100000 in
theorem rvalid_any (s : ByteArray) (b : BdF) (vS : Value) (sc : List OpF) (w : World) (hS : OpsAt w vS sc) :
    Calls Try.prog 43 #[.string s, b.val, vS] w fun e w' => ∃ n : Nat, e = .returned (.int .i64 (n : Int)) ∧ ValR s b sc n ∧ Below w.heap.size w w' := by
  have HVR : Hid (∀ n, ValR s b sc n = if (textF s).1 ≠ 0 then n = (textF s).1 else ∃ L, RGood s L ∧ ROk (toks s) L ∧ n = validF (toks s) L b sc) := hide fun _ => rfl
  have HFIT := hide (rfit_any b)
  have HVF : Hid (∀ L, validF (toks s) L b sc = if fitF b = false then 10 else if playF (toks s) L sc = true ∧ ∀ i, i < sc.length → badV b sc i = false then 0 else 11) := hide fun _ => rfl
  have HBV : Hid (∀ i, badV b sc i = ((firstF sc i && decide (b.tmax < (actF sc i).a)) || decide ((actF sc i).b < b.dmin) || decide (b.dmax < (actF sc i).b) || decide ((actF sc i).c < b.dmin) || decide (b.dmax < (actF sc i).c) || (decide (0 ≤ laterF sc i) && (decide (IntKind.i64.wrap ((actF sc (laterF sc i).toNat).a - (actF sc i).a) < b.tmin) || decide (b.tmax < IntKind.i64.wrap ((actF sc (laterF sc i).toNat).a - (actF sc i).a)))))) := hide fun _ => rfl
  generalize hQ1 : ValR s b sc = Q1 at *
  generalize hBVe : badV b sc = BV at *
  obtain ⟨fb, hfb⟩ : ∃ fb, fitF b = fb := ⟨_, rfl⟩
  rw [hfb] at HFIT HVF
  clear hQ1 hBVe hfb
  have HS := hide hS
  obtain ⟨AS, CS, rfl, hmS, hcS⟩ := hS
  have HCS := hide hcS
  clear hcS
  obtain ⟨t0, t1, d0, d1⟩ := b
  simp only [] at HBV
  obtain ⟨b0, hb0⟩ : ∃ b0, b0 = w.alloc (.cells #[.int .i64 t0, .int .i64 t1, .int .i64 d0, .int .i64 d1] 73) := ⟨_, rfl⟩
  have HW0 : Hid (Below w.heap.size w b0) := hide (by rw [hb0]; exact (Below.refl _ _).alloc (Nat.le_refl _) _)
  have HC : Hid (∀ W : World, Below b0.heap.size b0 W → W.cell? ⟨w.heap.size, 0, none⟩ = some (.int .i64 t0) ∧ W.cell? ⟨w.heap.size, 1, none⟩ = some (.int .i64 t1) ∧ W.cell? ⟨w.heap.size, 2, none⟩ = some (.int .i64 d0) ∧ W.cell? ⟨w.heap.size, 3, none⟩ = some (.int .i64 d1)) := hide fun W hW => box_cells (by rw [hb0] at hW; simpa using hW)
  go_enter Try.func43, Try.ntmps43
  go_wp2_with fail
  rw [← hb0]
  clear hb0
  refine (rread_any s b0).mono ?_
  rintro e w1 ⟨p, rfl, hb1, hok⟩
  have HB1 := hide hb1
  have HW1 : Hid (Below w.heap.size w w1) := hide (HW0.out.trans (hb1.mono HW0.out.size))
  have HOK := hide hok
  clear hok
  by_cases h0 : (textF s).1 = 0
  · have q1 : (((textF s).1 : Int) != 0) = false := by rw [h0]; rfl
    have H0 := hide h0
    obtain ⟨q, g, cap, L, vE, vA, vI, vQ, rfl, hP, ho, hG⟩ := HOK.out h0
    obtain ⟨c0, c1, c2, c3⟩ := HC.out w1 HB1.out
    have HP := hide hP
    have HO := hide ho
    have HG := hide hG
    have HQN : Hid (∀ n, n = validF (toks s) L ⟨t0, t1, d0, d1⟩ sc → Q1 n) := hide (fun n hn => by rw [HVR.out, if_neg (by rw [H0.out]; simp)]; exact ⟨L, HG.out, HO.out, hn⟩)
    clear h0 hP ho hG HOK hb1
    go_wp2_with fail
    refine (HFIT.out w1).mono ?_
    rintro e w2 ⟨rfl, hb2⟩
    have HB2 := hide hb2
    have hb2' : Below b0.heap.size b0 w2 := HB1.out.trans (hb2.mono HB1.out.size)
    have HB2' := hide hb2'
    have HW2 : Hid (Below w.heap.size w w2) := hide (HW0.out.trans (hb2'.mono HW0.out.size))
    clear hb2 hb2' c0 c1 c2 c3
    cases fb with
    | false =>
      have HQ : Hid (Q1 10) := hide (HQN.out 10 (by rw [HVF.out, if_pos rfl]))
      go_wp2
      go_ret
      exact ⟨10, rfl, HQ.out, HW2.out⟩
    | true =>
      have HPL := hide (rplayable_any w2 q g cap (toks s) L vE vA vI vQ (HP.out.below HB2.out) HO.out _ sc (HS.out.below HW2.out))
      obtain ⟨pp, hpp⟩ : ∃ pp, playF (toks s) L sc = pp := ⟨_, rfl⟩
      have HPI := hide (play_iff (toks s) L sc)
      have HVL : Hid (validF (toks s) L ⟨t0, t1, d0, d1⟩ sc = if pp = true ∧ ∀ i, i < sc.length → BV i = false then 0 else 11) := hide (by rw [HVF.out, if_neg (by simp), hpp])
      rw [hpp] at HPL HPI
      clear hpp
      go_wp2_with fail
      refine HPL.out.mono ?_
      rintro e w3 ⟨rfl, hb3⟩
      have hb3' : Below b0.heap.size b0 w3 := HB2'.out.trans (hb3.mono HB2'.out.size)
      have HB3 := hide hb3'
      have HW3 : Hid (Below w.heap.size w w3) := hide (HW0.out.trans (hb3'.mono HW0.out.size))
      clear hb3 hb3'
      cases pp with
      | false =>
        have HQ : Hid (Q1 11) := hide (HQN.out 11 (by rw [HVL.out, if_neg (fun e => by cases e.1)]))
        go_wp2
        go_ret
        exact ⟨11, rfl, HQ.out, HW3.out⟩
      | true =>
        obtain ⟨h400, hacts⟩ := HPI.out.1 rfl
        have HACT := hide hacts
        have HFL : Hid (∀ i, i < sc.length → BV i = true → Q1 11) := hide (fun i hi hb => HQN.out 11 (by rw [HVL.out, if_neg (fun e => by have := e.2 i hi; rw [hb] at this; cases this)]))
        clear hacts
        go_wp2
        go_loopw [12] (fun vi wr => ∃ i : Nat, i ≤ sc.length ∧ vi = .int .i64 i ∧ Below b0.heap.size b0 wr ∧ ∀ j, j < i → BV j = false) (fun vi _ => sc.length - (intOf vi).toNat)
        case atStart => exact ⟨0, Nat.zero_le _, rfl, HB3.out, fun j hj => by omega⟩
        case round =>
          obtain ⟨i, hi, rfl, hbr, hall⟩ := hrel
          have HAL := hide hall
          have HBR := hide hbr
          have HWR : Hid (Below w.heap.size w wr) := hide (HW0.out.trans (hbr.mono HW0.out.size))
          clear hall
          by_cases hil : i < sc.length
          · obtain ⟨bs, os, rfl, hbs, hrs⟩ := HCS.out (by omega)
            obtain ⟨x0, x1, x2, x3⟩ := act_cells hrs HWR.out hbs hil
            have j3 : (0 : Int) ≤ (i : Int) := by omega
            have j4 : (i : Int) < (sc.length : Int) := by omega
            have HBI := hide (HBV.out i)
            have HBX : Hid (Below b0.heap.size b0 (wr.alloc (.cells #[.int .i64 (actF sc i).k, .int .i64 (actF sc i).a, .int .i64 (actF sc i).b, .int .i64 (actF sc i).c] 108))) := hide (HBR.out.alloc HBR.out.size _)
            have HRS : Hid (∀ W m, Below w.heap.size w W → m < sc.length → W.cell? ⟨bs, os + m * 4 + 1, none⟩ = some (.int .i64 (actF sc m).a)) := hide (fun W m hW hm => (act_cells hrs hW hbs hm).2.1)
            have HLN := hide (later_nat sc hil)
            clear hrs hbr
            go_wp2_with fail
            refine (rfirst_any _ _ sc (HS.out.below (HW0.out.trans (HBX.out.mono HW0.out.size))) i hil).mono ?_
            rintro e w4 ⟨rfl, hb4⟩
            have hb4' : Below (wr.heap.size + 1) (wr.alloc (.cells #[.int .i64 (actF sc i).k, .int .i64 (actF sc i).a, .int .i64 (actF sc i).b, .int .i64 (actF sc i).c] 108)) w4 := by simpa using hb4
            have HB4' := hide hb4'
            have HB4 : Hid (Below b0.heap.size b0 w4) := hide (HBX.out.trans (hb4.mono HBX.out.size))
            have HW4 : Hid (Below w.heap.size w w4) := hide (HW0.out.trans (HB4.out.mono HW0.out.size))
            clear hb4 hb4' x0 x1 x2 x3
            go_wp2_with fail
            refine (rlater_any _ _ sc (HS.out.below HW4.out) i hil).mono ?_
            rintro e w5 ⟨rfl, hb5⟩
            obtain ⟨y0, y1, y2, y3⟩ := box_cells (HB4'.out.trans (hb5.mono (by simpa using HB4'.out.size)))
            have hb5' : Below b0.heap.size b0 w5 := HB4.out.trans (hb5.mono HB4.out.size)
            obtain ⟨k0, k1, k2, k3⟩ := HC.out w5 hb5'
            have HB5 := hide hb5'
            have HW5 : Hid (Below w.heap.size w w5) := hide (HW0.out.trans (hb5'.mono HW0.out.size))
            have HCM : Hid (∀ m, m < sc.length → w5.cell? ⟨bs, os + m * 4 + 1, none⟩ = some (.int .i64 (actF sc m).a)) := hide (fun m hm => HRS.out w5 m HW5.out hm)
            have ha := HACT.out i hil
            have hfi := (fun (m : Nat) (hm : m < sc.length) => (HACT.out m hm).a0)
            have HA0 := hide hfi
            have hai := ha.a0
            clear hb5 hb5' ha hfi
            generalize firstF sc i = fi at *
            generalize laterF sc i = la at *
            generalize (actF sc i).k = a0 at *
            generalize (actF sc i).a = a1 at *
            generalize (actF sc i).b = a2 at *
            generalize (actF sc i).c = a3 at *
            have HBAD : Hid (BV i = true → ∃ n : Nat, (11 : Int) = (n : Int) ∧ Q1 n) := hide (fun e => ⟨11, rfl, HFL.out i hil e⟩)
            have HAI := HBAD
            cases fi with
            | false =>
              by_cases z2 : a2 < d0
              · have z2d : decide (a2 < d0) = true := decide_eq_true z2
                have HQ : Hid (Q1 11) := hide (HFL.out i hil (by rw [HBI.out]; simp [z2]))
                clear HBI HBAD HFL HAI
                go_wp2_with fail
                go_big_region
                go_wp2
                go_ret
                exact ⟨11, rfl, HQ.out, by first | exact HW5.out | exact HW5.out.drew | exact below_drewN HW5.out _⟩
              have z2d : decide (a2 < d0) = false := decide_eq_false z2
              by_cases z3 : d1 < a2
              · have z3' : a2 > d1 := z3
                have z3d : decide (a2 > d1) = true := decide_eq_true z3
                have HQ : Hid (Q1 11) := hide (HFL.out i hil (by rw [HBI.out]; simp [z2, z3]))
                clear HBI HBAD HFL HAI
                go_wp2_with fail
                go_big_region
                go_wp2
                go_ret
                exact ⟨11, rfl, HQ.out, by first | exact HW5.out | exact HW5.out.drew | exact below_drewN HW5.out _⟩
              have z3' : ¬ a2 > d1 := z3
              have z3d : decide (a2 > d1) = false := decide_eq_false z3
              by_cases z4 : a3 < d0
              · have z4d : decide (a3 < d0) = true := decide_eq_true z4
                have HQ : Hid (Q1 11) := hide (HFL.out i hil (by rw [HBI.out]; simp [z2, z3, z4]))
                clear HBI HBAD HFL HAI
                go_wp2_with fail
                go_big_region
                go_wp2
                go_ret
                exact ⟨11, rfl, HQ.out, by first | exact HW5.out | exact HW5.out.drew | exact below_drewN HW5.out _⟩
              have z4d : decide (a3 < d0) = false := decide_eq_false z4
              by_cases z5 : d1 < a3
              · have z5' : a3 > d1 := z5
                have z5d : decide (a3 > d1) = true := decide_eq_true z5
                have HQ : Hid (Q1 11) := hide (HFL.out i hil (by rw [HBI.out]; simp [z2, z3, z4, z5]))
                clear HBI HBAD HFL HAI
                go_wp2_with fail
                go_big_region
                go_wp2
                go_ret
                exact ⟨11, rfl, HQ.out, by first | exact HW5.out | exact HW5.out.drew | exact below_drewN HW5.out _⟩
              have z5' : ¬ a3 > d1 := z5
              have z5d : decide (a3 > d1) = false := decide_eq_false z5
              by_cases z6 : 0 ≤ la
              · obtain ⟨m, rfl, hm1, hm2⟩ := HLN.out z6
                have z6' : ((m : Int) ≥ 0) := z6
                have z6d : decide ((m : Int) ≥ 0) = true := decide_eq_true z6'
                have cm := HCM.out m hm2
                have hma := HA0.out m hm2
                have i1 : (0 : Int) ≤ (m : Int) := by omega
                have i2 : (m : Int) < (sc.length : Int) := by omega
                rw [Int.toNat_natCast] at HBI
                generalize (actF sc m).a = am at *
                have hw : IntKind.i64.wrap (am - a1) = am - a1 := by rw [IntKind.wrap_i64]; omega
                rw [hw] at HBI
                clear hm1 HCM HA0 hma hai
                by_cases z7 : am - a1 < t0
                · have z7d : decide (am - a1 < t0) = true := decide_eq_true z7
                  have HQ : Hid (Q1 11) := hide (HFL.out i hil (by rw [HBI.out]; simp [z2, z3, z4, z5, z7]))
                  clear HBI HBAD HFL HAI
                  go_wp2_with fail
                  go_big_region
                  go_wp2
                  go_ret
                  exact ⟨11, rfl, HQ.out, by first | exact HW5.out | exact HW5.out.drew | exact below_drewN HW5.out _⟩
                have z7d : decide (am - a1 < t0) = false := decide_eq_false z7
                by_cases z8 : t1 < am - a1
                · have z8' : am - a1 > t1 := z8
                  have z8d : decide (am - a1 > t1) = true := decide_eq_true z8
                  have HQ : Hid (Q1 11) := hide (HFL.out i hil (by rw [HBI.out]; simp [z2, z3, z4, z5, z7, z8]))
                  clear HBI HBAD HFL HAI
                  go_wp2_with fail
                  go_big_region
                  go_wp2
                  go_ret
                  exact ⟨11, rfl, HQ.out, by first | exact HW5.out | exact HW5.out.drew | exact below_drewN HW5.out _⟩
                have z8' : ¬ am - a1 > t1 := z8
                have z8d : decide (am - a1 > t1) = false := decide_eq_false z8
                have HN : Hid (BV i = false) := hide (by rw [HBI.out]; simp [z2, z3, z4, z5, z7, z8])
                have HALL : Hid (∀ j, j < i + 1 → BV j = false) := hide (fun j hj => by rcases Nat.lt_succ_iff_lt_or_eq.1 hj with h | rfl; exact HAL.out j h; exact HN.out)
                clear HBI HBAD HFL HAI HN HAL
                go_wp2_with fail
                go_big_region
                go_wp2
                go_roundw
                case rel => exact ⟨i + 1, by omega, by go_num, by first | exact HB5.out | exact HB5.out.drew | exact below_drewN HB5.out _, HALL.out⟩
                case measure => simp [intOf]; omega
              · have z6' : ¬ la ≥ 0 := z6
                have z6d : decide (la ≥ 0) = false := decide_eq_false z6'
                clear HCM HA0 hai HLN
                have HN : Hid (BV i = false) := hide (by rw [HBI.out]; simp [z2, z3, z4, z5, z6])
                have HALL : Hid (∀ j, j < i + 1 → BV j = false) := hide (fun j hj => by rcases Nat.lt_succ_iff_lt_or_eq.1 hj with h | rfl; exact HAL.out j h; exact HN.out)
                clear HBI HBAD HFL HAI HN HAL
                go_wp2_with fail
                go_big_region
                go_wp2
                go_roundw
                case rel => exact ⟨i + 1, by omega, by go_num, by first | exact HB5.out | exact HB5.out.drew | exact below_drewN HB5.out _, HALL.out⟩
                case measure => simp [intOf]; omega
            | true =>
              by_cases z1 : t1 < a1
              · have z1' : a1 > t1 := z1
                have z1d : decide (a1 > t1) = true := decide_eq_true z1
                have HQ : Hid (Q1 11) := hide (HFL.out i hil (by rw [HBI.out]; simp [z1]))
                clear HBI HBAD HFL HAI
                go_wp2_with fail
                go_big_region
                go_wp2
                go_ret
                exact ⟨11, rfl, HQ.out, by first | exact HW5.out | exact HW5.out.drew | exact below_drewN HW5.out _⟩
              have z1' : ¬ a1 > t1 := z1
              have z1d : decide (a1 > t1) = false := decide_eq_false z1
              by_cases z2 : a2 < d0
              · have z2d : decide (a2 < d0) = true := decide_eq_true z2
                have HQ : Hid (Q1 11) := hide (HFL.out i hil (by rw [HBI.out]; simp [z1, z2]))
                clear HBI HBAD HFL HAI
                go_wp2_with fail
                go_big_region
                go_wp2
                go_ret
                exact ⟨11, rfl, HQ.out, by first | exact HW5.out | exact HW5.out.drew | exact below_drewN HW5.out _⟩
              have z2d : decide (a2 < d0) = false := decide_eq_false z2
              by_cases z3 : d1 < a2
              · have z3' : a2 > d1 := z3
                have z3d : decide (a2 > d1) = true := decide_eq_true z3
                have HQ : Hid (Q1 11) := hide (HFL.out i hil (by rw [HBI.out]; simp [z1, z2, z3]))
                clear HBI HBAD HFL HAI
                go_wp2_with fail
                go_big_region
                go_wp2
                go_ret
                exact ⟨11, rfl, HQ.out, by first | exact HW5.out | exact HW5.out.drew | exact below_drewN HW5.out _⟩
              have z3' : ¬ a2 > d1 := z3
              have z3d : decide (a2 > d1) = false := decide_eq_false z3
              by_cases z4 : a3 < d0
              · have z4d : decide (a3 < d0) = true := decide_eq_true z4
                have HQ : Hid (Q1 11) := hide (HFL.out i hil (by rw [HBI.out]; simp [z1, z2, z3, z4]))
                clear HBI HBAD HFL HAI
                go_wp2_with fail
                go_big_region
                go_wp2
                go_ret
                exact ⟨11, rfl, HQ.out, by first | exact HW5.out | exact HW5.out.drew | exact below_drewN HW5.out _⟩
              have z4d : decide (a3 < d0) = false := decide_eq_false z4
              by_cases z5 : d1 < a3
              · have z5' : a3 > d1 := z5
                have z5d : decide (a3 > d1) = true := decide_eq_true z5
                have HQ : Hid (Q1 11) := hide (HFL.out i hil (by rw [HBI.out]; simp [z1, z2, z3, z4, z5]))
                clear HBI HBAD HFL HAI
                go_wp2_with fail
                go_big_region
                go_wp2
                go_ret
                exact ⟨11, rfl, HQ.out, by first | exact HW5.out | exact HW5.out.drew | exact below_drewN HW5.out _⟩
              have z5' : ¬ a3 > d1 := z5
              have z5d : decide (a3 > d1) = false := decide_eq_false z5
              by_cases z6 : 0 ≤ la
              · obtain ⟨m, rfl, hm1, hm2⟩ := HLN.out z6
                have z6' : ((m : Int) ≥ 0) := z6
                have z6d : decide ((m : Int) ≥ 0) = true := decide_eq_true z6'
                have cm := HCM.out m hm2
                have hma := HA0.out m hm2
                have i1 : (0 : Int) ≤ (m : Int) := by omega
                have i2 : (m : Int) < (sc.length : Int) := by omega
                rw [Int.toNat_natCast] at HBI
                generalize (actF sc m).a = am at *
                have hw : IntKind.i64.wrap (am - a1) = am - a1 := by rw [IntKind.wrap_i64]; omega
                rw [hw] at HBI
                clear hm1 HCM HA0 hma hai
                by_cases z7 : am - a1 < t0
                · have z7d : decide (am - a1 < t0) = true := decide_eq_true z7
                  have HQ : Hid (Q1 11) := hide (HFL.out i hil (by rw [HBI.out]; simp [z1, z2, z3, z4, z5, z7]))
                  clear HBI HBAD HFL HAI
                  go_wp2_with fail
                  go_big_region
                  go_wp2
                  go_ret
                  exact ⟨11, rfl, HQ.out, by first | exact HW5.out | exact HW5.out.drew | exact below_drewN HW5.out _⟩
                have z7d : decide (am - a1 < t0) = false := decide_eq_false z7
                by_cases z8 : t1 < am - a1
                · have z8' : am - a1 > t1 := z8
                  have z8d : decide (am - a1 > t1) = true := decide_eq_true z8
                  have HQ : Hid (Q1 11) := hide (HFL.out i hil (by rw [HBI.out]; simp [z1, z2, z3, z4, z5, z7, z8]))
                  clear HBI HBAD HFL HAI
                  go_wp2_with fail
                  go_big_region
                  go_wp2
                  go_ret
                  exact ⟨11, rfl, HQ.out, by first | exact HW5.out | exact HW5.out.drew | exact below_drewN HW5.out _⟩
                have z8' : ¬ am - a1 > t1 := z8
                have z8d : decide (am - a1 > t1) = false := decide_eq_false z8
                have HN : Hid (BV i = false) := hide (by rw [HBI.out]; simp [z1, z2, z3, z4, z5, z7, z8])
                have HALL : Hid (∀ j, j < i + 1 → BV j = false) := hide (fun j hj => by rcases Nat.lt_succ_iff_lt_or_eq.1 hj with h | rfl; exact HAL.out j h; exact HN.out)
                clear HBI HBAD HFL HAI HN HAL
                go_wp2_with fail
                go_big_region
                go_wp2
                go_roundw
                case rel => exact ⟨i + 1, by omega, by go_num, by first | exact HB5.out | exact HB5.out.drew | exact below_drewN HB5.out _, HALL.out⟩
                case measure => simp [intOf]; omega
              · have z6' : ¬ la ≥ 0 := z6
                have z6d : decide (la ≥ 0) = false := decide_eq_false z6'
                clear HCM HA0 hai HLN
                have HN : Hid (BV i = false) := hide (by rw [HBI.out]; simp [z1, z2, z3, z4, z5, z6])
                have HALL : Hid (∀ j, j < i + 1 → BV j = false) := hide (fun j hj => by rcases Nat.lt_succ_iff_lt_or_eq.1 hj with h | rfl; exact HAL.out j h; exact HN.out)
                clear HBI HBAD HFL HAI HN HAL
                go_wp2_with fail
                go_big_region
                go_wp2
                go_roundw
                case rel => exact ⟨i + 1, by omega, by go_num, by first | exact HB5.out | exact HB5.out.drew | exact below_drewN HB5.out _, HALL.out⟩
                case measure => simp [intOf]; omega
          · have ek : i = sc.length := by omega
            subst ek
            have HQ : Hid (Q1 0) := hide (HQN.out 0 (by rw [HVL.out, if_pos ⟨by first | rfl | trivial, HAL.out⟩]))
            clear hbr
            go_wp2
            go_ret
            exact ⟨0, rfl, HQ.out, HWR.out⟩
  · have q1 : (((textF s).1 : Int) != 0) = true := by rw [bne_iff_ne]; omega
    have HQ : Hid (Q1 (textF s).1) := hide (by rw [HVR.out, if_pos h0])
    clear h0 HOK hb1
    go_wp2
    go_ret
    exact ⟨(textF s).1, rfl, HQ.out, HW1.out⟩

end Go.Proofs.Ytmndgoapkmhglaa
