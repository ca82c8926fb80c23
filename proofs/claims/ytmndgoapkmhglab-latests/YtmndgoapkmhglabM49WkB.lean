import Derived.Test.YtmndgoapkmhglabM48WkA
/- Latest: the document's own answer. -/
namespace Go.Proofs.Ytmndgoapkmhglab
open Go.RowKit
attribute [local go_sem ↓] Go.wp_at_zero Go.wp_at_succ

def latE (s : ByteArray) (b : BdF) (k : Int) : Nat := if (textF s).1 ≠ 0 then (textF s).1 else if fitF b = true ∧ 0 ≤ k ∧ k ≤ 200 then 0 else 10
def latM (M : Mx) (b : BdF) (k : Int) : Int := b.tmax + 2 * (dUp M 3 : Int) * (b.tmax + b.dmax) + 2 * k * ((dUp M 3 : Int) + 1) * (b.tmax + b.dmax)
abbrev waitsL (s : ByteArray) (L : List Dl) : Mx := waitsP ((eqL L).map (placeD (toks s))) (routesR (toks s) L) noM
/-- what a program's Latest answers. -/
def LatQ (s : ByteArray) (b : BdF) (k : Int) (t : Int) : Prop := if latE s b k = 0 then ∀ L, RGood s L → ROk (toks s) L → t = latM (waitsL s L) b k else t = 0
/-- what the document's own does. -/
def LatR (s : ByteArray) (b : BdF) (k : Int) (t : Int) : Prop := if latE s b k = 0 then ∃ L, RGood s L ∧ ROk (toks s) L ∧ t = latM (waitsL s L) b k else t = 0
theorem lat_same {s : ByteArray} {b : BdF} {k t u : Int} (h : LatQ s b k t) (h' : LatR s b k u) : t = u := by
  unfold LatQ at h
  unfold LatR at h'
  split at h
  · rename_i h0
    rw [if_pos h0] at h'
    obtain ⟨L, h1, h2, h3⟩ := h'
    rw [h3]; exact h L h1 h2
  · rename_i h0
    rw [if_neg h0] at h'
    rw [h, h']

theorem fit_parts {b : BdF} (h : fitF b = true) : 1 ≤ b.tmin ∧ b.tmin ≤ b.tmax ∧ b.tmax ≤ 1000000 ∧ 0 ≤ b.dmin ∧ b.dmin ≤ b.dmax ∧ b.dmax < b.tmin := by
  simp [fitF] at h
  omega

theorem wrap_id {x : Int} (h1 : -9223372036854775808 ≤ x) (h2 : x ≤ 9223372036854775807) : IntKind.i64.wrap x = x := by rw [IntKind.wrap_i64]; omega
theorem lat_num {t1 d1 k : Int} {D : Nat} (a1 : 0 ≤ t1) (a2 : t1 ≤ 1000000) (a3 : 0 ≤ d1) (a4 : d1 ≤ 1000000) (k1 : 0 ≤ k) (k2 : k ≤ 200) (hD : D ≤ 3) :
    ∃ l A B C E F G J T : Int, IntKind.i64.wrap (t1 + d1) = l ∧ IntKind.i64.wrap (2 * (D : Int)) = A ∧ IntKind.i64.wrap (A * l) = B ∧ IntKind.i64.wrap (t1 + B) = C ∧ IntKind.i64.wrap (2 * k) = E ∧ IntKind.i64.wrap ((D : Int) + 1) = F ∧ IntKind.i64.wrap (E * F) = G ∧ IntKind.i64.wrap (G * l) = J ∧ IntKind.i64.wrap (C + J) = T ∧
      T = t1 + 2 * (D : Int) * (t1 + d1) + 2 * k * ((D : Int) + 1) * (t1 + d1) := by
  have b1 : 0 ≤ 2 * (D : Int) * (t1 + d1) := Int.mul_nonneg (by omega) (by omega)
  have b2 : 2 * (D : Int) * (t1 + d1) ≤ 6 * 2000000 := Int.mul_le_mul (by omega) (by omega) (by omega) (by omega)
  have b3 : 0 ≤ 2 * k * ((D : Int) + 1) := Int.mul_nonneg (by omega) (by omega)
  have b4 : 2 * k * ((D : Int) + 1) ≤ 400 * 4 := Int.mul_le_mul (by omega) (by omega) (by omega) (by omega)
  have b5 : 0 ≤ 2 * k * ((D : Int) + 1) * (t1 + d1) := Int.mul_nonneg b3 (by omega)
  have b6 : 2 * k * ((D : Int) + 1) * (t1 + d1) ≤ 1600 * 2000000 := Int.mul_le_mul (by omega) (by omega) (by omega) (by omega)
  exact ⟨_, _, _, _, _, _, _, _, _, wrap_id (by omega) (by omega), wrap_id (by omega) (by omega), wrap_id (by omega) (by omega), wrap_id (by omega) (by omega), wrap_id (by omega) (by omega), wrap_id (by omega) (by omega), wrap_id (by omega) (by omega), wrap_id (by omega) (by omega), wrap_id (by omega) (by omega), rfl⟩

set_option maxHeartbeats 2000000 in
set_option maxRecDepth 100000 in
theorem rLatest_any (s : ByteArray) (b : BdF) (k : Int) (w : World) :
    Calls Try.prog 9 #[.string s, b.val, .int .i64 k] w fun e w' => ∃ t, e = .returned (.tuple #[.int .i64 t, .int .i64 (latE s b k : Int)]) ∧ LatR s b k t ∧ Below w.heap.size w w' := by
  have HFIT := hide (rfit_any b)
  have HFP := hide (@fit_parts b)
  have HLR : Hid (∀ t, LatR s b k t = if latE s b k = 0 then ∃ L, RGood s L ∧ ROk (toks s) L ∧ t = latM (waitsL s L) b k else t = 0) := hide fun t => rfl
  have HLE : Hid (latE s b k = if (textF s).1 ≠ 0 then (textF s).1 else if fitF b = true ∧ 0 ≤ k ∧ k ≤ 200 then 0 else 10) := hide rfl
  have HLM : Hid (∀ M, latM M b k = b.tmax + 2 * (dUp M 3 : Int) * (b.tmax + b.dmax) + 2 * k * ((dUp M 3 : Int) + 1) * (b.tmax + b.dmax)) := hide fun M => rfl
  generalize fitF b = fb at *
  obtain ⟨t0, t1, d0, d1⟩ := b
  obtain ⟨b0, hb0⟩ : ∃ b0, b0 = w.alloc (.cells #[.int .i64 t0, .int .i64 t1, .int .i64 d0, .int .i64 d1] 23) := ⟨_, rfl⟩
  have HW0 : Hid (Below w.heap.size w b0) := hide (by rw [hb0]; exact (Below.refl _ _).alloc (Nat.le_refl _) _)
  have HC : Hid (∀ W : World, Below b0.heap.size b0 W → W.cell? ⟨w.heap.size, 0, none⟩ = some (.int .i64 t0) ∧ W.cell? ⟨w.heap.size, 1, none⟩ = some (.int .i64 t1) ∧ W.cell? ⟨w.heap.size, 2, none⟩ = some (.int .i64 d0) ∧ W.cell? ⟨w.heap.size, 3, none⟩ = some (.int .i64 d1)) := hide fun W hW => by
    have hy : W.heap[w.heap.size]? = some (.cells #[.int .i64 t0, .int .i64 t1, .int .i64 d0, .int .i64 d1] 23 (0, 0)) := by
      rw [hW.block _ (by rw [hb0]; simp), hb0]; exact heap_alloc_new _ _
    refine ⟨?_, ?_, ?_, ?_⟩ <;> (rw [cell_of_row _ _ _ _ _ _ hy]; rfl)
  go_enter Try.func9, Try.ntmps9
  go_wp2_with fail
  rw [← hb0]
  clear hb0
  refine (rread_any s b0).mono ?_
  rintro e w1 ⟨p, rfl, hb1, hok⟩
  have HB1 := hide hb1
  have HW1 : Hid (Below w.heap.size w w1) := hide (HW0.out.trans (hb1.mono HW0.out.size))
  have HOK := hide hok
  clear hok hb1
  by_cases h0 : (textF s).1 = 0
  · have q1 : (((textF s).1 : Int) != 0) = false := by rw [h0]; rfl
    have H0 := hide h0
    obtain ⟨q, g, cap, L, vE, vA, vI, vQ, rfl, hP, ho, hG⟩ := HOK.out h0
    obtain ⟨c0, c1, c2, c3⟩ := HC.out w1 HB1.out
    have HP := hide hP
    have HO := hide ho
    have HG := hide hG
    clear h0 hP ho hG HOK
    go_wp2_with fail
    refine (HFIT.out w1).mono ?_
    rintro e w2 ⟨rfl, hb2⟩
    have HB2 := hide hb2
    clear hb2 c0 c1 c2 c3
    have HB2b : Hid (Below b0.heap.size b0 w2) := hide (HB1.out.trans (HB2.out.mono HB1.out.size))
    have HW2 : Hid (Below w.heap.size w w2) := hide (HW1.out.trans (HB2.out.mono HW1.out.size))
    cases hfb : fb with
    | false =>
      have HE : Hid (latE s ⟨t0, t1, d0, d1⟩ k = 10) := hide (by rw [HLE.out, if_neg (by rw [H0.out]; simp), if_neg (by rw [hfb]; simp)])
      have HR : Hid (LatR s ⟨t0, t1, d0, d1⟩ k 0) := hide (by rw [HLR.out, if_neg (by rw [HE.out]; omega)])
      clear hfb
      go_wp2
      go_ret2
      exact ⟨0, by rw [HE.out]; rfl, HR.out, HW2.out⟩
    | true =>
      by_cases hk : 0 ≤ k ∧ k ≤ 200
      · obtain ⟨hk1, hk2⟩ := hk
        have HE : Hid (latE s ⟨t0, t1, d0, d1⟩ k = 0) := hide (by rw [HLE.out, if_neg (by rw [H0.out]; simp), if_pos ⟨hfb, hk1, hk2⟩])
        have z1 : ¬ k < 0 := by omega
        have z2 : ¬ k > 200 := by omega
        have z3 : ¬ 200 < k := by omega
        have HPT := hide (HFP.out hfb)
        clear hfb
        go_wp2_with fail
        refine (rwaits_any w2 q g cap (toks s) L vE vA vI vQ (HP.out.below HB2.out) HO.out).mono ?_
        rintro e w3 ⟨g2, cap2, R, rfl, hM, -, -, hb3⟩
        have HM := hide hM
        have HB3 : Hid (Below b0.heap.size b0 w3) := hide (HB2b.out.trans (hb3.mono HB2b.out.size))
        clear hM hb3 HP
        generalize hMM : waitsP ((eqL L).map (placeD (toks s))) (routesR (toks s) L) noM = M at HM
        have HMM := hide hMM
        clear hMM
        go_wp2
        go_loopw [13, 14] (fun vd vn wr => ∃ N : Nat, 1 ≤ N ∧ N ≤ 4 ∧ vn = .int .i64 N ∧ vd = .int .i64 (dUp M (N - 1) : Nat) ∧ Below w3.heap.size w3 wr) (fun _ vn _ => 4 - (intOf vn).toNat)
        case atStart => exact ⟨1, by omega, by omega, rfl, rfl, Below.refl _ _⟩
        case round =>
          obtain ⟨N, hN1, hN4, rfl, rfl, hbr⟩ := hrel
          have HBR := hide hbr
          clear hbr
          by_cases hn4 : N < 4
          · have j1 : (N : Int) < 4 := by omega
            go_wp2_with fail
            go_loopw [13, 15] (fun vd vq wx => ∃ m : Nat, m ≤ 4 ∧ vq = .int .i64 m ∧ vd = .int .i64 (dIn M (N - 1) m : Nat) ∧ Below w3.heap.size w3 wx) (fun _ vq _ => 4 - (intOf vq).toNat)
            case atStart => exact ⟨0, by omega, rfl, rfl, by first | exact HBR.out | exact below_drewN HBR.out _⟩
            case round =>
              obtain ⟨m, hm4, rfl, rfl, hbx⟩ := hrel
              have HBX := hide hbx
              clear hbx
              by_cases hm : m < 4
              · have j2 : (m : Int) < 4 := by omega
                go_wp2_with fail
                refine (rahead_any g2 cap2 R M N (by omega) _ (HM.out.below HBX.out) m hm).mono ?_
                rintro e w4 ⟨rfl, hb4⟩
                have HB4 : Hid (Below w3.heap.size w3 w4) := hide (HBX.out.trans (hb4.mono HBX.out.size))
                clear hb4
                cases ha : aheadF M m N with
                | false =>
                  have HD : Hid (dIn M (N - 1) (m + 1) = dIn M (N - 1) m) := hide (dIn_miss (by rw [Nat.sub_add_cancel hN1]; exact ha))
                  clear ha
                  go_wp2
                  go_roundw
                  case rel => exact ⟨m + 1, by omega, by go_num, by rw [HD.out], by first | exact HB4.out | exact below_drewN HB4.out _⟩
                  case measure => simp [intOf]; omega
                | true =>
                  have HD : Hid (dIn M (N - 1) (m + 1) = N) := hide (by rw [dIn_hit (by rw [Nat.sub_add_cancel hN1]; exact ha), Nat.sub_add_cancel hN1])
                  clear ha
                  go_wp2
                  go_roundw
                  case rel => exact ⟨m + 1, by omega, by go_num, by rw [HD.out], by first | exact HB4.out | exact below_drewN HB4.out _⟩
                  case measure => simp [intOf]; omega
              · have em : m = 4 := by omega
                subst em
                have HD : Hid (dIn M (N - 1) 4 = dUp M (N + 1 - 1)) := hide (by rw [dIn_four, Nat.sub_add_cancel hN1, Nat.add_sub_cancel])
                go_wp2
                go_roundw
                case rel => exact ⟨N + 1, by omega, by omega, by go_num, by rw [HD.out], by first | exact HBX.out | exact below_drewN HBX.out _⟩
                case measure => simp [intOf]; omega
          · have eN : N = 4 := by omega
            subst eN
            obtain ⟨c0, c1, c2, c3⟩ := HC.out _ (HB3.out.trans (HBR.out.mono HB3.out.size))
            obtain ⟨p1, p2, p3, p4, p5, p6⟩ := HPT.out
            have hD3 : dUp M (4 - 1) ≤ 3 := dUp_le M 3
            generalize hDD : dUp M (4 - 1) = D at hD3 ⊢
            have HDU : Hid (dUp M 3 = D) := hide hDD
            clear hDD
            have HT := lat_num (t1 := t1) (d1 := d1) (k := k) (D := D) (by omega) (by omega) (by omega) (by omega) hk1 hk2 hD3
            obtain ⟨l, A, B, C, E, F, G, J, T, e1, e2, e3, e4, e5, e6, e7, e8, e9, hT⟩ := HT
            have HR : Hid (LatR s ⟨t0, t1, d0, d1⟩ k T) := hide (by
              rw [HLR.out, if_pos HE.out]
              refine ⟨L, HG.out, HO.out, ?_⟩
              show T = latM (waitsP ((eqL L).map (placeD (toks s))) (routesR (toks s) L) noM) ⟨t0, t1, d0, d1⟩ k
              rw [HMM.out, HLM.out, HDU.out]
              exact hT)
            have HWE : Hid (Below w.heap.size w _) := hide (HW0.out.trans ((HB3.out.trans (HBR.out.mono HB3.out.size)).mono HW0.out.size))
            clear hT p1 p2 p3 p4 p5 p6 HLM HLR HLE HMM HDU
            go_wp2
            go_ret2
            exact ⟨T, by rw [HE.out]; rfl, HR.out, by first | exact HWE.out | exact below_drewN HWE.out _⟩
      · have HE : Hid (latE s ⟨t0, t1, d0, d1⟩ k = 10) := hide (by rw [HLE.out, if_neg (by rw [H0.out]; simp), if_neg (fun h => hk h.2)])
        have HR : Hid (LatR s ⟨t0, t1, d0, d1⟩ k 0) := hide (by rw [HLR.out, if_neg (by rw [HE.out]; omega)])
        clear hfb
        by_cases hk1 : k < 0
        · clear hk
          go_wp2
          go_ret2
          exact ⟨0, by rw [HE.out]; rfl, HR.out, HW2.out⟩
        · have hk2 : k > 200 := by omega
          have hk3 : 200 < k := by omega
          clear hk
          go_wp2
          go_ret2
          exact ⟨0, by rw [HE.out]; rfl, HR.out, HW2.out⟩
  · have q1 : (((textF s).1 : Int) != 0) = true := by rw [bne_iff_ne]; omega
    have HE : Hid (latE s ⟨t0, t1, d0, d1⟩ k = (textF s).1) := hide (by rw [HLE.out, if_pos h0])
    have HR : Hid (LatR s ⟨t0, t1, d0, d1⟩ k 0) := hide (by rw [HLR.out, if_neg (by rw [HE.out]; exact h0)])
    clear HOK h0
    go_wp2
    go_ret2
    exact ⟨0, by rw [HE.out]; rfl, HR.out, HW1.out⟩

end Go.Proofs.Ytmndgoapkmhglab
