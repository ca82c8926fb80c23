import Derived.Test.YtmndgoapkmhglabM33LawN
import Derived.Test.YtmndgoapkmhglabM49RefX
import Derived.Test.YtmndgoapkmhglabM50RefY
/- which bounds fit: the document's own answer. -/
namespace Go.Proofs.Ytmndgoapkmhglab
open Go.RowKit
attribute [local go_sem ↓] Go.wp_at_zero Go.wp_at_succ

set_option maxHeartbeats 1000000 in
theorem rfit_any (b : BdF) (w : World) :
    Calls Try.prog 35 #[b.val] w fun e w' => e = .returned (.bool (fitF b)) ∧ Below w.heap.size w w' := by
  obtain ⟨t0, t1, d0, d1⟩ := b
  by_cases h1 : t0 < 1
  · go_enter Try.func35, Try.ntmps35
    go_wp2
    go_ret
    exact ⟨by simp [fitF, h1], (Below.refl _ _).alloc (Nat.le_refl _) _⟩
  by_cases h2 : t1 < t0
  · have h2' : t0 > t1 := h2
    go_enter Try.func35, Try.ntmps35
    go_wp2
    go_ret
    exact ⟨by simp [fitF, h2], (Below.refl _ _).alloc (Nat.le_refl _) _⟩
  by_cases h3 : 1000000 < t1
  · have h3' : t1 > 1000000 := h3
    go_enter Try.func35, Try.ntmps35
    go_wp2
    go_ret
    exact ⟨by simp [fitF, h3], (Below.refl _ _).alloc (Nat.le_refl _) _⟩
  by_cases h4 : 0 ≤ d0
  · by_cases h5 : d0 ≤ d1
    · go_enter Try.func35, Try.ntmps35
      go_wp2
      go_ret
      exact ⟨by simp [fitF, h1, h2, h3, h4, h5], (Below.refl _ _).alloc (Nat.le_refl _) _⟩
    · go_enter Try.func35, Try.ntmps35
      go_wp2
      go_ret
      exact ⟨by simp [fitF]; omega, (Below.refl _ _).alloc (Nat.le_refl _) _⟩
  · go_enter Try.func35, Try.ntmps35
    go_wp2
    go_ret
    exact ⟨by simp [fitF]; omega, (Below.refl _ _).alloc (Nat.le_refl _) _⟩

end Go.Proofs.Ytmndgoapkmhglab

/- when places wake: bounds, chains of waits: the document's own answer. -/
namespace Go.Proofs.Ytmndgoapkmhglab
open Go.RowKit
attribute [local go_sem ↓] Go.wp_at_zero Go.wp_at_succ

theorem any_step {m : Nat} {p : Nat → Bool} (h : (List.range m).any p = false) (hp : p m = false) : (List.range (m + 1)).any p = false := by
  rw [List.range_succ, List.any_append, h, List.any_cons, hp]; rfl

theorem Mat.below {w w' : World} {g n : Nat} {R : Nat → Nat} {M : Mx} (h : Mat w g n R M) (hb : Below w.heap.size w w') : Mat w' g n R M := by
  rcases Nat.eq_zero_or_pos n with rfl | hp
  · exact ⟨fun i hi => by omega, fun i hi => by omega, h.inj, h.ne⟩
  · exact h.keep (hb.block g (h.lt hp)) (fun i hi => hb.block (R i) (World.rowIs.lt (h.rows i hi)))

set_option maxHeartbeats 1000000 in
set_option maxRecDepth 100000 in
theorem rahead_any (g cap : Nat) (R : Nat → Nat) (M : Mx) : ∀ (n : Nat), n ≤ 4 → ∀ (w : World), Mat w g 4 R M → ∀ i : Nat, i < 4 →
    Calls Try.prog 37 #[.slice (some ⟨g, 0, none⟩) 4 cap, .int .i64 i, .int .i64 n] w fun e w' => e = .returned (.bool (aheadF M i n)) ∧ Below w.heap.size w w' := by
  intro n
  induction n with
  | zero =>
    intro _ w hM i hi
    clear hM
    go_enter Try.func37, Try.ntmps37
    go_wp2
    go_ret
    exact ⟨rfl, Below.refl _ _⟩
  | succ n ih =>
    intro hn w hM i hi
    have IH := hide (ih (by omega))
    have HM := hide hM
    obtain ⟨N, hN⟩ : ∃ N, N = n + 1 := ⟨_, rfl⟩
    rw [← hN]
    have q1 : ((N : Int) == 0) = false := by rw [beq_eq_false_iff_ne]; omega
    have hw : IntKind.i64.wrap ((N : Int) - 1) = (n : Int) := by rw [IntKind.wrap_i64]; omega
    have HN0 := hide hN
    clear ih hM hN
    go_enter Try.func37, Try.ntmps37
    go_wp2
    go_loopw [7] (fun vq wr => ∃ m : Nat, m ≤ 4 ∧ vq = .int .i64 m ∧ Below w.heap.size w wr ∧ (List.range m).any (fun q => M i q && aheadF M q n) = false) (fun vq _ => 4 - (intOf vq).toNat)
    case atStart => exact ⟨0, by omega, rfl, Below.refl _ _, rfl⟩
    case round =>
      obtain ⟨m, hm, rfl, hbr, hany⟩ := hrel
      have HBR := hide hbr
      have HAN := hide hany
      have HMR : Hid (Mat wr g 4 R M) := hide (HM.out.below hbr)
      clear hbr hany
      by_cases hm4 : m < 4
      · have x1 := HMR.out.outer i hi
        have x2 := HMR.out.cell hi hm4
        have j1 : (0 : Int) ≤ (i : Int) := by omega
        have j2 : (i : Int) < 4 := by omega
        have j3 : (0 : Int) ≤ (m : Int) := by omega
        have j4 : (m : Int) < 4 := by omega
        cases hv : M i m with
        | false =>
          have HN : Hid ((List.range (m + 1)).any (fun q => M i q && aheadF M q n) = false) := hide (any_step HAN.out (by simp [hv]))
          rw [hv] at x2
          clear hv
          go_wp2
          go_roundw
          case rel => exact ⟨m + 1, by omega, by go_num, by first | exact HBR.out | exact below_drewN HBR.out _, HN.out⟩
          case measure => simp [intOf]; omega
        | true =>
          rw [hv] at x2
          have HV := hide hv
          clear hv
          go_wp2_with fail
          refine (IH.out wr HMR.out m hm4).mono ?_
          rintro e w1 ⟨rfl, hb1⟩
          have HB1 : Hid (Below w.heap.size w w1) := hide (HBR.out.trans (hb1.mono HBR.out.size))
          clear hb1 x1 x2
          cases ha : aheadF M m n with
          | false =>
            have HN : Hid ((List.range (m + 1)).any (fun q => M i q && aheadF M q n) = false) := hide (any_step HAN.out (by simp [ha]))
            clear ha
            go_wp2
            go_roundw
            case rel => exact ⟨m + 1, by omega, by go_num, by first | exact HB1.out | exact below_drewN HB1.out _, HN.out⟩
            case measure => simp [intOf]; omega
          | true =>
            have HF : Hid (aheadF M i N = true) := hide (by
              rw [HN0.out]
              unfold aheadF
              rw [List.any_eq_true]
              exact ⟨m, List.mem_range.2 hm4, by rw [HV.out, ha]; rfl⟩)
            clear ha
            go_wp2
            go_ret
            exact ⟨by rw [HF.out]; rfl, HB1.out⟩
      · have em : m = 4 := by omega
        subst em
        have HF : Hid (aheadF M i N = false) := hide (by rw [HN0.out]; exact HAN.out)
        clear HAN
        go_wp2
        go_ret
        exact ⟨by rw [HF.out]; rfl, by first | exact HBR.out | exact below_drewN HBR.out _⟩

/-- how far it is known when q places of the last length are looked at. -/
def dIn (M : Mx) (n q : Nat) : Nat := if (List.range q).any (fun q => aheadF M q (n + 1)) then n + 1 else dUp M n
theorem dIn_zero (M : Mx) (n : Nat) : dIn M n 0 = dUp M n := rfl
theorem dIn_four (M : Mx) (n : Nat) : dIn M n 4 = dUp M (n + 1) := rfl
theorem dIn_hit {M : Mx} {n q : Nat} (h : aheadF M q (n + 1) = true) : dIn M n (q + 1) = n + 1 := by
  unfold dIn
  rw [if_pos]
  rw [List.any_eq_true]
  exact ⟨q, List.mem_range.2 (by omega), h⟩
theorem dIn_miss {M : Mx} {n q : Nat} (h : aheadF M q (n + 1) = false) : dIn M n (q + 1) = dIn M n q := by
  unfold dIn
  rw [List.range_succ, List.any_append, List.any_cons, h]
  simp

end Go.Proofs.Ytmndgoapkmhglab

/- Latest: the document's own answer. -/
namespace Go.Proofs.Ytmndgoapkmhglab
open Go.RowKit
attribute [local go_sem ↓] Go.wp_at_zero Go.wp_at_succ

def latE (s : ByteArray) (b : BdF) (k : Int) : Nat := if (textF s).1 ≠ 0 then (textF s).1 else if fitF b = true ∧ 0 ≤ k ∧ k ≤ 200 then 0 else 10
def latM (M : Mx) (b : BdF) (k : Int) : Int := b.tmax + 2 * (dUp M 3 : Int) * (b.tmax + b.dmax) + 2 * k * ((dUp M 3 : Int) + 1) * (b.tmax + b.dmax)
abbrev waitsL (s : ByteArray) (L : List Dl) : Mx := waitsP ((eqL L).map (placeD (toks s))) (routesR (toks s) L) noM
/-- what a program's Latest answers. -/
def LatQ (s : ByteArray) (b : BdF) (k : Int) (t : Int) : Prop := if latE s b k = 0 then ∀ L, RGood s L → ROk (toks s) L → t = latM (waitsL s L) b k else t = 0
/-- what the document's own does. -/
def LatR (s : ByteArray) (b : BdF) (k : Int) (t : Int) : Prop := if latE s b k = 0 then ∃ L, RGood s L ∧ ROk (toks s) L ∧ t = latM (waitsL s L) b k else t = 0
theorem lat_same {s : ByteArray} {b : BdF} {k t u : Int} (h : LatQ s b k t) (h' : LatR s b k u) : t = u := by
  unfold LatQ at h
  unfold LatR at h'
  split at h
  · rename_i h0
    rw [if_pos h0] at h'
    obtain ⟨L, h1, h2, h3⟩ := h'
    rw [h3]; exact h L h1 h2
  · rename_i h0
    rw [if_neg h0] at h'
    rw [h, h']

theorem fit_parts {b : BdF} (h : fitF b = true) : 1 ≤ b.tmin ∧ b.tmin ≤ b.tmax ∧ b.tmax ≤ 1000000 ∧ 0 ≤ b.dmin ∧ b.dmin ≤ b.dmax ∧ b.dmax < b.tmin := by
  simp [fitF] at h
  omega

theorem wrap_id {x : Int} (h1 : -9223372036854775808 ≤ x) (h2 : x ≤ 9223372036854775807) : IntKind.i64.wrap x = x := by rw [IntKind.wrap_i64]; omega
theorem lat_num {t1 d1 k : Int} {D : Nat} (a1 : 0 ≤ t1) (a2 : t1 ≤ 1000000) (a3 : 0 ≤ d1) (a4 : d1 ≤ 1000000) (k1 : 0 ≤ k) (k2 : k ≤ 200) (hD : D ≤ 3) :
    ∃ l A B C E F G J T : Int, IntKind.i64.wrap (t1 + d1) = l ∧ IntKind.i64.wrap (2 * (D : Int)) = A ∧ IntKind.i64.wrap (A * l) = B ∧ IntKind.i64.wrap (t1 + B) = C ∧ IntKind.i64.wrap (2 * k) = E ∧ IntKind.i64.wrap ((D : Int) + 1) = F ∧ IntKind.i64.wrap (E * F) = G ∧ IntKind.i64.wrap (G * l) = J ∧ IntKind.i64.wrap (C + J) = T ∧
      T = t1 + 2 * (D : Int) * (t1 + d1) + 2 * k * ((D : Int) + 1) * (t1 + d1) := by
  have b1 : 0 ≤ 2 * (D : Int) * (t1 + d1) := Int.mul_nonneg (by omega) (by omega)
  have b2 : 2 * (D : Int) * (t1 + d1) ≤ 6 * 2000000 := Int.mul_le_mul (by omega) (by omega) (by omega) (by omega)
  have b3 : 0 ≤ 2 * k * ((D : Int) + 1) := Int.mul_nonneg (by omega) (by omega)
  have b4 : 2 * k * ((D : Int) + 1) ≤ 400 * 4 := Int.mul_le_mul (by omega) (by omega) (by omega) (by omega)
  have b5 : 0 ≤ 2 * k * ((D : Int) + 1) * (t1 + d1) := Int.mul_nonneg b3 (by omega)
  have b6 : 2 * k * ((D : Int) + 1) * (t1 + d1) ≤ 1600 * 2000000 := Int.mul_le_mul (by omega) (by omega) (by omega) (by omega)
  exact ⟨_, _, _, _, _, _, _, _, _, wrap_id (by omega) (by omega), wrap_id (by omega) (by omega), wrap_id (by omega) (by omega), wrap_id (by omega) (by omega), wrap_id (by omega) (by omega), wrap_id (by omega) (by omega), wrap_id (by omega) (by omega), wrap_id (by omega) (by omega), wrap_id (by omega) (by omega), rfl⟩

set_option maxHeartbeats 2000000 in
set_option maxRecDepth 100000 in
theorem rLatest_any (s : ByteArray) (b : BdF) (k : Int) (w : World) :
    Calls Try.prog 9 #[.string s, b.val, .int .i64 k] w fun e w' => ∃ t, e = .returned (.tuple #[.int .i64 t, .int .i64 (latE s b k : Int)]) ∧ LatR s b k t ∧ Below w.heap.size w w' := by
  have HFIT := hide (rfit_any b)
  have HFP := hide (@fit_parts b)
  have HLR : Hid (∀ t, LatR s b k t = if latE s b k = 0 then ∃ L, RGood s L ∧ ROk (toks s) L ∧ t = latM (waitsL s L) b k else t = 0) := hide fun t => rfl
  have HLE : Hid (latE s b k = if (textF s).1 ≠ 0 then (textF s).1 else if fitF b = true ∧ 0 ≤ k ∧ k ≤ 200 then 0 else 10) := hide rfl
  have HLM : Hid (∀ M, latM M b k = b.tmax + 2 * (dUp M 3 : Int) * (b.tmax + b.dmax) + 2 * k * ((dUp M 3 : Int) + 1) * (b.tmax + b.dmax)) := hide fun M => rfl
  generalize fitF b = fb at *
  obtain ⟨t0, t1, d0, d1⟩ := b
  obtain ⟨b0, hb0⟩ : ∃ b0, b0 = w.alloc (.cells #[.int .i64 t0, .int .i64 t1, .int .i64 d0, .int .i64 d1] 23) := ⟨_, rfl⟩
  have HW0 : Hid (Below w.heap.size w b0) := hide (by rw [hb0]; exact (Below.refl _ _).alloc (Nat.le_refl _) _)
  have HC : Hid (∀ W : World, Below b0.heap.size b0 W → W.cell? ⟨w.heap.size, 0, none⟩ = some (.int .i64 t0) ∧ W.cell? ⟨w.heap.size, 1, none⟩ = some (.int .i64 t1) ∧ W.cell? ⟨w.heap.size, 2, none⟩ = some (.int .i64 d0) ∧ W.cell? ⟨w.heap.size, 3, none⟩ = some (.int .i64 d1)) := hide fun W hW => by
    have hy : W.heap[w.heap.size]? = some (.cells #[.int .i64 t0, .int .i64 t1, .int .i64 d0, .int .i64 d1] 23 (0, 0)) := by
      rw [hW.block _ (by rw [hb0]; simp), hb0]; exact heap_alloc_new _ _
    refine ⟨?_, ?_, ?_, ?_⟩ <;> (rw [cell_of_row _ _ _ _ _ _ hy]; rfl)
  go_enter Try.func9, Try.ntmps9
  go_wp2_with fail
  rw [← hb0]
  clear hb0
  refine (rread_any s b0).mono ?_
  rintro e w1 ⟨p, rfl, hb1, hok⟩
  have HB1 := hide hb1
  have HW1 : Hid (Below w.heap.size w w1) := hide (HW0.out.trans (hb1.mono HW0.out.size))
  have HOK := hide hok
  clear hok hb1
  by_cases h0 : (textF s).1 = 0
  · have q1 : (((textF s).1 : Int) != 0) = false := by rw [h0]; rfl
    have H0 := hide h0
    obtain ⟨q, g, cap, L, vE, vA, vI, vQ, rfl, hP, ho, hG⟩ := HOK.out h0
    obtain ⟨c0, c1, c2, c3⟩ := HC.out w1 HB1.out
    have HP := hide hP
    have HO := hide ho
    have HG := hide hG
    clear h0 hP ho hG HOK
    go_wp2_with fail
    refine (HFIT.out w1).mono ?_
    rintro e w2 ⟨rfl, hb2⟩
    have HB2 := hide hb2
    clear hb2 c0 c1 c2 c3
    have HB2b : Hid (Below b0.heap.size b0 w2) := hide (HB1.out.trans (HB2.out.mono HB1.out.size))
    have HW2 : Hid (Below w.heap.size w w2) := hide (HW1.out.trans (HB2.out.mono HW1.out.size))
    cases hfb : fb with
    | false =>
      have HE : Hid (latE s ⟨t0, t1, d0, d1⟩ k = 10) := hide (by rw [HLE.out, if_neg (by rw [H0.out]; simp), if_neg (by rw [hfb]; simp)])
      have HR : Hid (LatR s ⟨t0, t1, d0, d1⟩ k 0) := hide (by rw [HLR.out, if_neg (by rw [HE.out]; omega)])
      clear hfb
      go_wp2
      go_ret2
      exact ⟨0, by rw [HE.out]; rfl, HR.out, HW2.out⟩
    | true =>
      by_cases hk : 0 ≤ k ∧ k ≤ 200
      · obtain ⟨hk1, hk2⟩ := hk
        have HE : Hid (latE s ⟨t0, t1, d0, d1⟩ k = 0) := hide (by rw [HLE.out, if_neg (by rw [H0.out]; simp), if_pos ⟨hfb, hk1, hk2⟩])
        have z1 : ¬ k < 0 := by omega
        have z2 : ¬ k > 200 := by omega
        have z3 : ¬ 200 < k := by omega
        have HPT := hide (HFP.out hfb)
        clear hfb
        go_wp2_with fail
        refine (rwaits_any w2 q g cap (toks s) L vE vA vI vQ (HP.out.below HB2.out) HO.out).mono ?_
        rintro e w3 ⟨g2, cap2, R, rfl, hM, -, -, hb3⟩
        have HM := hide hM
        have HB3 : Hid (Below b0.heap.size b0 w3) := hide (HB2b.out.trans (hb3.mono HB2b.out.size))
        clear hM hb3 HP
        generalize hMM : waitsP ((eqL L).map (placeD (toks s))) (routesR (toks s) L) noM = M at HM
        have HMM := hide hMM
        clear hMM
        go_wp2
        go_loopw [13, 14] (fun vd vn wr => ∃ N : Nat, 1 ≤ N ∧ N ≤ 4 ∧ vn = .int .i64 N ∧ vd = .int .i64 (dUp M (N - 1) : Nat) ∧ Below w3.heap.size w3 wr) (fun _ vn _ => 4 - (intOf vn).toNat)
        case atStart => exact ⟨1, by omega, by omega, rfl, rfl, Below.refl _ _⟩
        case round =>
          obtain ⟨N, hN1, hN4, rfl, rfl, hbr⟩ := hrel
          have HBR := hide hbr
          clear hbr
          by_cases hn4 : N < 4
          · have j1 : (N : Int) < 4 := by omega
            go_wp2_with fail
            go_loopw [13, 15] (fun vd vq wx => ∃ m : Nat, m ≤ 4 ∧ vq = .int .i64 m ∧ vd = .int .i64 (dIn M (N - 1) m : Nat) ∧ Below w3.heap.size w3 wx) (fun _ vq _ => 4 - (intOf vq).toNat)
            case atStart => exact ⟨0, by omega, rfl, rfl, by first | exact HBR.out | exact below_drewN HBR.out _⟩
            case round =>
              obtain ⟨m, hm4, rfl, rfl, hbx⟩ := hrel
              have HBX := hide hbx
              clear hbx
              by_cases hm : m < 4
              · have j2 : (m : Int) < 4 := by omega
                go_wp2_with fail
                refine (rahead_any g2 cap2 R M N (by omega) _ (HM.out.below HBX.out) m hm).mono ?_
                rintro e w4 ⟨rfl, hb4⟩
                have HB4 : Hid (Below w3.heap.size w3 w4) := hide (HBX.out.trans (hb4.mono HBX.out.size))
                clear hb4
                cases ha : aheadF M m N with
                | false =>
                  have HD : Hid (dIn M (N - 1) (m + 1) = dIn M (N - 1) m) := hide (dIn_miss (by rw [Nat.sub_add_cancel hN1]; exact ha))
                  clear ha
                  go_wp2
                  go_roundw
                  case rel => exact ⟨m + 1, by omega, by go_num, by rw [HD.out], by first | exact HB4.out | exact below_drewN HB4.out _⟩
                  case measure => simp [intOf]; omega
                | true =>
                  have HD : Hid (dIn M (N - 1) (m + 1) = N) := hide (by rw [dIn_hit (by rw [Nat.sub_add_cancel hN1]; exact ha), Nat.sub_add_cancel hN1])
                  clear ha
                  go_wp2
                  go_roundw
                  case rel => exact ⟨m + 1, by omega, by go_num, by rw [HD.out], by first | exact HB4.out | exact below_drewN HB4.out _⟩
                  case measure => simp [intOf]; omega
              · have em : m = 4 := by omega
                subst em
                have HD : Hid (dIn M (N - 1) 4 = dUp M (N + 1 - 1)) := hide (by rw [dIn_four, Nat.sub_add_cancel hN1, Nat.add_sub_cancel])
                go_wp2
                go_roundw
                case rel => exact ⟨N + 1, by omega, by omega, by go_num, by rw [HD.out], by first | exact HBX.out | exact below_drewN HBX.out _⟩
                case measure => simp [intOf]; omega
          · have eN : N = 4 := by omega
            subst eN
            obtain ⟨c0, c1, c2, c3⟩ := HC.out _ (HB3.out.trans (HBR.out.mono HB3.out.size))
            obtain ⟨p1, p2, p3, p4, p5, p6⟩ := HPT.out
            have hD3 : dUp M (4 - 1) ≤ 3 := dUp_le M 3
            generalize hDD : dUp M (4 - 1) = D at hD3 ⊢
            have HDU : Hid (dUp M 3 = D) := hide hDD
            clear hDD
            have HT := lat_num (t1 := t1) (d1 := d1) (k := k) (D := D) (by omega) (by omega) (by omega) (by omega) hk1 hk2 hD3
            obtain ⟨l, A, B, C, E, F, G, J, T, e1, e2, e3, e4, e5, e6, e7, e8, e9, hT⟩ := HT
            have HR : Hid (LatR s ⟨t0, t1, d0, d1⟩ k T) := hide (by
              rw [HLR.out, if_pos HE.out]
              refine ⟨L, HG.out, HO.out, ?_⟩
              show T = latM (waitsP ((eqL L).map (placeD (toks s))) (routesR (toks s) L) noM) ⟨t0, t1, d0, d1⟩ k
              rw [HMM.out, HLM.out, HDU.out]
              exact hT)
            have HWE : Hid (Below w.heap.size w _) := hide (HW0.out.trans ((HB3.out.trans (HBR.out.mono HB3.out.size)).mono HW0.out.size))
            clear hT p1 p2 p3 p4 p5 p6 HLM HLR HLE HMM HDU
            go_wp2
            go_ret2
            exact ⟨T, by rw [HE.out]; rfl, HR.out, by first | exact HWE.out | exact below_drewN HWE.out _⟩
      · have HE : Hid (latE s ⟨t0, t1, d0, d1⟩ k = 10) := hide (by rw [HLE.out, if_neg (by rw [H0.out]; simp), if_neg (fun h => hk h.2)])
        have HR : Hid (LatR s ⟨t0, t1, d0, d1⟩ k 0) := hide (by rw [HLR.out, if_neg (by rw [HE.out]; omega)])
        clear hfb
        by_cases hk1 : k < 0
        · clear hk
          go_wp2
          go_ret2
          exact ⟨0, by rw [HE.out]; rfl, HR.out, HW2.out⟩
        · have hk2 : k > 200 := by omega
          have hk3 : 200 < k := by omega
          clear hk
          go_wp2
          go_ret2
          exact ⟨0, by rw [HE.out]; rfl, HR.out, HW2.out⟩
  · have q1 : (((textF s).1 : Int) != 0) = true := by rw [bne_iff_ne]; omega
    have HE : Hid (latE s ⟨t0, t1, d0, d1⟩ k = (textF s).1) := hide (by rw [HLE.out, if_pos h0])
    have HR : Hid (LatR s ⟨t0, t1, d0, d1⟩ k 0) := hide (by rw [HLR.out, if_neg (by rw [HE.out]; exact h0)])
    clear HOK h0
    go_wp2
    go_ret2
    exact ⟨0, by rw [HE.out]; rfl, HR.out, HW1.out⟩

end Go.Proofs.Ytmndgoapkmhglab
