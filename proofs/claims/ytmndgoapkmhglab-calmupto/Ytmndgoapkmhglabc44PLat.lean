import Derived.Test.Ytmndgoapkmhglabc15RefHa
import Derived.Test.Ytmndgoapkmhglabc23JudK
import Derived.Test.Ytmndgoapkmhglabc24JudM
import Derived.Test.Ytmndgoapkmhglabc29PlyL
import Derived.Test.Ytmndgoapkmhglabc40AcB
import Derived.Test.Ytmndgoapkmhglabc43RefY
/- which bounds fit: the document's own answer. -/
namespace Go.Proofs.Ytmndgoapkmhglab
open Go.RowKit
attribute [local go_sem ↓] Go.wp_at_zero Go.wp_at_succ

set_option maxHeartbeats 1000000 in
theorem rfit_any (b : BdF) (w : World) :
    Calls Try.prog 35 #[b.val] w fun e w' => e = .returned (.bool (fitF b)) ∧ Below w.heap.size w w' := by
  obtain ⟨t0, t1, d0, d1⟩ := b
  by_cases h1 : t0 < 1
  · go_enter Try.func35, Try.ntmps35
    go_wp2
    go_ret
    exact ⟨by simp [fitF, h1], (Below.refl _ _).alloc (Nat.le_refl _) _⟩
  by_cases h2 : t1 < t0
  · have h2' : t0 > t1 := h2
    go_enter Try.func35, Try.ntmps35
    go_wp2
    go_ret
    exact ⟨by simp [fitF, h2], (Below.refl _ _).alloc (Nat.le_refl _) _⟩
  by_cases h3 : 1000000 < t1
  · have h3' : t1 > 1000000 := h3
    go_enter Try.func35, Try.ntmps35
    go_wp2
    go_ret
    exact ⟨by simp [fitF, h3], (Below.refl _ _).alloc (Nat.le_refl _) _⟩
  by_cases h4 : 0 ≤ d0
  · by_cases h5 : d0 ≤ d1
    · go_enter Try.func35, Try.ntmps35
      go_wp2
      go_ret
      exact ⟨by simp [fitF, h1, h2, h3, h4, h5], (Below.refl _ _).alloc (Nat.le_refl _) _⟩
    · go_enter Try.func35, Try.ntmps35
      go_wp2
      go_ret
      exact ⟨by simp [fitF]; omega, (Below.refl _ _).alloc (Nat.le_refl _) _⟩
  · go_enter Try.func35, Try.ntmps35
    go_wp2
    go_ret
    exact ⟨by simp [fitF]; omega, (Below.refl _ _).alloc (Nat.le_refl _) _⟩

end Go.Proofs.Ytmndgoapkmhglab

/- when places wake: bounds, chains of waits: the document's own answer. -/
namespace Go.Proofs.Ytmndgoapkmhglab
open Go.RowKit
attribute [local go_sem ↓] Go.wp_at_zero Go.wp_at_succ

theorem any_step {m : Nat} {p : Nat → Bool} (h : (List.range m).any p = false) (hp : p m = false) : (List.range (m + 1)).any p = false := by
  rw [List.range_succ, List.any_append, h, List.any_cons, hp]; rfl

theorem Mat.below {w w' : World} {g n : Nat} {R : Nat → Nat} {M : Mx} (h : Mat w g n R M) (hb : Below w.heap.size w w') : Mat w' g n R M := by
  rcases Nat.eq_zero_or_pos n with rfl | hp
  · exact ⟨fun i hi => by omega, fun i hi => by omega, h.inj, h.ne⟩
  · exact h.keep (hb.block g (h.lt hp)) (fun i hi => hb.block (R i) (World.rowIs.lt (h.rows i hi)))

set_option maxHeartbeats 1000000 in
set_option maxRecDepth 100000 in
theorem rahead_any (g cap : Nat) (R : Nat → Nat) (M : Mx) : ∀ (n : Nat), n ≤ 4 → ∀ (w : World), Mat w g 4 R M → ∀ i : Nat, i < 4 →
    Calls Try.prog 37 #[.slice (some ⟨g, 0, none⟩) 4 cap, .int .i64 i, .int .i64 n] w fun e w' => e = .returned (.bool (aheadF M i n)) ∧ Below w.heap.size w w' := by
  intro n
  induction n with
  | zero =>
    intro _ w hM i hi
    clear hM
    go_enter Try.func37, Try.ntmps37
    go_wp2
    go_ret
    exact ⟨rfl, Below.refl _ _⟩
  | succ n ih =>
    intro hn w hM i hi
    have IH := hide (ih (by omega))
    have HM := hide hM
    obtain ⟨N, hN⟩ : ∃ N, N = n + 1 := ⟨_, rfl⟩
    rw [← hN]
    have q1 : ((N : Int) == 0) = false := by rw [beq_eq_false_iff_ne]; omega
    have hw : IntKind.i64.wrap ((N : Int) - 1) = (n : Int) := by rw [IntKind.wrap_i64]; omega
    have HN0 := hide hN
    clear ih hM hN
    go_enter Try.func37, Try.ntmps37
    go_wp2
    go_loopw [7] (fun vq wr => ∃ m : Nat, m ≤ 4 ∧ vq = .int .i64 m ∧ Below w.heap.size w wr ∧ (List.range m).any (fun q => M i q && aheadF M q n) = false) (fun vq _ => 4 - (intOf vq).toNat)
    case atStart => exact ⟨0, by omega, rfl, Below.refl _ _, rfl⟩
    case round =>
      obtain ⟨m, hm, rfl, hbr, hany⟩ := hrel
      have HBR := hide hbr
      have HAN := hide hany
      have HMR : Hid (Mat wr g 4 R M) := hide (HM.out.below hbr)
      clear hbr hany
      by_cases hm4 : m < 4
      · have x1 := HMR.out.outer i hi
        have x2 := HMR.out.cell hi hm4
        have j1 : (0 : Int) ≤ (i : Int) := by omega
        have j2 : (i : Int) < 4 := by omega
        have j3 : (0 : Int) ≤ (m : Int) := by omega
        have j4 : (m : Int) < 4 := by omega
        cases hv : M i m with
        | false =>
          have HN : Hid ((List.range (m + 1)).any (fun q => M i q && aheadF M q n) = false) := hide (any_step HAN.out (by simp [hv]))
          rw [hv] at x2
          clear hv
          go_wp2
          go_roundw
          case rel => exact ⟨m + 1, by omega, by go_num, by first | exact HBR.out | exact below_drewN HBR.out _, HN.out⟩
          case measure => simp [intOf]; omega
        | true =>
          rw [hv] at x2
          have HV := hide hv
          clear hv
          go_wp2_with fail
          refine (IH.out wr HMR.out m hm4).mono ?_
          rintro e w1 ⟨rfl, hb1⟩
          have HB1 : Hid (Below w.heap.size w w1) := hide (HBR.out.trans (hb1.mono HBR.out.size))
          clear hb1 x1 x2
          cases ha : aheadF M m n with
          | false =>
            have HN : Hid ((List.range (m + 1)).any (fun q => M i q && aheadF M q n) = false) := hide (any_step HAN.out (by simp [ha]))
            clear ha
            go_wp2
            go_roundw
            case rel => exact ⟨m + 1, by omega, by go_num, by first | exact HB1.out | exact below_drewN HB1.out _, HN.out⟩
            case measure => simp [intOf]; omega
          | true =>
            have HF : Hid (aheadF M i N = true) := hide (by
              rw [HN0.out]
              unfold aheadF
              rw [List.any_eq_true]
              exact ⟨m, List.mem_range.2 hm4, by rw [HV.out, ha]; rfl⟩)
            clear ha
            go_wp2
            go_ret
            exact ⟨by rw [HF.out]; rfl, HB1.out⟩
      · have em : m = 4 := by omega
        subst em
        have HF : Hid (aheadF M i N = false) := hide (by rw [HN0.out]; exact HAN.out)
        clear HAN
        go_wp2
        go_ret
        exact ⟨by rw [HF.out]; rfl, by first | exact HBR.out | exact below_drewN HBR.out _⟩

/-- how far it is known when q places of the last length are looked at. -/
def dIn (M : Mx) (n q : Nat) : Nat := if (List.range q).any (fun q => aheadF M q (n + 1)) then n + 1 else dUp M n
theorem dIn_zero (M : Mx) (n : Nat) : dIn M n 0 = dUp M n := rfl
theorem dIn_four (M : Mx) (n : Nat) : dIn M n 4 = dUp M (n + 1) := rfl
theorem dIn_hit {M : Mx} {n q : Nat} (h : aheadF M q (n + 1) = true) : dIn M n (q + 1) = n + 1 := by
  unfold dIn
  rw [if_pos]
  rw [List.any_eq_true]
  exact ⟨q, List.mem_range.2 (by omega), h⟩
theorem dIn_miss {M : Mx} {n q : Nat} (h : aheadF M q (n + 1) = false) : dIn M n (q + 1) = dIn M n q := by
  unfold dIn
  rw [List.range_succ, List.any_append, List.any_cons, h]
  simp

end Go.Proofs.Ytmndgoapkmhglab

/- Latest: the document's own answer. -/
namespace Go.Proofs.Ytmndgoapkmhglab
open Go.RowKit
attribute [local go_sem ↓] Go.wp_at_zero Go.wp_at_succ

def latE (s : ByteArray) (b : BdF) (k : Int) : Nat := if (textF s).1 ≠ 0 then (textF s).1 else if fitF b = true ∧ 0 ≤ k ∧ k ≤ 200 then 0 else 10
def latM (M : Mx) (b : BdF) (k : Int) : Int := b.tmax + 2 * (dUp M 3 : Int) * (b.tmax + b.dmax) + 2 * k * ((dUp M 3 : Int) + 1) * (b.tmax + b.dmax)
abbrev waitsL (s : ByteArray) (L : List Dl) : Mx := waitsP ((eqL L).map (placeD (toks s))) (routesR (toks s) L) noM
/-- what a program's Latest answers. -/
def LatQ (s : ByteArray) (b : BdF) (k : Int) (t : Int) : Prop := if latE s b k = 0 then ∀ L, RGood s L → ROk (toks s) L → t = latM (waitsL s L) b k else t = 0
/-- what the document's own does. -/
def LatR (s : ByteArray) (b : BdF) (k : Int) (t : Int) : Prop := if latE s b k = 0 then ∃ L, RGood s L ∧ ROk (toks s) L ∧ t = latM (waitsL s L) b k else t = 0
theorem lat_same {s : ByteArray} {b : BdF} {k t u : Int} (h : LatQ s b k t) (h' : LatR s b k u) : t = u := by
  unfold LatQ at h
  unfold LatR at h'
  split at h
  · rename_i h0
    rw [if_pos h0] at h'
    obtain ⟨L, h1, h2, h3⟩ := h'
    rw [h3]; exact h L h1 h2
  · rename_i h0
    rw [if_neg h0] at h'
    rw [h, h']

theorem fit_parts {b : BdF} (h : fitF b = true) : 1 ≤ b.tmin ∧ b.tmin ≤ b.tmax ∧ b.tmax ≤ 1000000 ∧ 0 ≤ b.dmin ∧ b.dmin ≤ b.dmax ∧ b.dmax < b.tmin := by
  simp [fitF] at h
  omega

theorem wrap_id {x : Int} (h1 : -9223372036854775808 ≤ x) (h2 : x ≤ 9223372036854775807) : IntKind.i64.wrap x = x := by rw [IntKind.wrap_i64]; omega
theorem lat_num {t1 d1 k : Int} {D : Nat} (a1 : 0 ≤ t1) (a2 : t1 ≤ 1000000) (a3 : 0 ≤ d1) (a4 : d1 ≤ 1000000) (k1 : 0 ≤ k) (k2 : k ≤ 200) (hD : D ≤ 3) :
    ∃ l A B C E F G J T : Int, IntKind.i64.wrap (t1 + d1) = l ∧ IntKind.i64.wrap (2 * (D : Int)) = A ∧ IntKind.i64.wrap (A * l) = B ∧ IntKind.i64.wrap (t1 + B) = C ∧ IntKind.i64.wrap (2 * k) = E ∧ IntKind.i64.wrap ((D : Int) + 1) = F ∧ IntKind.i64.wrap (E * F) = G ∧ IntKind.i64.wrap (G * l) = J ∧ IntKind.i64.wrap (C + J) = T ∧
      T = t1 + 2 * (D : Int) * (t1 + d1) + 2 * k * ((D : Int) + 1) * (t1 + d1) := by
  have b1 : 0 ≤ 2 * (D : Int) * (t1 + d1) := Int.mul_nonneg (by omega) (by omega)
  have b2 : 2 * (D : Int) * (t1 + d1) ≤ 6 * 2000000 := Int.mul_le_mul (by omega) (by omega) (by omega) (by omega)
  have b3 : 0 ≤ 2 * k * ((D : Int) + 1) := Int.mul_nonneg (by omega) (by omega)
  have b4 : 2 * k * ((D : Int) + 1) ≤ 400 * 4 := Int.mul_le_mul (by omega) (by omega) (by omega) (by omega)
  have b5 : 0 ≤ 2 * k * ((D : Int) + 1) * (t1 + d1) := Int.mul_nonneg b3 (by omega)
  have b6 : 2 * k * ((D : Int) + 1) * (t1 + d1) ≤ 1600 * 2000000 := Int.mul_le_mul (by omega) (by omega) (by omega) (by omega)
  exact ⟨_, _, _, _, _, _, _, _, _, wrap_id (by omega) (by omega), wrap_id (by omega) (by omega), wrap_id (by omega) (by omega), wrap_id (by omega) (by omega), wrap_id (by omega) (by omega), wrap_id (by omega) (by omega), wrap_id (by omega) (by omega), wrap_id (by omega) (by omega), wrap_id (by omega) (by omega), rfl⟩

set_option maxHeartbeats 2000000 in
set_option maxRecDepth 100000 in
theorem rLatest_any (s : ByteArray) (b : BdF) (k : Int) (w : World) :
    Calls Try.prog 9 #[.string s, b.val, .int .i64 k] w fun e w' => ∃ t, e = .returned (.tuple #[.int .i64 t, .int .i64 (latE s b k : Int)]) ∧ LatR s b k t ∧ Below w.heap.size w w' := by
  have HFIT := hide (rfit_any b)
  have HFP := hide (@fit_parts b)
  have HLR : Hid (∀ t, LatR s b k t = if latE s b k = 0 then ∃ L, RGood s L ∧ ROk (toks s) L ∧ t = latM (waitsL s L) b k else t = 0) := hide fun t => rfl
  have HLE : Hid (latE s b k = if (textF s).1 ≠ 0 then (textF s).1 else if fitF b = true ∧ 0 ≤ k ∧ k ≤ 200 then 0 else 10) := hide rfl
  have HLM : Hid (∀ M, latM M b k = b.tmax + 2 * (dUp M 3 : Int) * (b.tmax + b.dmax) + 2 * k * ((dUp M 3 : Int) + 1) * (b.tmax + b.dmax)) := hide fun M => rfl
  generalize fitF b = fb at *
  obtain ⟨t0, t1, d0, d1⟩ := b
  obtain ⟨b0, hb0⟩ : ∃ b0, b0 = w.alloc (.cells #[.int .i64 t0, .int .i64 t1, .int .i64 d0, .int .i64 d1] 23) := ⟨_, rfl⟩
  have HW0 : Hid (Below w.heap.size w b0) := hide (by rw [hb0]; exact (Below.refl _ _).alloc (Nat.le_refl _) _)
  have HC : Hid (∀ W : World, Below b0.heap.size b0 W → W.cell? ⟨w.heap.size, 0, none⟩ = some (.int .i64 t0) ∧ W.cell? ⟨w.heap.size, 1, none⟩ = some (.int .i64 t1) ∧ W.cell? ⟨w.heap.size, 2, none⟩ = some (.int .i64 d0) ∧ W.cell? ⟨w.heap.size, 3, none⟩ = some (.int .i64 d1)) := hide fun W hW => by
    have hy : W.heap[w.heap.size]? = some (.cells #[.int .i64 t0, .int .i64 t1, .int .i64 d0, .int .i64 d1] 23 (0, 0)) := by
      rw [hW.block _ (by rw [hb0]; simp), hb0]; exact heap_alloc_new _ _
    refine ⟨?_, ?_, ?_, ?_⟩ <;> (rw [cell_of_row _ _ _ _ _ _ hy]; rfl)
  go_enter Try.func9, Try.ntmps9
  go_wp2_with fail
  rw [← hb0]
  clear hb0
  refine (rread_any s b0).mono ?_
  rintro e w1 ⟨p, rfl, hb1, hok⟩
  have HB1 := hide hb1
  have HW1 : Hid (Below w.heap.size w w1) := hide (HW0.out.trans (hb1.mono HW0.out.size))
  have HOK := hide hok
  clear hok hb1
  by_cases h0 : (textF s).1 = 0
  · have q1 : (((textF s).1 : Int) != 0) = false := by rw [h0]; rfl
    have H0 := hide h0
    obtain ⟨q, g, cap, L, vE, vA, vI, vQ, rfl, hP, ho, hG⟩ := HOK.out h0
    obtain ⟨c0, c1, c2, c3⟩ := HC.out w1 HB1.out
    have HP := hide hP
    have HO := hide ho
    have HG := hide hG
    clear h0 hP ho hG HOK
    go_wp2_with fail
    refine (HFIT.out w1).mono ?_
    rintro e w2 ⟨rfl, hb2⟩
    have HB2 := hide hb2
    clear hb2 c0 c1 c2 c3
    have HB2b : Hid (Below b0.heap.size b0 w2) := hide (HB1.out.trans (HB2.out.mono HB1.out.size))
    have HW2 : Hid (Below w.heap.size w w2) := hide (HW1.out.trans (HB2.out.mono HW1.out.size))
    cases hfb : fb with
    | false =>
      have HE : Hid (latE s ⟨t0, t1, d0, d1⟩ k = 10) := hide (by rw [HLE.out, if_neg (by rw [H0.out]; simp), if_neg (by rw [hfb]; simp)])
      have HR : Hid (LatR s ⟨t0, t1, d0, d1⟩ k 0) := hide (by rw [HLR.out, if_neg (by rw [HE.out]; omega)])
      clear hfb
      go_wp2
      go_ret2
      exact ⟨0, by rw [HE.out]; rfl, HR.out, HW2.out⟩
    | true =>
      by_cases hk : 0 ≤ k ∧ k ≤ 200
      · obtain ⟨hk1, hk2⟩ := hk
        have HE : Hid (latE s ⟨t0, t1, d0, d1⟩ k = 0) := hide (by rw [HLE.out, if_neg (by rw [H0.out]; simp), if_pos ⟨hfb, hk1, hk2⟩])
        have z1 : ¬ k < 0 := by omega
        have z2 : ¬ k > 200 := by omega
        have z3 : ¬ 200 < k := by omega
        have HPT := hide (HFP.out hfb)
        clear hfb
        go_wp2_with fail
        refine (rwaits_any w2 q g cap (toks s) L vE vA vI vQ (HP.out.below HB2.out) HO.out).mono ?_
        rintro e w3 ⟨g2, cap2, R, rfl, hM, -, -, hb3⟩
        have HM := hide hM
        have HB3 : Hid (Below b0.heap.size b0 w3) := hide (HB2b.out.trans (hb3.mono HB2b.out.size))
        clear hM hb3 HP
        generalize hMM : waitsP ((eqL L).map (placeD (toks s))) (routesR (toks s) L) noM = M at HM
        have HMM := hide hMM
        clear hMM
        go_wp2
        go_loopw [13, 14] (fun vd vn wr => ∃ N : Nat, 1 ≤ N ∧ N ≤ 4 ∧ vn = .int .i64 N ∧ vd = .int .i64 (dUp M (N - 1) : Nat) ∧ Below w3.heap.size w3 wr) (fun _ vn _ => 4 - (intOf vn).toNat)
        case atStart => exact ⟨1, by omega, by omega, rfl, rfl, Below.refl _ _⟩
        case round =>
          obtain ⟨N, hN1, hN4, rfl, rfl, hbr⟩ := hrel
          have HBR := hide hbr
          clear hbr
          by_cases hn4 : N < 4
          · have j1 : (N : Int) < 4 := by omega
            go_wp2_with fail
            go_loopw [13, 15] (fun vd vq wx => ∃ m : Nat, m ≤ 4 ∧ vq = .int .i64 m ∧ vd = .int .i64 (dIn M (N - 1) m : Nat) ∧ Below w3.heap.size w3 wx) (fun _ vq _ => 4 - (intOf vq).toNat)
            case atStart => exact ⟨0, by omega, rfl, rfl, by first | exact HBR.out | exact below_drewN HBR.out _⟩
            case round =>
              obtain ⟨m, hm4, rfl, rfl, hbx⟩ := hrel
              have HBX := hide hbx
              clear hbx
              by_cases hm : m < 4
              · have j2 : (m : Int) < 4 := by omega
                go_wp2_with fail
                refine (rahead_any g2 cap2 R M N (by omega) _ (HM.out.below HBX.out) m hm).mono ?_
                rintro e w4 ⟨rfl, hb4⟩
                have HB4 : Hid (Below w3.heap.size w3 w4) := hide (HBX.out.trans (hb4.mono HBX.out.size))
                clear hb4
                cases ha : aheadF M m N with
                | false =>
                  have HD : Hid (dIn M (N - 1) (m + 1) = dIn M (N - 1) m) := hide (dIn_miss (by rw [Nat.sub_add_cancel hN1]; exact ha))
                  clear ha
                  go_wp2
                  go_roundw
                  case rel => exact ⟨m + 1, by omega, by go_num, by rw [HD.out], by first | exact HB4.out | exact below_drewN HB4.out _⟩
                  case measure => simp [intOf]; omega
                | true =>
                  have HD : Hid (dIn M (N - 1) (m + 1) = N) := hide (by rw [dIn_hit (by rw [Nat.sub_add_cancel hN1]; exact ha), Nat.sub_add_cancel hN1])
                  clear ha
                  go_wp2
                  go_roundw
                  case rel => exact ⟨m + 1, by omega, by go_num, by rw [HD.out], by first | exact HB4.out | exact below_drewN HB4.out _⟩
                  case measure => simp [intOf]; omega
              · have em : m = 4 := by omega
                subst em
                have HD : Hid (dIn M (N - 1) 4 = dUp M (N + 1 - 1)) := hide (by rw [dIn_four, Nat.sub_add_cancel hN1, Nat.add_sub_cancel])
                go_wp2
                go_roundw
                case rel => exact ⟨N + 1, by omega, by omega, by go_num, by rw [HD.out], by first | exact HBX.out | exact below_drewN HBX.out _⟩
                case measure => simp [intOf]; omega
          · have eN : N = 4 := by omega
            subst eN
            obtain ⟨c0, c1, c2, c3⟩ := HC.out _ (HB3.out.trans (HBR.out.mono HB3.out.size))
            obtain ⟨p1, p2, p3, p4, p5, p6⟩ := HPT.out
            have hD3 : dUp M (4 - 1) ≤ 3 := dUp_le M 3
            generalize hDD : dUp M (4 - 1) = D at hD3 ⊢
            have HDU : Hid (dUp M 3 = D) := hide hDD
            clear hDD
            have HT := lat_num (t1 := t1) (d1 := d1) (k := k) (D := D) (by omega) (by omega) (by omega) (by omega) hk1 hk2 hD3
            obtain ⟨l, A, B, C, E, F, G, J, T, e1, e2, e3, e4, e5, e6, e7, e8, e9, hT⟩ := HT
            have HR : Hid (LatR s ⟨t0, t1, d0, d1⟩ k T) := hide (by
              rw [HLR.out, if_pos HE.out]
              refine ⟨L, HG.out, HO.out, ?_⟩
              show T = latM (waitsP ((eqL L).map (placeD (toks s))) (routesR (toks s) L) noM) ⟨t0, t1, d0, d1⟩ k
              rw [HMM.out, HLM.out, HDU.out]
              exact hT)
            have HWE : Hid (Below w.heap.size w _) := hide (HW0.out.trans ((HB3.out.trans (HBR.out.mono HB3.out.size)).mono HW0.out.size))
            clear hT p1 p2 p3 p4 p5 p6 HLM HLR HLE HMM HDU
            go_wp2
            go_ret2
            exact ⟨T, by rw [HE.out]; rfl, HR.out, by first | exact HWE.out | exact below_drewN HWE.out _⟩
      · have HE : Hid (latE s ⟨t0, t1, d0, d1⟩ k = 10) := hide (by rw [HLE.out, if_neg (by rw [H0.out]; simp), if_neg (fun h => hk h.2)])
        have HR : Hid (LatR s ⟨t0, t1, d0, d1⟩ k 0) := hide (by rw [HLR.out, if_neg (by rw [HE.out]; omega)])
        clear hfb
        by_cases hk1 : k < 0
        · clear hk
          go_wp2
          go_ret2
          exact ⟨0, by rw [HE.out]; rfl, HR.out, HW2.out⟩
        · have hk2 : k > 200 := by omega
          have hk3 : 200 < k := by omega
          clear hk
          go_wp2
          go_ret2
          exact ⟨0, by rw [HE.out]; rfl, HR.out, HW2.out⟩
  · have q1 : (((textF s).1 : Int) != 0) = true := by rw [bne_iff_ne]; omega
    have HE : Hid (latE s ⟨t0, t1, d0, d1⟩ k = (textF s).1) := hide (by rw [HLE.out, if_pos h0])
    have HR : Hid (LatR s ⟨t0, t1, d0, d1⟩ k 0) := hide (by rw [HLR.out, if_neg (by rw [HE.out]; exact h0)])
    clear HOK h0
    go_wp2
    go_ret2
    exact ⟨0, by rw [HE.out]; rfl, HR.out, HW1.out⟩

end Go.Proofs.Ytmndgoapkmhglab

/- the longest chain, walked. -/
namespace Go.Proofs.Ytmndgoapkmhglab
open Go.RowKit
attribute [local go_sem ↓] Go.wp_at_zero Go.wp_at_succ

set_option maxHeartbeats 1000000 in
set_option maxRecDepth 100000 in
theorem pone_any (w : World) (ge rk : Nat) (E : Nat → Nat) (Rw : Nat → Bool) (he : w.rowIs ge 3 4 (fun i => .int .i64 (E i : Int))) (hr : w.rowIs rk 4 4 (fun i => .bool (Rw i))) (hE : ∀ q, q < 4 → E q ≤ 3) :
    Calls Try.prog 87 #[.slice (some ⟨ge, 0, none⟩) 4 4, .slice (some ⟨rk, 0, none⟩) 4 4] w fun e w' => ∃ t : Nat, e = .returned (.int .i64 (t : Int)) ∧ OneM E Rw 4 t ∧ t ≤ 4 ∧ Below w.heap.size w w' := by
  have HE := hide he
  have HR := hide hr
  have HB := hide hE
  clear he hr hE
  go_enter Try.func87, Try.ntmps87
  go_wp2
  go_loopw [5, 10] (fun vm vi wr => ∃ k t : Nat, k ≤ 4 ∧ t ≤ 4 ∧ vi = .int .i64 k ∧ vm = .int .i64 t ∧ OneM E Rw k t ∧ wr = w) (fun _ vi _ => 4 - (intOf vi).toNat)
  case atStart => exact ⟨0, 0, by omega, by omega, rfl, rfl, OneM.zero E Rw, rfl⟩
  case round =>
    obtain ⟨k, t, hk, ht, rfl, rfl, hO, rfl⟩ := hrel
    have HO := hide hO
    clear hO
    by_cases hlt : k < 4
    · have x0 := HE.out.cell hlt
      have x1 := HR.out.cell hlt
      have hb := HB.out k hlt
      have j1 : (0 : Int) ≤ (k : Int) := by omega
      have j2 : (k : Int) < 4 := by omega
      have hw : IntKind.i64.wrap ((E k : Int) + 1) = (E k : Int) + 1 := by rw [IntKind.wrap_i64]; omega
      obtain ⟨rv, hrv⟩ : ∃ rv, Rw k = rv := ⟨_, rfl⟩
      rw [hrv] at x1
      cases rv with
      | false =>
        have HN := hide (HO.out.keep (fun e => by rw [hrv] at e; cases e.1))
        clear hrv
        go_wp2
        go_roundw
        case rel => exact ⟨k + 1, t, by omega, ht, by go_num, rfl, HN.out, by first | rfl | trivial⟩
        case measure => simp [intOf]; omega
      | true =>
        by_cases hlt2 : (E k : Int) + 1 > (t : Int)
        · have HN := hide (HO.out.more hrv (by omega))
          clear hrv
          go_wp2
          go_roundw
          case rel => exact ⟨k + 1, E k + 1, by omega, by omega, by go_num, by go_num, HN.out, by first | rfl | trivial⟩
          case measure => simp [intOf]; omega
        · have HN := hide (HO.out.keep (fun e => by have := e.2; omega))
          clear hrv
          go_wp2
          go_roundw
          case rel => exact ⟨k + 1, t, by omega, ht, by go_num, rfl, HN.out, by first | rfl | trivial⟩
          case measure => simp [intOf]; omega
    · have ek : k = 4 := by omega
      subst ek
      go_wp2
      go_ret
      exact ⟨t, rfl, HO.out, ht, Below.refl _ _⟩

set_option maxHeartbeats 2000000 in
set_option maxRecDepth 100000 in
theorem plong_any (w : World) (g : Nat) (R : Nat → Nat) (M : Mx) (hM : Mat w g 4 R M) (hA : ∀ q n, q < 4 → aheadF M q n = true → n ≤ 3) :
    Calls Try.prog 55 #[.slice (some ⟨g, 0, none⟩) 4 4] w fun e w' => e = .returned (.int .i64 (dUp M 3 : Int)) ∧ Below w.heap.size w w' := by
  have hm1 := run_make_row' (P := Try.prog) 38 3 (.int .i64 0) 8 Try.underlying38 Try.infoInt rfl .i64 .i64 4 (by omega) (by omega)
  simp only [show ((4 : Nat) : Int) = 4 from rfl] at hm1
  have HR0 := hide (World.rowIs_made w (.int .i64 0) 4 3)
  have HM := hide hM
  have HA := hide hA
  have hgl := hM.lt (by omega)
  clear hM hA
  go_enter Try.func55, Try.ntmps55
  go_wp2
  go_loopw [4, 12] (fun vm vi wr => ∃ (r t : Nat) (E : Nat → Nat), r ≤ 4 ∧ vi = .int .i64 r ∧ vm = .int .i64 t ∧ wr.rowIs w.heap.size 3 4 (fun i => .int .i64 (E i : Int)) ∧ LgI M r 0 E t ∧ Below w.heap.size w wr) (fun _ vi _ => 4 - (intOf vi).toNat)
  case atStart => exact ⟨0, 0, fun _ => 0, by omega, rfl, rfl, HR0.out, LgI.start M, (Below.refl _ _).alloc (Nat.le_refl _) _⟩
  case round =>
    obtain ⟨r, t, E, hr, rfl, rfl, hrow, hI, hbr⟩ := hrel
    have HI := hide hI
    have HROW := hide hrow
    have HBR := hide hbr
    clear hI hrow hbr
    by_cases hlt : r < 4
    · have j1 : (r : Int) < 4 := by omega
      go_wp2_with fail
      go_loopw [4, 16] (fun vm vi wx => ∃ (k t : Nat) (E : Nat → Nat), k ≤ 4 ∧ vi = .int .i64 k ∧ vm = .int .i64 t ∧ wx.rowIs w.heap.size 3 4 (fun i => .int .i64 (E i : Int)) ∧ LgI M r k E t ∧ Below w.heap.size w wx) (fun _ vi _ => 4 - (intOf vi).toNat)
      case atStart => exact ⟨0, t, E, by omega, rfl, rfl, HROW.out, HI.out, HBR.out⟩
      case round =>
        clear HI HROW HBR
        obtain ⟨k, t, E, hk, rfl, rfl, hrow, hI, hbr⟩ := hrel
        have HI := hide hI
        have HROW := hide hrow
        have HBR := hide hbr
        by_cases hkl : k < 4
        · have x0 := (hbr.cell (p := ⟨g, k, none⟩) hgl).trans (HM.out.outer k hkl)
          have hRk : wr.rowIs (R k) 4 4 (fun i => .bool (M k i)) := (HM.out.rows k hkl).of_block (hbr.block _ (World.rowIs.lt (HM.out.rows k hkl)))
          have j2 : (0 : Int) ≤ (k : Int) := by omega
          have j3 : (k : Int) < 4 := by omega
          have HCL := hide (pone_any wr w.heap.size (R k) E (M k) hrow hRk (fun q hq => HA.out q _ hq (hI.up q hq)))
          clear hI hrow hbr hRk
          go_wp2_with fail
          refine HCL.out.mono ?_
          rintro e w2 ⟨x, rfl, hx, hx4, hb2⟩
          have hrow2 := HROW.out.of_block (hb2.block _ HROW.out.lt)
          have y0 := hrow2.cell hkl
          have f0 := hrow2.frozen k
          have hset := hrow2.set k (.int .i64 (x : Int))
          have y1 := hset.cell hkl
          simp only [if_true] at y1
          have HN := hide (HI.out.step hkl hx)
          have HSET : Hid ((w2.setCell ⟨w.heap.size, k, none⟩ (.int .i64 (x : Int))).rowIs w.heap.size 3 4 (fun i => .int .i64 (((if i = k then x else E i) : Nat) : Int))) := hide (hset.congr (fun i _ => by by_cases e : i = k <;> simp [e]))
          have HB2 : Hid (Below w.heap.size w (w2.setCell ⟨w.heap.size, k, none⟩ (.int .i64 (x : Int)))) := hide ((HBR.out.trans (hb2.mono HBR.out.size)).setCell (Nat.le_refl _) _)
          clear hx hb2 hrow2 hset x0
          by_cases hgt : (x : Int) > (t : Int)
          · have hxt : t < x := by omega
            rw [if_pos hxt] at HN
            clear hxt
            go_wp2
            go_roundw
            case rel => exact ⟨k + 1, x, _, by omega, by go_num, rfl, HSET.out, HN.out, HB2.out⟩
            case measure => simp [intOf]; omega
          · have hxt : ¬ t < x := by omega
            rw [if_neg hxt] at HN
            clear hxt
            go_wp2
            go_roundw
            case rel => exact ⟨k + 1, t, _, by omega, by go_num, rfl, HSET.out, HN.out, HB2.out⟩
            case measure => simp [intOf]; omega
        · have ek : k = 4 := by omega
          subst ek
          have HN := hide hI.round
          clear hI hrow hbr
          go_wp2
          go_roundw
          case rel => exact ⟨r + 1, t, E, by omega, by go_num, rfl, HROW.out, HN.out, HBR.out⟩
          case measure => simp [intOf]; omega
    · have ek : r = 4 := by omega
      subst ek
      have HD := hide (HI.out.done HA.out)
      go_wp2
      go_ret
      exact ⟨by rw [← HD.out]; rfl, HBR.out⟩

end Go.Proofs.Ytmndgoapkmhglab

/- Latest of the program. -/
namespace Go.Proofs.Ytmndgoapkmhglab
open Go.RowKit
attribute [local go_sem ↓] Go.wp_at_zero Go.wp_at_succ

set_option maxHeartbeats 2000000 in
set_option maxRecDepth 100000 in
theorem pblatest_any (w : World) (q : Nat) (ds : List Dc) (ns : List Nd) (vd vn : Value) (h : ProgAt w q ds ns vd vn) (hwf : ProgWf ds ns) (hL : ∀ r ∈ linksF ds ns, r.src < (eqsF ds).length ∧ r.dst < 4) (hll : (linksF ds ns).length ≤ 6100) (M : Mx) (hM : waitsM (eqsF ds) (linksF ds ns) noM = M) (hA : ∀ q n, q < 4 → aheadF M q n = true → n ≤ 3) (b : BdF) (hb : fitF b = true) (k : Int) (hk : 0 ≤ k ∧ k ≤ 200) :
    Calls Try.prog 33 #[.pointer (some ⟨q, 0, none⟩), b.val, .int .i64 k] w fun e w' => e = .returned (.int .i64 (latM M b k)) ∧ Below w.heap.size w w' := by
  obtain ⟨p1, p2, p3, p4, p5, p6⟩ := fit_parts hb
  have HLM : Hid (latM M b k = b.tmax + 2 * (dUp M 3 : Int) * (b.tmax + b.dmax) + 2 * k * ((dUp M 3 : Int) + 1) * (b.tmax + b.dmax)) := hide rfl
  obtain ⟨t0, t1, d0, d1⟩ := b
  simp only [] at p1 p2 p3 p4 p5 p6 HLM
  obtain ⟨b0, hb0⟩ : ∃ b0, b0 = w.alloc (.cells #[.int .i64 t0, .int .i64 t1, .int .i64 d0, .int .i64 d1] 23) := ⟨_, rfl⟩
  have HW0 : Hid (Below w.heap.size w b0) := hide (by rw [hb0]; exact (Below.refl _ _).alloc (Nat.le_refl _) _)
  have HC : Hid (∀ W : World, Below b0.heap.size b0 W → W.cell? ⟨w.heap.size, 1, none⟩ = some (.int .i64 t1) ∧ W.cell? ⟨w.heap.size, 3, none⟩ = some (.int .i64 d1)) := hide fun W hW => by
    have hy : W.heap[w.heap.size]? = some (.cells #[.int .i64 t0, .int .i64 t1, .int .i64 d0, .int .i64 d1] 23 (0, 0)) := by
      rw [hW.block _ (by rw [hb0]; simp), hb0]; exact heap_alloc_new _ _
    refine ⟨?_, ?_⟩ <;> (rw [cell_of_row _ _ _ _ _ _ hy]; rfl)
  have HWT := hide (waits_any b0 q ds ns vd vn (h.below HW0.out) hwf hL hll)
  rw [hM] at HWT
  have HA := hide hA
  rw [hb0] at HWT
  have HB0 := hide hb0
  clear h hwf hL hll hM hA hb hb0
  go_enter Try.func33, Try.ntmps33
  go_wp2_with fail
  refine HWT.out.mono ?_
  rw [← HB0.out]
  rintro e w1 ⟨rfl, hM1, hb1⟩
  have HB1 := hide hb1
  have HM1 := hide hM1
  clear hM1 hb1
  go_wp2_with fail
  refine (plong_any w1 _ _ M HM1.out HA.out).mono ?_
  rintro e w2 ⟨rfl, hb2⟩
  have hb02 : Below b0.heap.size b0 w2 := HB1.out.trans (hb2.mono HB1.out.size)
  obtain ⟨c1, c3⟩ := HC.out w2 hb02
  have HB2 : Hid (Below w.heap.size w w2) := hide (HW0.out.trans (hb02.mono HW0.out.size))
  have hD := dUp_le M 3
  obtain ⟨l, A, B, C, E, F, G, J, T, g1, g2, g3, g4, g5, g6, g7, g8, g9, g10⟩ := lat_num (t1 := t1) (d1 := d1) (k := k) (D := dUp M 3) (by omega) (by omega) (by omega) (by omega) hk.1 hk.2 hD
  have HT : Hid (T = latM M ⟨t0, t1, d0, d1⟩ k) := hide (by rw [HLM.out, g10])
  generalize dUp M 3 = D at *
  clear hb2 hb02 g10 HLM hk hD
  go_wp2
  go_ret
  exact ⟨by rw [← HT.out]; rfl, HB2.out⟩

set_option maxHeartbeats 2000000 in
set_option maxRecDepth 100000 in
theorem platest_any (s : ByteArray) (hs : s.size ≤ maxLen) (b : BdF) (k : Int) (w : World) :
    Calls Try.prog 8 #[.string s, b.val, .int .i64 k] w fun e w' => ∃ t, e = .returned (.tuple #[.int .i64 t, .int .i64 (latE s b k : Int)]) ∧ LatQ s b k t ∧ Below w.heap.size w w' := by
  have HLQ : Hid (∀ t, LatQ s b k t = if latE s b k = 0 then ∀ L, RGood s L → ROk (toks s) L → t = latM (waitsL s L) b k else t = 0) := hide fun t => rfl
  have HLE : Hid (latE s b k = if (textF s).1 ≠ 0 then (textF s).1 else if fitF b = true ∧ 0 ≤ k ∧ k ≤ 200 then 0 else 10) := hide rfl
  have HFIT := hide (pfit_any b)
  have HBL := hide (fun W q ds ns vd vn h hwf hL hll M hM hA hb hk => pblatest_any W q ds ns vd vn h hwf hL hll M hM hA b hb k hk)
  obtain ⟨fb, hfb⟩ : ∃ fb, fitF b = fb := ⟨_, rfl⟩
  rw [hfb] at HLE HFIT HBL
  generalize latE s b k = er at *
  generalize hLQ : LatQ s b k = Q1 at *
  have HLM : Hid (∀ M, latM M b k = latM M b k) := hide fun M => rfl
  obtain ⟨LM, hLM⟩ : ∃ LM : Mx → Int, LM = fun M => latM M b k := ⟨_, rfl⟩
  have hLM' : ∀ M, latM M b k = LM M := fun M => by rw [hLM]
  simp only [hLM'] at HLQ HBL
  clear hLM hLM' HLM hLQ
  obtain ⟨t0, t1, d0, d1⟩ := b
  obtain ⟨b0, hb0⟩ : ∃ b0, b0 = w.alloc (.cells #[.int .i64 t0, .int .i64 t1, .int .i64 d0, .int .i64 d1] 23) := ⟨_, rfl⟩
  have HW0 : Hid (Below w.heap.size w b0) := hide (by rw [hb0]; exact (Below.refl _ _).alloc (Nat.le_refl _) _)
  have HC : Hid (∀ W : World, Below b0.heap.size b0 W → W.cell? ⟨w.heap.size, 0, none⟩ = some (.int .i64 t0) ∧ W.cell? ⟨w.heap.size, 1, none⟩ = some (.int .i64 t1) ∧ W.cell? ⟨w.heap.size, 2, none⟩ = some (.int .i64 d0) ∧ W.cell? ⟨w.heap.size, 3, none⟩ = some (.int .i64 d1)) := hide fun W hW => by
    have hy : W.heap[w.heap.size]? = some (.cells #[.int .i64 t0, .int .i64 t1, .int .i64 d0, .int .i64 d1] 23 (0, 0)) := by
      rw [hW.block _ (by rw [hb0]; simp), hb0]; exact heap_alloc_new _ _
    refine ⟨?_, ?_, ?_, ?_⟩ <;> (rw [cell_of_row _ _ _ _ _ _ hy]; rfl)
  clear hfb
  go_enter Try.func8, Try.ntmps8
  go_wp2_with fail
  rw [← hb0]
  clear hb0
  refine (text_any s b0 hs (good_parse s)).mono ?_
  rintro e w1 ⟨⟨vd, vn, rfl, hr⟩, hb1⟩
  have HB1 := hide hb1
  have HW1 : Hid (Below w.heap.size w w1) := hide (HW0.out.trans (hb1.mono HW0.out.size))
  rcases hr with ⟨h0, rfl, rfl⟩ | ⟨h0, p, hp, ⟨a1, n1, c1, rfl⟩, ⟨a2, n2, c2, rfl⟩, hod, hon, hdn⟩
  · have q1 : (((textF s).1 : Int) != 0) = true := by rw [bne_iff_ne]; omega
    have HE : Hid (er = (textF s).1) := hide (by rw [HLE.out, if_pos h0])
    have HQ : Hid (Q1 0) := hide (by rw [HLQ.out, if_neg (by rw [HE.out]; exact h0)])
    clear h0 hb1
    go_wp2
    go_ret2
    exact ⟨_, by rw [HE.out]; rfl, HQ.out, HW1.out.alloc HW1.out.size _⟩
  · have q1 : (((textF s).1 : Int) != 0) = false := by rw [h0]; rfl
    have H0 := hide h0
    have hs' := text_le h0
    have hg := good_parse s hs' p hp
    have hbl : (boundN p).length = p.nodes.length := by simp [boundN]
    have HPA : Hid (∀ o, o = .cells #[.slice a1 n1 c1, .slice a2 n2 c2] 70 → ProgAt (w1.alloc o) w1.heap.size p.decls (boundN p) (.slice a1 n1 c1) (.slice a2 n2 c2)) := hide (fun o ho => by
      subst ho
      exact ⟨by simp, (World.cell?_alloc_at _ _ _ _ rfl).trans rfl, (World.cell?_alloc_at _ _ _ _ rfl).trans rfl, (own_zero hod).alloc _, by rw [hbl]; exact (own_zero hon).alloc _⟩)
    have HG := hide hg
    have HP := hide hp
    have k0 : ∀ u, (w1.alloc u).cell? ⟨w.heap.size, 0, none⟩ = some (.int .i64 t0) := fun u => (HC.out _ (hb1.alloc hb1.size u)).1
    have k1 : ∀ u, (w1.alloc u).cell? ⟨w.heap.size, 1, none⟩ = some (.int .i64 t1) := fun u => (HC.out _ (hb1.alloc hb1.size u)).2.1
    have k2 : ∀ u, (w1.alloc u).cell? ⟨w.heap.size, 2, none⟩ = some (.int .i64 d0) := fun u => (HC.out _ (hb1.alloc hb1.size u)).2.2.1
    have k3 : ∀ u, (w1.alloc u).cell? ⟨w.heap.size, 3, none⟩ = some (.int .i64 d1) := fun u => (HC.out _ (hb1.alloc hb1.size u)).2.2.2
    clear h0 hod hon hdn hg hp hbl hb1
    go_wp2_with fail
    refine (HFIT.out _).mono ?_
    rintro e w2 ⟨rfl, hb2⟩
    have hb2' : Below b0.heap.size b0 w2 := (HB1.out.alloc HB1.out.size _).trans (hb2.mono (by have := HB1.out.size; simp; omega))
    obtain ⟨m0, m1, m2, m3⟩ := HC.out w2 hb2'
    have HPA2 := hide ((HPA.out _ rfl).below hb2)
    have HW2 : Hid (Below w.heap.size w w2) := hide (HW0.out.trans (hb2'.mono HW0.out.size))
    clear hb2 hb2' k0 k1 k2 k3
    by_cases hk : fb = true ∧ 0 ≤ k ∧ k ≤ 200
    · have HE : Hid (er = 0) := hide (by rw [HLE.out, if_neg (by rw [H0.out]; simp), if_pos hk])
      obtain ⟨rfl, hk1, hk2⟩ := hk
      obtain ⟨L, hG, hR, hO⟩ := good_text H0.out
      have HCL := hide (HBL.out w2 w1.heap.size p.decls (boundN p) _ _ HPA2.out HG.out.wf HG.out.links HG.out.many (waitM (toks s) L) (waits_held hs' HP.out hG) (ahead_three hG.lp (fun x hx => (hO.eq hx).2.2.2.2)) rfl ⟨hk1, hk2⟩)
      have HQ : Hid (Q1 (LM (waitM (toks s) L))) := hide (by
        rw [HLQ.out, if_pos HE.out]
        intro L' hG' _
        have e1 := waits_held hs' HP.out hG
        have e2 := waits_held hs' HP.out hG'
        show LM (waitM (toks s) L) = LM (waitM (toks s) L')
        rw [← e1, e2])
      have z1 : ¬ k < 0 := by omega
      have z2 : ¬ k > 200 := by omega
      have z3 : ¬ 200 < k := by omega
      clear hG hR hO hk1 hk2
      go_wp2_with fail
      refine HCL.out.mono ?_
      rintro e w3 ⟨rfl, hb3⟩
      have HW3 : Hid (Below w.heap.size w w3) := hide (HW2.out.trans (hb3.mono HW2.out.size))
      clear hb3
      go_wp2
      go_ret2
      exact ⟨_, by rw [HE.out]; rfl, HQ.out, HW3.out⟩
    · have HE : Hid (er = 10) := hide (by rw [HLE.out, if_neg (by rw [H0.out]; simp), if_neg hk])
      have HQ : Hid (Q1 0) := hide (by rw [HLQ.out, if_neg (by rw [HE.out]; omega)])
      cases fb with
      | false =>
        clear hk
        go_wp2
        go_ret2
        exact ⟨_, by rw [HE.out]; rfl, HQ.out, HW2.out⟩
      | true =>
        have hc : k < 0 ∨ (¬ k < 0 ∧ k > 200) := by
          have : ¬ (0 ≤ k ∧ k ≤ 200) := fun e => hk ⟨rfl, e⟩
          omega
        clear hk
        rcases hc with z1 | ⟨z1, z2⟩
        all_goals
          go_wp2
          go_ret2
          exact ⟨_, by rw [HE.out]; rfl, HQ.out, HW2.out⟩

end Go.Proofs.Ytmndgoapkmhglab
