import Derived.Test.Ytmndgoapkmhglabc32OpenL
import Derived.Test.Ytmndgoapkmhglabc42PVal
import Derived.Test.Ytmndgoapkmhglabc48PLat
import Derived.Test.Ytmndgoapkmhglabc51CaC
namespace Go.Proofs.Ytmndgoapkmhglab
open Go.RowKit
attribute [local go_sem ↓] Go.wp_at_zero Go.wp_at_succ
def EvSn (w : World) (v : Value) (P : PastF) : Prop := ∃ (A : Option Addr) (C : Nat), v = .slice A P.length C ∧ (0 < P.length → ∃ g, A = some ⟨g, 0, none⟩ ∧ g < w.heap.size ∧ ∀ i, (h : i < P.length) → w.cell? ⟨g, i * 6, none⟩ = some (.int .i64 P[i].2.k) ∧ w.cell? ⟨g, i * 6 + 1, none⟩ = some (.int .i64 P[i].2.a) ∧ w.cell? ⟨g, i * 6 + 2, none⟩ = some (.int .i64 P[i].2.did))
theorem EvSn.below {w w' : World} {v : Value} {P : PastF} (h : EvSn w v P) (hb : Below w.heap.size w w') : EvSn w' v P := by
  obtain ⟨A, C, hv, hc⟩ := h
  refine ⟨A, C, hv, fun hp => ?_⟩
  obtain ⟨g, h1, h2, h3⟩ := hc hp
  exact ⟨g, h1, Nat.lt_of_lt_of_le h2 hb.size, fun i hi => ⟨(hb.cell (p := ⟨g, i * 6, none⟩) h2).trans (h3 i hi).1, (hb.cell (p := ⟨g, i * 6 + 1, none⟩) h2).trans (h3 i hi).2.1, (hb.cell (p := ⟨g, i * 6 + 2, none⟩) h2).trans (h3 i hi).2.2⟩⟩
theorem evSn_of {w : World} {B : Nat} {v : Value} {P : PastF} {TV VV : Nat → Value} (h : EvsOwn B w v (P.map Prod.snd) TV VV) : EvSn w v P := by
  have hl : (P.map Prod.snd).length = P.length := List.length_map _
  obtain ⟨a, c, rfl, hsh⟩ := own_shape h.row
  rw [hl] at hsh
  refine ⟨a, c, by rw [hl], fun hp => ?_⟩
  obtain ⟨g, rfl, _, hg⟩ := hsh hp
  refine ⟨g, rfl, hg, fun i hi => ?_⟩
  obtain ⟨x0, x1, x2, _, _, _⟩ := ev_cells h.row (i := i) (e := P[i].2) (by rw [List.getElem?_map, List.getElem?_eq_getElem hi]; rfl)
  exact ⟨x0, x1, x2⟩
theorem stepT_drop (pl : Int) (k : Nat) (P : PastF) {i : Nat} (hi : i < P.length) (n : Nat) : stepT pl k (P.drop i) n = if isD pl 1 P[i] then (if n = k then P[i].2.a else stepT pl k (P.drop (i + 1)) (n + 1)) else stepT pl k (P.drop (i + 1)) n := by
  rw [List.drop_eq_getElem_cons hi]
  rfl
set_option maxHeartbeats 2000000 in
set_option maxRecDepth 100000 in
theorem kstep_any (w : World) (v : Value) (P : PastF) (h : EvSn w v P) (hl : P.length ≤ 400) (pl : Int) (k : Nat) (hk : k ≤ 200) :
    Calls Try.prog 52 #[v, .int .i64 pl, .int .i64 (k : Int)] w fun e w' => e = .returned (.int .i64 (stepT pl k P 0)) ∧ Below w.heap.size w w' := by
  obtain ⟨A, C, rfl, hc⟩ := h
  have HC := hide hc
  clear hc
  go_enter Try.func52, Try.ntmps52
  go_wp2
  go_loopw [7, 8] (fun vn vi wr => ∃ n i : Nat, i ≤ P.length ∧ n ≤ i ∧ vn = .int .i64 n ∧ vi = .int .i64 i ∧ stepT pl k P 0 = stepT pl k (P.drop i) n ∧ Below w.heap.size w wr) (fun _ vi _ => P.length - (intOf vi).toNat)
  case atStart => exact ⟨0, 0, Nat.zero_le _, Nat.le_refl _, rfl, rfl, rfl, Below.refl _ _⟩
  case round =>
    obtain ⟨n, i, hi, hni, rfl, rfl, heq, hbr⟩ := hrel
    have HBR := hide hbr
    have HBN := hide (below_drewN hbr)
    by_cases hil : i < P.length
    · obtain ⟨g, rfl, hg, hcell⟩ := HC.out (by omega)
      obtain ⟨x0, x1, x2⟩ := hcell i hil
      rw [← hbr.cell (p := ⟨g, i * 6, none⟩) hg] at x0
      rw [← hbr.cell (p := ⟨g, i * 6 + 1, none⟩) hg] at x1
      rw [← hbr.cell (p := ⟨g, i * 6 + 2, none⟩) hg] at x2
      have HEQ : Hid (stepT pl k P 0 = if isD pl 1 P[i] then (if n = k then P[i].2.a else stepT pl k (P.drop (i + 1)) (n + 1)) else stepT pl k (P.drop (i + 1)) n) := hide (by rw [heq]; exact stepT_drop pl k P hil n)
      have hD : isD pl 1 P[i] = (decide (P[i].2.k = pl) && decide (P[i].2.did = 1)) := rfl
      rw [hD] at HEQ
      generalize P[i].2.k = ek at *
      generalize P[i].2.a = ea at *
      generalize P[i].2.did = ed at *
      have j3 : (0 : Int) ≤ (i : Int) := by omega
      have j4 : (i : Int) < (P.length : Int) := by omega
      clear hcell hbr heq hD
      by_cases e1 : ek = pl
      · subst e1
        have d1 : (ek == ek) = true := by simp
        by_cases e2 : ed = 1
        · subst e2
          have d2 : ((1 : Int) == 1) = true := by simp
          by_cases e3 : n = k
          · subst e3
            have d3 : ((n : Int) == (n : Int)) = true := by simp
            simp only [decide_true, Bool.and_self, if_true] at HEQ
            go_wp2
            go_ret
            exact ⟨by rw [HEQ.out]; rfl, by first | exact HBR.out | exact HBN.out _⟩
          · have d3 : ((n : Int) == (k : Int)) = false := by rw [beq_eq_false_iff_ne]; omega
            simp only [decide_true, Bool.and_self, if_true, if_neg e3] at HEQ
            go_wp2
            go_roundw
            case rel => exact ⟨n + 1, i + 1, by omega, by omega, by go_num, by go_num, HEQ.out, by first | exact HBR.out | exact HBN.out _⟩
            case measure => simp [intOf]; omega
        · have d2 : (ed == 1) = false := by rw [beq_eq_false_iff_ne]; exact e2
          simp only [decide_true, decide_eq_false e2, Bool.and_false, Bool.false_eq_true, if_false] at HEQ
          go_wp2
          go_roundw
          case rel => exact ⟨n, i + 1, by omega, by omega, by first | rfl | trivial, by go_num, HEQ.out, by first | exact HBR.out | exact HBN.out _⟩
          case measure => simp [intOf]; omega
      · have d1 : (ek == pl) = false := by rw [beq_eq_false_iff_ne]; exact e1
        simp only [decide_eq_false e1, Bool.false_and, Bool.false_eq_true, if_false] at HEQ
        go_wp2
        go_roundw
        case rel => exact ⟨n, i + 1, by omega, by omega, by first | rfl | trivial, by go_num, HEQ.out, by first | exact HBR.out | exact HBN.out _⟩
        case measure => simp [intOf]; omega
    · have ei : i = P.length := by omega
      subst ei
      have HEQ : Hid (stepT pl k P 0 = -1) := hide (by rw [heq, List.drop_length]; rfl)
      clear hbr heq
      go_wp2
      go_ret
      exact ⟨by rw [HEQ.out]; rfl, by first | exact HBR.out | exact HBN.out _⟩
set_option maxHeartbeats 8000000 in
set_option maxRecDepth 100000 in
theorem calm_any (s : ByteArray) (w : World) (vP : Value) (ps : List Nat) (hP : RowAt w vP (ps.map fun (q : Nat) => (q : Int))) (hp1 : 0 < ps.length) (hp4 : ps.length ≤ 4) (t0 t1 d0 d1 : Nat) (ht : t1 ≤ 1000000 ∧ d1 ≤ 1000000) (vS : Value) (sc : List OpF) (hS : OpsAt w vS sc) (vE : Value) (P : PastF) (hE : EvSn w vE P) (hPl : P.length ≤ 400) (U : Nat → Int)
    (hU : ∀ k : Nat, k ≤ 200 → ∀ W, Calls Try.prog 8 #[.string s, .agg #[.int .i64 (t0 : Int), .int .i64 (t1 : Int), .int .i64 (d0 : Int), .int .i64 (d1 : Int)], .int .i64 (k : Int)] W fun e w' => e = .returned (.tuple #[.int .i64 (U k), .int .i64 0]) ∧ Below W.heap.size W w')
    (hlo : ∀ k : Nat, k ≤ 200 → (t1 : Int) + 2 * (k : Int) * ((t1 : Int) + (d1 : Int)) ≤ U k ∧ U k ≤ (t1 : Int) + 2 * ((ps.length : Int) - 1) * ((t1 : Int) + (d1 : Int)) + 2 * (k : Int) * (ps.length : Int) * ((t1 : Int) + (d1 : Int)))
    (hst : ∀ k : Nat, k ≤ 200 → U k ≤ horF sc (ps.map fun (q : Nat) => (q : Int)) → ∀ i, (h : i < ps.length) → 0 ≤ stepT ((ps[i] : Nat) : Int) k P 0 ∧ stepT ((ps[i] : Nat) : Int) k P 0 ≤ U k) :
    Calls Try.prog 30 #[.string s, vP, .agg #[.int .i64 (t0 : Int), .int .i64 (t1 : Int), .int .i64 (d0 : Int), .int .i64 (d1 : Int)], vS, vE] w fun e w' => e = .returned (.bool true) ∧ Below w.heap.size w w' := by
  obtain ⟨ht1, ht2⟩ := ht
  obtain ⟨w0, hw0⟩ : ∃ w0, w0 = w.alloc (.cells #[.int .i64 (t0 : Int), .int .i64 (t1 : Int), .int .i64 (d0 : Int), .int .i64 (d1 : Int)] 23) := ⟨_, rfl⟩
  have hb0 : Below w.heap.size w w0 := by rw [hw0]; exact (Below.refl _ _).alloc (Nat.le_refl _) _
  have hD0 : BdAt w0 w.heap.size t0 t1 d0 d1 := by rw [hw0]; exact BdAt.boxed w _ _ _ _
  have HH := hide (horizon_any w0 vP _ (hP.below hb0) vS sc (hS.below hb0))
  have HD0 := hide hD0
  have HB0 := hide hb0
  have HE := hide hE
  have HU := hide hU
  have HLO := hide hlo
  have HST := hide hst
  have HW0 := hide hw0
  obtain ⟨aP, cP, rfl, _, hcP⟩ := hP
  have HCP := hide hcP
  obtain ⟨aS, cS, rfl, _, _⟩ := hS
  obtain ⟨aE, cE, rfl, _⟩ := hE
  obtain ⟨H, hH⟩ : ∃ H, H = horF sc (ps.map fun (q : Nat) => (q : Int)) := ⟨_, rfl⟩
  rw [← hH] at HH HST
  rw [List.length_map] at *
  clear hcP hU hlo hst hb0 hD0 hH hw0
  obtain ⟨lg, hlg⟩ : ∃ lg : Int, lg = (t1 : Int) + (d1 : Int) := ⟨_, rfl⟩
  rw [← hlg] at HLO
  have lg0 : 0 ≤ lg ∧ lg ≤ 2000000 := by omega
  have e1 : IntKind.i64.wrap ((t1 : Int) + (d1 : Int)) = lg := by rw [IntKind.wrap_i64]; omega
  clear hlg
  go_enter Try.func30, Try.ntmps30
  go_wp2_with fail
  rw [← HW0.out]
  refine HH.out.mono ?_
  rintro e w1 ⟨rfl, hb1⟩
  have hD1 : BdAt w1 w.heap.size t0 t1 d0 d1 := World.rowIs.of_block HD0.out (hb1.block _ (World.rowIs.lt HD0.out))
  obtain ⟨c0, c1, c2, c3⟩ := hD1.cells
  have HD1 := hide hD1
  have HB1 : Hid (Below w.heap.size w w1) := hide (HB0.out.trans (hb1.mono HB0.out.size))
  clear hD1 hb1 HH HD0 HB0 HW0
  go_wp2
  clear c0 c1 c2 c3
  go_loopw [13] (fun vk wr => ∃ k : Nat, k ≤ 201 ∧ vk = .int .i64 k ∧ Below w1.heap.size w1 wr) (fun vk _ => 201 - (intOf vk).toNat)
  case atStart => exact ⟨0, by omega, rfl, Below.refl _ _⟩
  case round =>
    obtain ⟨k, hk, rfl, hbr⟩ := hrel
    have HBR := hide hbr
    have HBW : Hid (Below w.heap.size w wr) := hide (HB1.out.trans (hbr.mono HB1.out.size))
    by_cases hkl : k ≤ 200
    · have hDr : BdAt wr w.heap.size t0 t1 d0 d1 := World.rowIs.of_block HD1.out (hbr.block _ (World.rowIs.lt HD1.out))
      obtain ⟨c0, c1, c2, c3⟩ := hDr.cells
      obtain ⟨lo, hi⟩ := HLO.out k hkl
      have HS := hide (HST.out k hkl)
      have HUK := hide (HU.out k hkl wr)
      have k1 : (k : Int) ≤ 200 := by omega
      have HDR := hide hDr
      obtain ⟨u, hu⟩ : ∃ u, u = U k := ⟨_, rfl⟩
      rw [← hu] at lo hi HS HUK
      obtain ⟨n, hn⟩ : ∃ n : Int, n = (ps.length : Int) := ⟨_, rfl⟩
      obtain ⟨a1, ha1⟩ : ∃ a1 : Int, a1 = 2 * (k : Int) := ⟨_, rfl⟩
      rw [← ha1] at lo hi
      have ha1b : 0 ≤ a1 ∧ a1 ≤ 400 := by omega
      obtain ⟨a2, ha2⟩ : ∃ a2 : Int, a2 = a1 * lg := ⟨_, rfl⟩
      have ha2b : 0 ≤ a2 ∧ a2 ≤ 400 * 2000000 := by
        rw [ha2]
        exact ⟨Int.mul_nonneg ha1b.1 lg0.1, Int.le_trans (Int.mul_le_mul_of_nonneg_right ha1b.2 lg0.1) (Int.mul_le_mul_of_nonneg_left lg0.2 (by omega))⟩
      obtain ⟨b2, hb2⟩ : ∃ b2 : Int, b2 = 2 * ((ps.length : Int) - 1) := ⟨_, rfl⟩
      rw [← hb2] at hi
      have hb2b : 0 ≤ b2 ∧ b2 ≤ 6 := by omega
      obtain ⟨b3, hb3⟩ : ∃ b3 : Int, b3 = b2 * lg := ⟨_, rfl⟩
      have hb3b : 0 ≤ b3 ∧ b3 ≤ 6 * 2000000 := by
        rw [hb3]
        exact ⟨Int.mul_nonneg hb2b.1 lg0.1, Int.le_trans (Int.mul_le_mul_of_nonneg_right hb2b.2 lg0.1) (Int.mul_le_mul_of_nonneg_left lg0.2 (by omega))⟩
      obtain ⟨g1, hg1⟩ : ∃ g1 : Int, g1 = a1 * (ps.length : Int) := ⟨_, rfl⟩
      have hg1b : 0 ≤ g1 ∧ g1 ≤ 400 * 4 := by
        rw [hg1]
        exact ⟨Int.mul_nonneg ha1b.1 (by omega), Int.le_trans (Int.mul_le_mul_of_nonneg_right ha1b.2 (by omega)) (Int.mul_le_mul_of_nonneg_left (by omega) (by omega))⟩
      obtain ⟨g2, hg2⟩ : ∃ g2 : Int, g2 = g1 * lg := ⟨_, rfl⟩
      have hg2b : 0 ≤ g2 ∧ g2 ≤ 1600 * 2000000 := by
        rw [hg2]
        exact ⟨Int.mul_nonneg hg1b.1 lg0.1, Int.le_trans (Int.mul_le_mul_of_nonneg_right hg1b.2 lg0.1) (Int.mul_le_mul_of_nonneg_left lg0.2 (by omega))⟩
      rw [← ha2] at lo
      rw [← hb3, ← hg1, ← hg2] at hi
      have m1 : IntKind.i64.wrap (2 * (k : Int)) = a1 := by rw [← ha1, IntKind.wrap_i64]; omega
      have m2 : IntKind.i64.wrap (a1 * lg) = a2 := by rw [← ha2, IntKind.wrap_i64]; omega
      have m3 : IntKind.i64.wrap ((t1 : Int) + a2) = (t1 : Int) + a2 := by rw [IntKind.wrap_i64]; omega
      have m4 : IntKind.i64.wrap ((ps.length : Int) - 1) = (ps.length : Int) - 1 := by rw [IntKind.wrap_i64]; omega
      have m5 : IntKind.i64.wrap (2 * ((ps.length : Int) - 1)) = b2 := by rw [← hb2, IntKind.wrap_i64]; omega
      have m6 : IntKind.i64.wrap (b2 * lg) = b3 := by rw [← hb3, IntKind.wrap_i64]; omega
      have m7 : IntKind.i64.wrap ((t1 : Int) + b3) = (t1 : Int) + b3 := by rw [IntKind.wrap_i64]; omega
      have m8 : IntKind.i64.wrap (a1 * (ps.length : Int)) = g1 := by rw [← hg1, IntKind.wrap_i64]; omega
      have m9 : IntKind.i64.wrap (g1 * lg) = g2 := by rw [← hg2, IntKind.wrap_i64]; omega
      have m10 : IntKind.i64.wrap ((t1 : Int) + b3 + g2) = (t1 : Int) + b3 + g2 := by rw [IntKind.wrap_i64]; omega
      have d1' : decide (u < (t1 : Int) + a2) = false := decide_eq_false (by omega)
      have d2' : decide (u > (t1 : Int) + b3 + g2) = false := decide_eq_false (by omega)
      have d2'' : decide ((t1 : Int) + b3 + g2 < u) = false := decide_eq_false (by omega)
      clear hbr hDr hu hn ha1 ha2 hb2 hb3 hg1 hg2 lo hi
      go_wp2_with fail
      refine HUK.out.mono ?_
      rintro e w2 ⟨rfl, hb2⟩
      have hD2 : BdAt w2 w.heap.size t0 t1 d0 d1 := World.rowIs.of_block HDR.out (hb2.block _ (World.rowIs.lt HDR.out))
      clear c0 c1 c2 c3
      obtain ⟨c0, c1, c2, c3⟩ := hD2.cells
      have HB2 : Hid (Below w1.heap.size w1 w2) := hide (HBR.out.trans (hb2.mono HBR.out.size))
      have HBW2 : Hid (Below w.heap.size w w2) := hide (HBW.out.trans (hb2.mono HBW.out.size))
      clear hD2 hb2 HUK HDR
      by_cases huH : u ≤ H
      · have d3 : decide (u ≤ H) = true := decide_eq_true huH
        have d4 : decide (u > H) = false := decide_eq_false (by omega)
        have HSS := hide (HS.out huH)
        clear huH HS
        go_wp2
        go_loopw [17] (fun vi wx => ∃ i : Nat, i ≤ ps.length ∧ vi = .int .i64 i ∧ Below w2.heap.size w2 wx) (fun vi _ => ps.length - (intOf vi).toNat)
        case atStart => exact ⟨0, Nat.zero_le _, rfl, Below.refl _ _⟩
        case round =>
          obtain ⟨i, hi, rfl, hbx⟩ := hrel
          have HBX := hide hbx
          have HBXW : Hid (Below w.heap.size w wr) := hide (HBW2.out.trans (hbx.mono HBW2.out.size))
          have HBX1 : Hid (Below w1.heap.size w1 wr) := hide (HB2.out.trans (hbx.mono HB2.out.size))
          by_cases hil : i < ps.length
          · obtain ⟨b, o, rfl, hb, hcell⟩ := HCP.out (by rw [List.length_map]; omega)
            have x0 := hcell i (by rw [List.length_map]; exact hil)
            rw [List.getElem_map] at x0
            rw [← HBXW.out.cell (p := ⟨b, o + i, none⟩) hb] at x0
            obtain ⟨s1, s2⟩ := HSS.out i hil
            have HSP := hide (kstep_any wr _ P (HE.out.below HBXW.out) hPl ((ps[i] : Nat) : Int) k hkl)
            generalize stepT ((ps[i] : Nat) : Int) k P 0 = at0 at *
            generalize ps[i] = p at *
            have q1 : decide (at0 < 0) = false := decide_eq_false (by omega)
            have q2 : decide (at0 > u) = false := decide_eq_false (by omega)
            have j3 : (0 : Int) ≤ (i : Int) := by omega
            have j4 : (i : Int) < (ps.length : Int) := by omega
            clear hcell hbx
            go_wp2_with fail
            refine HSP.out.mono ?_
            rintro e w3 ⟨rfl, hb3⟩
            have HB3 := hide (HBX.out.trans (hb3.mono HBX.out.size))
            clear hb3 HSP x0
            go_wp2
            go_roundw
            case rel => exact ⟨i + 1, by omega, by go_num, HB3.out⟩
            case measure => simp [intOf]; omega
          · have ei : i = ps.length := by omega
            subst ei
            clear hbx
            go_wp2
            go_roundw
            case rel => exact ⟨k + 1, by omega, by go_num, HBX1.out⟩
            case measure => simp [intOf]; omega
      · have d3 : decide (u ≤ H) = false := decide_eq_false huH
        have d4 : decide (u > H) = true := decide_eq_true (by omega)
        have pp : (0 : Int) < (ps.length : Int) := by omega
        clear huH HS
        go_wp2
        go_loopw [17] (fun vi wx => vi = .int .i64 0 ∧ wx = w2) (fun vi _ => 0)
        case atStart => exact ⟨rfl, rfl⟩
        case round =>
          obtain ⟨rfl, rfl⟩ := hrel
          go_wp2
          go_ret
          exact ⟨rfl, HBW2.out⟩
    · have ek : k = 201 := by omega
      subst ek
      clear hbr
      go_wp2
      go_ret
      exact ⟨rfl, HBW.out⟩
theorem used_nd (ws : List Nat) (k : Nat) : (usedK ws k).Nodup := List.Pairwise.filter _ List.nodup_range
theorem made_ok {s : ByteArray} {L : List Dl} (ht : (textF s).1 = 0) (hG : RGood s L) (hO : ROk (toks s) L) {b : BdF} (hf : fitF b = true) (hb : 1 ≤ b.tmin ∧ b.tmin ≤ b.tmax ∧ b.tmax ≤ 1000000 ∧ 0 ≤ b.dmin ∧ b.dmin ≤ b.dmax ∧ b.dmax < b.tmin) {sc : List OpF} (hn : sc.length ≤ 400) {f f' : Int → Int} (hr : ∀ q ∈ usedR (toks s) L, 0 ≤ f (q : Int) ∧ f (q : Int) ≤ b.tmax) (hR : RegT b ((usedR (toks s) L).map fun (q : Nat) => (q : Int)) f sc f') (hne : usedR (toks s) L ≠ []) (ins : List (List Int)) :
    validF (toks s) L b sc = 0 ∧ runE s sc = 0 ∧ (∀ k : Nat, k ≤ 200 → b.tmax + 2 * (k : Int) * (b.tmax + b.dmax) ≤ latM (waitsL s L) b k ∧ latM (waitsL s L) b k ≤ b.tmax + 2 * (((usedR (toks s) L).length : Int) - 1) * (b.tmax + b.dmax) + 2 * (k : Int) * ((usedR (toks s) L).length : Int) * (b.tmax + b.dmax)) ∧
    (∀ k : Nat, k ≤ 200 → latM (waitsL s L) b k ≤ horF sc ((usedR (toks s) L).map fun (q : Nat) => (q : Int)) → ∀ i, (h : i < (usedR (toks s) L).length) → 0 ≤ stepT (((usedR (toks s) L)[i] : Nat) : Int) k (runG (netR (toks s) L) (valsR (toks s) L ins) [] sc) 0 ∧ stepT (((usedR (toks s) L)[i] : Nat) : Int) k (runG (netR (toks s) L) (valsR (toks s) L ins) [] sc) 0 ≤ latM (waitsL s L) b k) := by
  have hpl : ∀ x ∈ eqL L, placeD (toks s) x < 4 := fun x hx => (hO.eq hx).2.2.2.2
  have hA := RegT.toA _ _ _ hR
  obtain ⟨hact, hvld⟩ := reg_ok (ts := toks s) (L := L) hb (fun q hq => by
    obtain ⟨q', hq', rfl⟩ := List.mem_map.1 hq
    exact hr q' hq') (fun q hq => by
    obtain ⟨q', hq', rfl⟩ := List.mem_map.1 hq
    exact used_at hq') hn hA
  have hplay : playF (toks s) L sc = true := (play_iff _ _ _).2 ⟨hn, hact⟩
  refine ⟨?_, ?_, fun k hk => ?_, fun k hk hh i hi => ?_⟩
  · unfold validF
    rw [if_neg (by rw [hf]; simp), if_pos ⟨hplay, fun i hi => (badV_iff b sc hi).2 (hvld i hi)⟩]
  · unfold runE
    rw [if_neg (by simpa using ht), seats_text hG.sp]
    have : playK ((eqL L).map (placeD (toks s))) sc = true := by
      rw [show (eqL L).map (placeD (toks s)) = plR (toks s) L from rfl, playK_eq]; exact hplay
    rw [this]
    rfl
  · exact lat_between hG.lp hpl ⟨hb.1, hb.2.1, hb.2.2.2.1, hb.2.2.2.2.1⟩ hne k
  · exact calm_step hG.lp hpl ⟨hb.1, hb.2.1, hb.2.2.2.1, hb.2.2.2.2.1⟩ hact hvld k hh (List.getElem_mem hi)
set_option maxHeartbeats 8000000 in
set_option maxRecDepth 100000 in
theorem calmed_any (s : ByteArray) (hs : s.size ≤ 1048576) (w : World) (vX : Value) (ins : List (List Int)) (hX : LsAt w vX ins) (a b c d : Int) (ha : -9223372036854775808 ≤ a ∧ a ≤ 9223372036854775807) (hb : -9223372036854775808 ≤ b ∧ b ≤ 9223372036854775807) (hc : -9223372036854775808 ≤ c ∧ c ≤ 9223372036854775807) (hd : -9223372036854775808 ≤ d ∧ d ≤ 9223372036854775807)
    (vl : Value) (l : List Int) (hl : RowAt w vl l) (hlr : ∀ x ∈ l, -9223372036854775808 ≤ x ∧ x ≤ 9223372036854775807) (n0 : Int) (hn0 : -9223372036854775808 ≤ n0 ∧ n0 ≤ 9223372036854775807) :
    Calls Try.prog 7 #[.string s, vX, .int .i64 a, .int .i64 b, .int .i64 c, .int .i64 d, vl, .int .i64 n0] w fun e w' => e = .returned (.bool true) ∧ Below w.heap.size w w' := by
  have hsm : s.size ≤ maxLen := by unfold maxLen; omega
  have HX := hide hX
  have HL := hide hl
  have HLR := hide hlr
  obtain ⟨⟨f1, f2⟩, ⟨f3, f4⟩, f5, f6⟩ := bnd_fit a b c d
  have HBD := hide (fun W => bounds_any a b c d ha hb hc hd W)
  have HPK := hide (fun W => pick_any n0 401 W hn0.1 hn0.2 (by omega) (by omega))
  have HPL := pickN_lt n0 (m := 401) (by omega)
  have HBF : Hid ((bndF a b c d) = ⟨(bnd0 a : Int), (bnd1 a b : Int), (bnd2 a c d : Int), (bnd3 a c : Int)⟩) := hide rfl
  generalize bndF a b c d = bf at *
  generalize pickN n0 401 = n at *
  obtain ⟨t0, ht0⟩ : ∃ t0, t0 = bnd0 a := ⟨_, rfl⟩
  obtain ⟨t1, ht1⟩ : ∃ t1, t1 = bnd1 a b := ⟨_, rfl⟩
  obtain ⟨d0, hd0⟩ : ∃ d0, d0 = bnd2 a c d := ⟨_, rfl⟩
  obtain ⟨d1, hd1⟩ : ∃ d1, d1 = bnd3 a c := ⟨_, rfl⟩
  rw [← ht0, ← ht1, ← hd0, ← hd1] at HBF
  rw [← ht0] at f1 f2 f3 f6
  rw [← ht1] at f3 f4
  rw [← hd0] at f5
  rw [← hd1] at f5 f6
  rw [HBF.out] at HBD
  have HFIT : Hid (fitF ⟨(t0 : Int), (t1 : Int), (d0 : Int), (d1 : Int)⟩ = true) := hide (by
    unfold fitF
    simp only [Bool.and_eq_true, Bool.not_eq_true', decide_eq_false_iff_not, decide_eq_true_eq]
    omega)
  have hn400 : n ≤ 400 := by omega
  obtain ⟨aX, cX, rfl, _, _⟩ := hX
  obtain ⟨al, cl, rfl, _, _⟩ := hl
  clear ha hb hc hd hn0 hlr ht0 ht1 hd0 hd1 HPL HBF
  go_enter Try.func7, Try.ntmps7
  go_wp2_with fail
  refine (answers_any w).mono ?_
  rintro e w1 ⟨rfl, hb1⟩
  have HW1 := hide hb1
  clear hb1
  go_wp2_with fail
  refine (check_all s w1 hsm).mono ?_
  rintro e w2 ⟨rfl, hb2⟩
  have HW2 : Hid (Below w.heap.size w w2) := hide (HW1.out.trans (hb2.mono HW1.out.size))
  clear hb2
  go_wp2_with fail
  refine (used_any s w2 hs).mono ?_
  rintro e w3 ⟨vP, rfl, hown, hb3⟩
  have HW3 : Hid (Below w.heap.size w w3) := hide (HW2.out.trans (hb3.mono HW2.out.size))
  have hul := usedK_len (seatsF s) 4
  have HRP := hide (pc_row hown (by omega))
  obtain ⟨aP, cP, rfl, _⟩ := own_shape hown
  clear hown hb3
  by_cases h0 : (textF s).1 = 0
  · obtain ⟨L, hG, hR, hO⟩ := good_text h0
    have hst : seatsF s = plR (toks s) L := seats_text hG.sp
    have hND := used_nd (seatsF s) 4
    have HMO := hide (fun sc hn f f' h1 h2 h3 => made_ok h0 hG hO HFIT.out (by show 1 ≤ (t0 : Int) ∧ (t0 : Int) ≤ (t1 : Int) ∧ (t1 : Int) ≤ 1000000 ∧ 0 ≤ (d0 : Int) ∧ (d0 : Int) ≤ (d1 : Int) ∧ (d1 : Int) < (t0 : Int); omega) (sc := sc) hn (f := f) (f' := f') h1 h2 h3 ins)
    have hU : usedK (seatsF s) 4 = usedR (toks s) L := by rw [hst]; rfl
    rw [hU] at HRP hul hND ⊢
    clear hU
    obtain ⟨ps, hps⟩ : ∃ ps, ps = usedR (toks s) L := ⟨_, rfl⟩
    rw [← hps] at HMO HRP hul hND ⊢
    have HND := hide hND
    have HG := hide hG
    have HR := hide hR
    have HO := hide hO
    have H0 := hide h0
    rw [h0]
    by_cases hp0 : ps.length = 0
    · rw [hp0]
      clear h0 hG hR hO hst hps hND
      go_wp2
      go_ret
      exact ⟨rfl, HW3.out⟩
    · have pp : ((ps.length : Int) == 0) = false := by rw [beq_eq_false_iff_ne]; omega
      clear h0 hG hR hO hst hps hND
      go_wp2_with fail
      refine (HBD.out w3).mono ?_
      rintro e w4 ⟨rfl, hb4⟩
      have HW4 : Hid (Below w.heap.size w w4) := hide (HW3.out.trans (hb4.mono HW3.out.size))
      have HW34 := hide hb4
      obtain ⟨wB, hwB⟩ : ∃ wB, wB = w4.alloc (.cells #[.int .i64 (t0 : Int), .int .i64 (t1 : Int), .int .i64 (d0 : Int), .int .i64 (d1 : Int)] 23) := ⟨_, rfl⟩
      have HDB : Hid (BdAt wB w4.heap.size t0 t1 d0 d1) := hide (by rw [hwB]; exact BdAt.boxed w4 _ _ _ _)
      have HBB : Hid (Below w4.heap.size w4 wB) := hide (by rw [hwB]; exact (Below.refl _ _).alloc (Nat.le_refl _) _)
      have HWB := hide hwB
      obtain ⟨c0, c1, c2, c3⟩ := HDB.out.cells
      have HWw : Hid (Below w.heap.size w wB) := hide (HW4.out.trans (HBB.out.mono HW4.out.size))
      clear hb4 hwB
      go_wp2_with fail
      rw [← HWB.out]
      refine (HPK.out wB).mono ?_
      rintro e wx ⟨rfl, rfl⟩
      go_wp2_with fail
      refine (regular_any wB _ ps (HRP.out.below (HW34.out.trans (HBB.out.mono HW34.out.size))) (by omega) hul HND.out t0 t1 d0 d1 ⟨f1, f3, f4, f5, f6⟩ _ l (HL.out.below HWw.out) HLR.out n hn400).mono ?_
      rintro e w5 ⟨vS, rfl, sc, hsn, hown, ⟨f, f', hfr, hrt⟩, hb5⟩
      have hsc4 : sc.length ≤ 400 := by omega
      have HOPS := hide (ops_own hown hsc4)
      obtain ⟨aS, cS, rfl, _⟩ := own_shape hown
      have hpne : ps ≠ [] := fun e => by rw [e] at hp0; exact hp0 rfl
      obtain ⟨g1, g2, g3, g4⟩ := HMO.out sc hsc4 f f' (fun q hq => hfr q hq) hrt hpne
      have HB5 := hide hb5
      have HW5 : Hid (Below w.heap.size w w5) := hide (HWw.out.trans (hb5.mono HWw.out.size))
      have hD5 : BdAt w5 w4.heap.size t0 t1 d0 d1 := World.rowIs.of_block HDB.out (hb5.block _ (World.rowIs.lt HDB.out))
      have HD5 := hide hD5
      clear c0 c1 c2 c3
      obtain ⟨c0, c1, c2, c3⟩ := hD5.cells
      have HV : Hid (∀ W, OpsAt W (.slice aS sc.length cS) sc → Calls Try.prog 29 #[.string s, .agg #[.int .i64 (t0 : Int), .int .i64 (t1 : Int), .int .i64 (d0 : Int), .int .i64 (d1 : Int)], .slice aS sc.length cS] W fun e w' => e = .returned (.int .i64 0) ∧ Below W.heap.size W w') := hide (fun W hW => (pvalid_any s hsm ⟨(t0 : Int), (t1 : Int), (d0 : Int), (d1 : Int)⟩ _ sc W hW).mono (fun e w' ⟨m, h1, h2, h3⟩ => by
        unfold ValQ at h2
        rw [if_neg (by simpa using H0.out)] at h2
        have := h2 L HG.out HO.out
        rw [g1] at this
        rw [this] at h1
        exact ⟨h1, h3⟩))
      have HRN : Hid (∀ W, LsAt W (.slice aX ins.length cX) ins → OpsAt W (.slice aS sc.length cS) sc → Calls Try.prog 20 #[.string s, .slice aX ins.length cX, .slice aS sc.length cS] W fun e w' => ∃ v, e = .returned (.tuple #[v, .int .i64 0]) ∧ EvSn w' v (runG (netR (toks s) L) (valsR (toks s) L ins) [] sc) ∧ Below W.heap.size W w') := hide (fun W hXW hSW => (prun_any s hsm W _ ins hXW _ sc hSW).mono (fun e w' ⟨v, h1, h2, h3⟩ => by
        rw [g2] at h1
        unfold RunQ at h2
        rw [if_pos g2] at h2
        obtain ⟨TV, VV, hE⟩ := h2 L HG.out HR.out
        exact ⟨v, h1, evSn_of hE, h3⟩))
      have HLT : Hid (∀ k : Nat, k ≤ 200 → ∀ W, Calls Try.prog 8 #[.string s, .agg #[.int .i64 (t0 : Int), .int .i64 (t1 : Int), .int .i64 (d0 : Int), .int .i64 (d1 : Int)], .int .i64 (k : Int)] W fun e w' => e = .returned (.tuple #[.int .i64 (latM (waitsL s L) ⟨(t0 : Int), (t1 : Int), (d0 : Int), (d1 : Int)⟩ k), .int .i64 0]) ∧ Below W.heap.size W w') := hide (fun k hk W => (platest_any s hsm ⟨(t0 : Int), (t1 : Int), (d0 : Int), (d1 : Int)⟩ (k : Int) W).mono (fun e w' ⟨t, h1, h2, h3⟩ => by
        have h0 : latE s ⟨(t0 : Int), (t1 : Int), (d0 : Int), (d1 : Int)⟩ (k : Int) = 0 := by
          unfold latE
          rw [if_neg (by simpa using H0.out), if_pos ⟨HFIT.out, by omega, by omega⟩]
        rw [h0] at h1
        unfold LatQ at h2
        rw [if_pos h0] at h2
        rw [h2 L HG.out HO.out] at h1
        exact ⟨h1, h3⟩))
      have hPl : (runG (netR (toks s) L) (valsR (toks s) L ins) [] sc).length = sc.length := by
        obtain ⟨S0, h1, h2, _⟩ := run_ext (netR (toks s) L) (valsR (toks s) L ins) sc []
        rw [h1, List.nil_append, ← h2, List.length_map]
      generalize runG (netR (toks s) L) (valsR (toks s) L ins) [] sc = P at *
      have HCM := hide (fun W hP hS vE hE => calm_any s W (.slice aP ps.length cP) ps hP (by omega) hul t0 t1 d0 d1 ⟨f4, by omega⟩ (.slice aS sc.length cS) sc hS vE P hE (by omega) _ HLT.out g3 g4)
      have HPL := hide hPl
      clear hown hfr hrt g1 g2 g3 g4 hb5 hD5 hsn hpne HLT hPl HMO
      go_wp2_with fail
      refine (HV.out w5 HOPS.out).mono ?_
      rintro e w6 ⟨rfl, hb6⟩
      have HB6 := hide hb6
      have HW6 : Hid (Below w.heap.size w w6) := hide (HW5.out.trans (hb6.mono HW5.out.size))
      have hD6 : BdAt w6 w4.heap.size t0 t1 d0 d1 := World.rowIs.of_block HD5.out (hb6.block _ (World.rowIs.lt HD5.out))
      have HD6 := hide hD6
      clear hb6 hD6 c0 c1 c2 c3 HV
      go_wp2_with fail
      refine (HRN.out w6 (HX.out.below HW6.out) (HOPS.out.below HB6.out)).mono ?_
      rintro e w7 ⟨vE, rfl, hE, hb7⟩
      have HE := hide hE
      obtain ⟨aE, cE, rfl, _⟩ := hE
      have HB7 := hide hb7
      have HW7 : Hid (Below w.heap.size w w7) := hide (HW6.out.trans (hb7.mono HW6.out.size))
      have hD7 : BdAt w7 w4.heap.size t0 t1 d0 d1 := World.rowIs.of_block HD6.out (hb7.block _ (World.rowIs.lt HD6.out))
      obtain ⟨c0, c1, c2, c3⟩ := hD7.cells
      have HB37 : Hid (Below w3.heap.size w3 w7) := hide (((HW34.out.trans (HBB.out.mono HW34.out.size)).trans (HB5.out.mono (by have := HW34.out.size; have := HBB.out.size; omega))).trans ((HB6.out.trans (HB7.out.mono HB6.out.size)).mono (by have := HW34.out.size; have := HBB.out.size; have := HB5.out.size; omega)))
      have HCC := hide (HCM.out w7 (HRP.out.below HB37.out) ((HOPS.out.below HB6.out).below HB7.out) _ HE.out)
      rw [HPL.out] at HCC
      rw [HPL.out]
      have ee : ((sc.length : Int) != (sc.length : Int)) = false := by simp
      clear hb7 hD7 HRN HCM
      go_wp2_with fail
      refine HCC.out.mono ?_
      rintro e w8 ⟨rfl, hb8⟩
      have HW8 : Hid (Below w.heap.size w w8) := hide (HW7.out.trans (hb8.mono HW7.out.size))
      clear hb8
      go_wp2
      go_ret
      exact ⟨rfl, HW8.out⟩
  · have q1 : (((textF s).1 : Int) != 0) = true := by rw [bne_iff_ne]; omega
    generalize (textF s).1 = te at *
    go_wp2
    go_ret
    exact ⟨rfl, HW3.out⟩
end Go.Proofs.Ytmndgoapkmhglab
