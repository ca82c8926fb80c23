import Derived.Test.Ytmndgoapkmhglabc33AcA
namespace Go.Proofs.Ytmndgoapkmhglab
open Go.RowKit
attribute [local go_sem ↓] Go.wp_at_zero Go.wp_at_succ
theorem ahead_none {sc : List OpF} {i : Nat} (h : aheadP sc i = none) : aheadV sc i = .tuple #[.agg #[.int .i64 0, .int .i64 0, .int .i64 0, .int .i64 0], .bool false] := by unfold aheadV; rw [h]; rfl
theorem ahead_at {sc : List OpF} {i k : Nat} (h : aheadP sc i = some k) : aheadV sc i = .tuple #[.agg #[.int .i64 (actF sc k).k, .int .i64 (actF sc k).a, .int .i64 (actF sc k).b, .int .i64 (actF sc k).c], .bool true] := by unfold aheadV; rw [h]; rfl
theorem act_cells {w wr : World} {B b o : Nat} {sc : List OpF} (hr : ∀ i, (h : i < sc.length) → w.cell? ⟨b, o + i * 4, none⟩ = some (.int .i64 sc[i].k) ∧ w.cell? ⟨b, o + i * 4 + 1, none⟩ = some (.int .i64 sc[i].a) ∧ w.cell? ⟨b, o + i * 4 + 2, none⟩ = some (.int .i64 sc[i].b) ∧ w.cell? ⟨b, o + i * 4 + 3, none⟩ = some (.int .i64 sc[i].c)) (hb : Below B w wr) (hB : b < B) {i : Nat} (hi : i < sc.length) :
    wr.cell? ⟨b, o + i * 4, none⟩ = some (.int .i64 (actF sc i).k) ∧ wr.cell? ⟨b, o + i * 4 + 1, none⟩ = some (.int .i64 (actF sc i).a) ∧ wr.cell? ⟨b, o + i * 4 + 2, none⟩ = some (.int .i64 (actF sc i).b) ∧ wr.cell? ⟨b, o + i * 4 + 3, none⟩ = some (.int .i64 (actF sc i).c) := by
  obtain ⟨x0, x1, x2, x3⟩ := hr i hi
  rw [actF_get hi] at x0 x1 x2 x3
  exact ⟨(hb.cell (p := ⟨b, o + i * 4, none⟩) hB).trans x0, (hb.cell (p := ⟨b, o + i * 4 + 1, none⟩) hB).trans x1, (hb.cell (p := ⟨b, o + i * 4 + 2, none⟩) hB).trans x2, (hb.cell (p := ⟨b, o + i * 4 + 3, none⟩) hB).trans x3⟩
theorem box_cells {w W : World} {a0 a1 a2 a3 : Value} {t : TypeId} (h : Below (w.heap.size + 1) (w.alloc (.cells #[a0, a1, a2, a3] t)) W) : W.cell? ⟨w.heap.size, 0, none⟩ = some a0 ∧ W.cell? ⟨w.heap.size, 1, none⟩ = some a1 ∧ W.cell? ⟨w.heap.size, 2, none⟩ = some a2 ∧ W.cell? ⟨w.heap.size, 3, none⟩ = some a3 := by
  have hy : W.heap[w.heap.size]? = some (.cells #[a0, a1, a2, a3] t (0, 0)) := by
    rw [h.block _ (by omega)]; exact heap_alloc_new _ _
  refine ⟨?_, ?_, ?_, ?_⟩ <;> (rw [cell_of_row _ _ _ _ _ _ hy]; rfl)
set_option maxHeartbeats 2000000 in
set_option maxRecDepth 100000 in
theorem papart_any (w : World) (v : Value) (sc : List OpF) (h : OpsAt w v sc) (ht : ∀ i, i < sc.length → 0 ≤ (actF sc i).a ∧ (actF sc i).a ≤ 1099511627776) :
    Calls Try.prog 75 #[v] w fun e w' => e = .returned (.bool ((List.range sc.length).all (apartA sc))) ∧ Below w.heap.size w w' := by
  have HS := hide h
  have HT := hide ht
  obtain ⟨A, C, rfl, hm, hc⟩ := h
  have HA := hide hc
  clear hc ht
  go_enter Try.func75, Try.ntmps75
  go_wp2
  go_loopw [9] (fun vi wr => ∃ i : Nat, i ≤ sc.length ∧ vi = .int .i64 i ∧ Below w.heap.size w wr ∧ (List.range i).all (apartA sc) = true) (fun vi _ => sc.length - (intOf vi).toNat)
  case atStart => exact ⟨0, Nat.zero_le _, rfl, Below.refl _ _, rfl⟩
  case round =>
    obtain ⟨i, hi, rfl, hbr, hall⟩ := hrel
    have HAL := hide hall
    clear hall
    by_cases hil : i < sc.length
    · obtain ⟨b, o, rfl, hb, hr⟩ := HA.out (by omega)
      obtain ⟨x0, x1, x2, x3⟩ := act_cells hr hbr hb hil
      have j3 : (0 : Int) ≤ (i : Int) := by omega
      have j4 : (i : Int) < (sc.length : Int) := by omega
      have HBR := hide hbr
      have HAI : Hid (apartA sc i = match aheadP sc i with | none => true | some k => bothB (actF sc k) 0 ((actF sc i).a - (actF sc k).a - 1)) := hide rfl
      clear hr hbr
      go_wp2_with fail
      have HBX : Hid (Below w.heap.size w (wr.alloc (.cells #[.int .i64 (actF sc i).k, .int .i64 (actF sc i).a, .int .i64 (actF sc i).b, .int .i64 (actF sc i).c] 43))) := hide (HBR.out.alloc HBR.out.size _)
      refine (pahead_any _ _ sc (HS.out.below HBX.out) i hil).mono ?_
      rintro e w1 ⟨rfl, hb1⟩
      have c1 : ∀ u, (w1.alloc u).cell? ⟨wr.heap.size, 1, none⟩ = some (.int .i64 (actF sc i).a) := fun u => (box_cells (by simpa using hb1.alloc (by simpa using hb1.size) u)).2.1
      have HB1 : Hid (Below w.heap.size w w1) := hide (HBX.out.trans (hb1.mono HBX.out.size))
      clear hb1 x0 x1 x2 x3
      cases hc : aheadP sc i with
      | none =>
        rw [ahead_none hc]
        have HT2 : Hid (apartA sc i = true) := hide (by rw [HAI.out, hc])
        clear hc
        go_wp2
        go_roundw
        case rel => exact ⟨i + 1, by omega, by go_num, HB1.out.alloc HB1.out.size _, all_step HAL.out HT2.out⟩
        case measure => simp [intOf]; omega
      | some k =>
        rw [ahead_at hc]
        have g1 := (aheadG_some hc).1
        have t1 := HT.out i hil
        have t2 := HT.out k (by omega)
        have HT2 : Hid (apartA sc i = bothB (actF sc k) 0 ((actF sc i).a - (actF sc k).a - 1)) := hide (by rw [HAI.out, hc])
        clear hc HAI
        generalize actF sc k = ak at *
        have hw1 : IntKind.i64.wrap ((actF sc i).a - ak.a) = (actF sc i).a - ak.a := by rw [IntKind.wrap_i64]; omega
        have hw2 : IntKind.i64.wrap ((actF sc i).a - ak.a - 1) = (actF sc i).a - ak.a - 1 := by rw [IntKind.wrap_i64]; omega
        generalize (actF sc i).a = ai at *
        obtain ⟨a0, a1, a2, a3⟩ := ak
        simp only [] at hw1 hw2
        clear t1 t2
        go_wp2_with fail
        refine (pboth_any ⟨a0, a1, a2, a3⟩ 0 (ai - a1 - 1) _).mono ?_
        rintro e w2 ⟨rfl, hb2⟩
        have HB2 : Hid (Below w.heap.size w w2) := hide ((HB1.out.alloc HB1.out.size _).trans (hb2.mono (by have := HB1.out.size; simp; omega)))
        rw [← show apartA sc i = bothB ⟨a0, a1, a2, a3⟩ 0 (ai - a1 - 1) from HT2.out]
        clear hb2 HT2 c1
        cases hp : apartA sc i with
        | false =>
          have HF : Hid ((List.range sc.length).all (apartA sc) = false) := hide (all_fail hil hp)
          clear hp
          go_wp2
          go_ret
          exact ⟨by rw [HF.out]; rfl, HB2.out⟩
        | true =>
          have HF : Hid ((List.range (i + 1)).all (apartA sc) = true) := hide (all_step HAL.out hp)
          clear hp
          go_wp2
          go_roundw
          case rel => exact ⟨i + 1, by omega, by go_num, HB2.out, HF.out⟩
          case measure => simp [intOf]; omega
    · have ek : i = sc.length := by omega
      subst ek
      go_wp2
      go_ret
      exact ⟨by rw [HAL.out]; rfl, hbr⟩
set_option maxHeartbeats 2000000 in
set_option maxRecDepth 100000 in
theorem pplayable_any (w : World) (q : Nat) (ds : List Dc) (ns : List Nd) (vd vn : Value) (h : ProgAt w q ds ns vd vn) (hdl : ds.length ≤ 1501) (v : Value) (sc : List OpF) (hs : OpsAt w v sc) :
    Calls Try.prog 47 #[.pointer (some ⟨q, 0, none⟩), v] w fun e w' => e = .returned (.bool (playP ((eqsF ds).map Dc.place) sc)) ∧ Below w.heap.size w w' := by
  have HS := hide hs
  have HP := hide h
  obtain ⟨A, C, rfl, hm, hc⟩ := hs
  by_cases h4 : sc.length ≤ 400
  · have z0 : ¬ (sc.length : Int) > 400 := by omega
    obtain ⟨ws, hws⟩ : ∃ ws, ws = (eqsF ds).map Dc.place := ⟨_, rfl⟩
    have HPL : Hid (playP ws sc = ((List.range sc.length).all (okA ws sc) && (List.range sc.length).all (apartA sc))) := hide (by unfold playP; rw [decide_eq_true h4, Bool.true_and])
    have hel : (eqsF ds).length ≤ 1501 := Nat.le_trans (List.length_filter_le _ _) hdl
    have HA := hide hc
    have HWS := hide hws
    rw [← hws]
    clear hc h hws
    go_enter Try.func47, Try.ntmps47
    go_wp2_with fail
    refine (equations_any w q ds ns vd vn HP.out hdl).mono ?_
    rintro e w0 ⟨ve, rfl, he, hb0⟩
    have HE := hide he
    have HB0 := hide hb0
    clear he hb0
    go_wp2
    go_loopw [6, 16] (fun vl vi wr => ∃ i : Nat, i ≤ sc.length ∧ vi = .int .i64 i ∧ vl = .int .i64 (lastP sc i) ∧ Below w0.heap.size w0 wr ∧ (List.range i).all (okA ws sc) = true) (fun _ vi _ => sc.length - (intOf vi).toNat)
    case atStart => exact ⟨0, Nat.zero_le _, rfl, rfl, Below.refl _ _, rfl⟩
    case round =>
      obtain ⟨i, hi, rfl, rfl, hbr, hall⟩ := hrel
      have HAL := hide hall
      have HBR := hide hbr
      have HWR : Hid (Below w.heap.size w wr) := hide (HB0.out.trans (hbr.mono HB0.out.size))
      clear hall hbr
      by_cases hil : i < sc.length
      · obtain ⟨b, o, rfl, hb, hr⟩ := HA.out (by omega)
        obtain ⟨x0, x1, x2, x3⟩ := act_cells hr HWR.out hb hil
        have j3 : (0 : Int) ≤ (i : Int) := by omega
        have j4 : (i : Int) < (sc.length : Int) := by omega
        have HOK : Hid (okA ws sc i = (hereK ws (actF sc i).k && inB (actF sc i).a (lastP sc i) 1099511627776 && bothB (actF sc i) 0 1099511627776)) := hide rfl
        have HFL : Hid (okA ws sc i = false → playP ws sc = false) := hide (fun e => by rw [HPL.out, all_fail hil e, Bool.false_and])
        have HLS : Hid (lastP sc (i + 1) = (actF sc i).a) := hide rfl
        generalize lastP sc i = la at *
        clear hr
        have hbA : Below w0.heap.size w0 (wr.alloc (.cells #[.int .i64 (actF sc i).k, .int .i64 (actF sc i).a, .int .i64 (actF sc i).b, .int .i64 (actF sc i).c] 43)) := HBR.out.alloc HBR.out.size _
        have HBA := hide hbA
        have HPE := hide (fun W (hW : Below w0.heap.size w0 W) => ppeopled_any W ve (eqsF ds) _ (bel_own HE.out hW) hel (actF sc i).k)
        rw [← HWS.out] at HPE
        have HPW := hide (pwithin_any (actF sc i).a la 1099511627776)
        have HPB := hide (pboth_any (actF sc i) 0 1099511627776)
        generalize hereK ws (actF sc i).k = p1 at *
        generalize inB (actF sc i).a la 1099511627776 = p2 at *
        generalize bothB (actF sc i) 0 1099511627776 = p3 at *
        clear hbA
        go_wp2_with fail
        refine (HPE.out _ HBA.out).mono ?_
        rintro e w1 ⟨rfl, hb1⟩
        have hb1' : Below (wr.heap.size + 1) (wr.alloc (.cells #[.int .i64 (actF sc i).k, .int .i64 (actF sc i).a, .int .i64 (actF sc i).b, .int .i64 (actF sc i).c] 43)) w1 := by simpa using hb1
        have HB1' := hide hb1'
        obtain ⟨c0, c1, c2, c3⟩ := box_cells hb1'
        have HB1 : Hid (Below w0.heap.size w0 w1) := hide (HBA.out.trans (hb1.mono HBA.out.size))
        clear hb1 hb1' x0 x1 x2 x3
        cases p1 with
        | false =>
          have HF : Hid (playP ws sc = false) := hide (HFL.out (by rw [HOK.out]; rfl))
          clear HOK
          go_wp2
          go_ret
          exact ⟨by rw [HF.out]; rfl, HB0.out.trans (HB1.out.mono HB0.out.size)⟩
        | true =>
          go_wp2_with fail
          refine (HPW.out w1).mono ?_
          rintro e w2 ⟨rfl, hb2⟩
          obtain ⟨d0, d1, d2, d3⟩ := box_cells (HB1'.out.trans (hb2.mono (by simpa using HB1'.out.size)))
          have hb2' := HB1'.out.trans (hb2.mono (by simpa using HB1'.out.size))
          have HB2' := hide hb2'
          have HB2 : Hid (Below w0.heap.size w0 w2) := hide (HB1.out.trans (hb2.mono HB1.out.size))
          clear hb2 hb2' c0 c1 c2 c3
          cases p2 with
          | false =>
            have HF : Hid (playP ws sc = false) := hide (HFL.out (by rw [HOK.out]; rfl))
            clear HOK
            go_wp2
            go_ret
            exact ⟨by rw [HF.out]; rfl, HB0.out.trans (HB2.out.mono HB0.out.size)⟩
          | true =>
            go_wp2_with fail
            refine (HPB.out w2).mono ?_
            rintro e w3 ⟨rfl, hb3⟩
            obtain ⟨e0, e1, e2, e3⟩ := box_cells (HB2'.out.trans (hb3.mono (by simpa using HB2'.out.size)))
            have HB3 : Hid (Below w0.heap.size w0 w3) := hide (HB2.out.trans (hb3.mono HB2.out.size))
            clear hb3 d0 d1 d2 d3
            cases p3 with
            | false =>
              have HF : Hid (playP ws sc = false) := hide (HFL.out (by rw [HOK.out]; rfl))
              clear HOK
              go_wp2
              go_ret
              exact ⟨by rw [HF.out]; rfl, HB0.out.trans (HB3.out.mono HB0.out.size)⟩
            | true =>
              have HF : Hid (okA ws sc i = true) := hide (by rw [HOK.out]; rfl)
              clear HOK
              go_wp2
              go_roundw
              case rel => exact ⟨i + 1, by omega, by go_num, by rw [HLS.out], HB3.out, all_step HAL.out HF.out⟩
              case measure => simp [intOf]; omega
      · have ek : i = sc.length := by omega
        subst ek
        have HTM := hide (ok_time (all_iff.1 HAL.out))
        have HF : Hid (playP ws sc = (List.range sc.length).all (apartA sc)) := hide (by rw [HPL.out, HAL.out, Bool.true_and])
        generalize (lastP sc sc.length) = la at *
        go_wp2_with fail
        refine (papart_any wr _ sc (HS.out.below HWR.out) HTM.out).mono ?_
        rintro e w1 ⟨rfl, hb1⟩
        rw [← HF.out]
        have HB1 : Hid (Below w.heap.size w w1) := hide (HWR.out.trans (hb1.mono HWR.out.size))
        obtain ⟨pp, hpp⟩ : ∃ pp, pp = playP ws sc := ⟨_, rfl⟩
        have HPP := hide hpp
        rw [← hpp]
        clear hb1 HF hpp
        go_wp2
        go_ret
        exact ⟨by rw [← HPP.out]; rfl, HB1.out⟩
  · have z0 : (sc.length : Int) > 400 := by omega
    have HF : Hid (playP ((eqsF ds).map Dc.place) sc = false) := hide (by unfold playP; rw [decide_eq_false h4]; rfl)
    clear hc h
    go_enter Try.func47, Try.ntmps47
    go_wp2
    go_ret
    exact ⟨by rw [HF.out]; rfl, Below.refl _ _⟩
end Go.Proofs.Ytmndgoapkmhglab
