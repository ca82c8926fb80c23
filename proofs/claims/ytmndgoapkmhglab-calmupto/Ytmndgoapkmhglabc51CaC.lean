import Derived.Deep.RegionHeld3
import Derived.Test.Ytmndgoapkmhglabc11RefHa
import Derived.Test.Ytmndgoapkmhglabc13RefI
import Derived.Test.Ytmndgoapkmhglabc50CaB
namespace Go.Proofs.Ytmndgoapkmhglab
open Go.RowKit
attribute [local go_sem ↓] Go.wp_at_zero Go.wp_at_succ
theorem Try.infoActC : (Try.prog.info? 43).map (fun i => (i.zero, i.size, i.bytes)) = some (some (.agg #[.int .i64 0, .int .i64 0, .int .i64 0, .int .i64 0]), 4, 32) := by kernel_rfl
theorem nd_inj {ps : List Nat} (h : ps.Nodup) {i j : Nat} (hi : i < ps.length) (hj : j < ps.length) (e : ps[i] = ps[j]) : i = j := by
  rcases Nat.lt_trichotomy i j with h1 | h1 | h1
  · exact absurd e ((List.pairwise_iff_getElem.1 h) i j hi hj h1)
  · exact h1
  · exact absurd e.symm ((List.pairwise_iff_getElem.1 h) j i hj hi h1)
theorem time_of {ps : List Nat} (h : ps.Nodup) (W : Nat → Int) : ∃ f : Int → Int, ∀ j, (hj : j < ps.length) → f ((ps[j] : Nat) : Int) = W j := by
  refine ⟨fun q => if hq : ∃ j, ∃ hj : j < ps.length, ((ps[j] : Nat) : Int) = q then W hq.choose else 0, fun j hj => ?_⟩
  have hq : ∃ j', ∃ hj' : j' < ps.length, ((ps[j'] : Nat) : Int) = ((ps[j] : Nat) : Int) := ⟨j, hj, rfl⟩
  show (if hq : _ then _ else _) = _
  rw [dif_pos hq]
  obtain ⟨h1, h2⟩ := hq.choose_spec
  rw [nd_inj h h1 hj (by omega)]
theorem opCells_snoc (l : List OpF) (o : OpF) : opCells (l ++ [o]) = opCells l ++ [.int .i64 o.k, .int .i64 o.a, .int .i64 o.b, .int .i64 o.c] := by simp [opCells]
theorem ops_own {w : World} {B : Nat} {v : Value} {sc : List OpF} (h : w.ownsRow B 43 4 v sc.length (opCells sc)) (hn : sc.length ≤ 400) : OpsAt w v sc := by
  obtain ⟨a, c, rfl, hsh⟩ := own_shape h
  refine ⟨a, c, rfl, by omega, fun hp => ?_⟩
  obtain ⟨g, rfl, _, hg⟩ := hsh hp
  refine ⟨g, 0, rfl, hg, fun i hi => ?_⟩
  have hc : ∀ j, j < 4 → w.cell? ⟨g, i * 4 + j, none⟩ = ([Value.int .i64 sc[i].k, .int .i64 sc[i].a, .int .i64 sc[i].b, .int .i64 sc[i].c] : List Value)[j]? := fun j hj => by
    rw [h.cellAt (i * 4 + j) (by omega)]
    unfold opCells
    exact flat_get _ 4 (fun _ => rfl) sc i j hi hj
  rw [Nat.zero_add]
  exact ⟨hc 0 (by omega), hc 1 (by omega), hc 2 (by omega), hc 3 (by omega)⟩
def RegQ (w w' : World) (v : Value) (ps : List Nat) (t0 t1 d0 d1 n : Nat) : Prop := ∃ sc : List OpF, sc.length = n ∧ w'.ownsRow w.heap.size 43 4 v sc.length (opCells sc) ∧ (∃ f f' : Int → Int, (∀ q ∈ ps, 0 ≤ f (q : Int) ∧ f (q : Int) ≤ (t1 : Int)) ∧ RegT ⟨t0, t1, d0, d1⟩ (ps.map fun (q : Nat) => (q : Int)) f sc f') ∧ Below w.heap.size w w'
structure RegI (w wr : World) (v9 : Value) (ps : List Nat) (t0 t1 d0 d1 : Nat) (f : Int → Int) (sc : List OpF) (W : Nat → Int) : Prop where
  own : wr.ownsRow (w.heap.size + 2) 43 4 v9 sc.length (opCells sc)
  row : wr.rowIs (w.heap.size + 1) 3 ps.length (fun j => .int .i64 (W j))
  box : BdAt wr w.heap.size t0 t1 d0 d1
  bel : Below w.heap.size w wr
  size : w.heap.size + 2 ≤ wr.heap.size
  reg : ∃ f', RegT ⟨t0, t1, d0, d1⟩ (ps.map fun (q : Nat) => (q : Int)) f sc f' ∧ ∀ j, (hj : j < ps.length) → f' ((ps[j] : Nat) : Int) = W j
  rng : ∀ j, j < ps.length → 0 ≤ W j ∧ W j ≤ ((sc.length : Int) + 1) * 1000000
set_option maxHeartbeats 8000000 in
set_option maxRecDepth 100000 in
theorem regular_any (w : World) (vP : Value) (ps : List Nat) (hP : RowAt w vP (ps.map fun (q : Nat) => (q : Int))) (hp1 : 0 < ps.length) (hp4 : ps.length ≤ 4) (hnd : ps.Nodup) (t0 t1 d0 d1 : Nat) (ht : 1 ≤ t0 ∧ t0 ≤ t1 ∧ t1 ≤ 1000000 ∧ d0 ≤ d1 ∧ d1 < t0)
    (vl : Value) (l : List Int) (hl : RowAt w vl l) (hlr : ∀ x ∈ l, -9223372036854775808 ≤ x ∧ x ≤ 9223372036854775807) (n : Nat) (hn : n ≤ 400) :
    Calls Try.prog 28 #[vP, .agg #[.int .i64 (t0 : Int), .int .i64 (t1 : Int), .int .i64 (d0 : Int), .int .i64 (d1 : Int)], vl, .int .i64 (n : Int)] w fun e w' => ∃ v, e = .returned v ∧ RegQ w w' v ps t0 t1 d0 d1 n := by
  obtain ⟨i0, hi0, hz0, hz1, hz2⟩ := info_parts Try.infoActC
  have hmk := run_make_row' (P := Try.prog) 38 3 (.int .i64 0) 8 Try.underlying38 Try.infoInt rfl .i64 .i64 ps.length (by omega) (by omega)
  obtain ⟨ht1, ht2, ht3, ht4, ht5⟩ := ht
  have HL := hide hl
  have HLR := hide hlr
  have HND := hide hnd
  obtain ⟨aP, cP, rfl, _, hcP⟩ := hP
  rw [List.length_map] at *
  have HCP := hide hcP
  obtain ⟨al, cl, rfl, _, _⟩ := hl
  have HRAW := hide (fun W (hW : Below w.heap.size w W) k m hk hm hm' => raw_any W _ l (HL.out.below hW) hlr k m hk hm hm')
  clear hlr hnd hcP
  obtain ⟨w0, hw0⟩ : ∃ w0, w0 = w.alloc (.cells #[.int .i64 (t0 : Int), .int .i64 (t1 : Int), .int .i64 (d0 : Int), .int .i64 (d1 : Int)] 23) := ⟨_, rfl⟩
  obtain ⟨w1, hw1⟩ : ∃ w1, w1 = w0.alloc (.cells (madeCells #[.int .i64 0] ps.length) 3) := ⟨_, rfl⟩
  have hs0 : w0.heap.size = w.heap.size + 1 := by rw [hw0]; simp
  have hs1 : w1.heap.size = w.heap.size + 2 := by rw [hw1]; simp [hs0]
  have hD0 : BdAt w0 w.heap.size t0 t1 d0 d1 := by rw [hw0]; exact BdAt.boxed w _ _ _ _
  have hD1 : BdAt w1 w.heap.size t0 t1 d0 d1 := by rw [hw1]; exact World.rowIs.alloc hD0 _
  have hR1 : w1.rowIs (w.heap.size + 1) 3 ps.length (fun _ => .int .i64 0) := by
    have := World.rowIs_made w0 (.int .i64 0) ps.length 3
    rw [hs0] at this
    rw [hw1]; exact this
  have hB1 : Below w.heap.size w w1 := by rw [hw1, hw0]; exact ((Below.refl _ _).alloc (Nat.le_refl _) _).alloc (by simp) _
  have HW0 := hide hw0
  have HW1 := hide hw1
  have HS1 := hide hs1
  have HD1 := hide hD1
  have HR1 := hide hR1
  have HB1 := hide hB1
  clear hw0 hw1 hs0 hs1 hD0 hD1 hR1 hB1
  have e1 : IntKind.i64.wrap ((t1 : Int) + 1) = (t1 : Int) + 1 := by rw [IntKind.wrap_i64]; omega
  go_enter Try.func28, Try.ntmps28
  go_wp2
  rw [← HW0.out, ← HW1.out]
  go_loopw [11] (fun vi wr => ∃ i : Nat, i ≤ ps.length ∧ vi = .int .i64 i ∧ wr.rowIs (w.heap.size + 1) 3 ps.length (fun j => .int .i64 (if j < i then (rawN l j (t1 + 1) : Int) else 0)) ∧ BdAt wr w.heap.size t0 t1 d0 d1 ∧ Below w.heap.size w wr ∧ wr.heap.size = w.heap.size + 2) (fun vi _ => ps.length - (intOf vi).toNat)
  case atStart => exact ⟨0, Nat.zero_le _, rfl, HR1.out.congr (fun j _ => by simp), HD1.out, HB1.out, HS1.out⟩
  case round =>
    clear hmk
    obtain ⟨i, hi, rfl, hrow, hbd, hbr, hsz⟩ := hrel
    by_cases hil : i < ps.length
    · obtain ⟨x0, x1, x2, x3⟩ := hbd.cells
      have y0 := hrow.cell hil
      simp only [Nat.lt_irrefl, if_false] at y0
      have f0 := hrow.frozen i
      have HRW := hide (HRAW.out wr hbr i (t1 + 1) (by omega) (by omega) (by omega))
      have j3 : (0 : Int) ≤ (i : Int) := by omega
      have j4 : (i : Int) < (ps.length : Int) := by omega
      have HNX : Hid ((wr.setCell ⟨w.heap.size + 1, i, none⟩ (.int .i64 (rawN l i (t1 + 1) : Int))).rowIs (w.heap.size + 1) 3 ps.length (fun j => .int .i64 (if j < i + 1 then (rawN l j (t1 + 1) : Int) else 0)) ∧ BdAt (wr.setCell ⟨w.heap.size + 1, i, none⟩ (.int .i64 (rawN l i (t1 + 1) : Int))) w.heap.size t0 t1 d0 d1 ∧ Below w.heap.size w (wr.setCell ⟨w.heap.size + 1, i, none⟩ (.int .i64 (rawN l i (t1 + 1) : Int))) ∧ (wr.setCell ⟨w.heap.size + 1, i, none⟩ (.int .i64 (rawN l i (t1 + 1) : Int))).heap.size = w.heap.size + 2) := hide (by
        refine ⟨(hrow.set i _).congr (fun j _ => ?_), hbd.other _ (by show w.heap.size ≠ w.heap.size + 1; omega) _, hbr.setCell (by show w.heap.size ≤ w.heap.size + 1; omega) _, by simpa using hsz⟩
        by_cases e : j = i
        · subst e; rw [if_pos rfl, if_pos (by omega)]
        · rw [if_neg e]
          by_cases e2 : j < i
          · rw [if_pos e2, if_pos (by omega)]
          · rw [if_neg e2, if_neg (by omega)])
      generalize rawN l i (t1 + 1) = rv at *
      clear hrow hbd hbr hsz
      go_wp2_with fail
      refine HRW.out.mono ?_
      rintro e wx ⟨rfl, rfl⟩
      go_wp2
      go_roundw
      case rel => exact ⟨i + 1, by omega, by go_num, HNX.out.1, HNX.out.2.1, HNX.out.2.2.1, HNX.out.2.2.2⟩
      case measure => simp [intOf]; omega
    · have ei : i = ps.length := by omega
      subst ei
      obtain ⟨f, hf⟩ := time_of HND.out (fun j => (rawN l j (t1 + 1) : Int))
      have HF : Hid (∀ q ∈ ps, 0 ≤ f (q : Int) ∧ f (q : Int) ≤ (t1 : Int)) := hide (fun q hq => by
        obtain ⟨j, hj, rfl⟩ := List.getElem_of_mem hq
        rw [hf j hj]
        have := rawN_lt l j (n := t1 + 1) (by omega)
        omega)
      have HI : Hid (RegI w wr (.slice none 0 0) ps t0 t1 d0 d1 f [] (fun j => (rawN l j (t1 + 1) : Int))) := hide ⟨World.ownsRow_nil _ _ _ _, hrow.congr (fun j hj => by rw [if_pos hj]), hbd, hbr, by omega, ⟨f, rfl, hf⟩, fun j hj => by
        have := rawN_lt l j (n := t1 + 1) (by omega)
        simp only [List.length_nil]
        omega⟩
      clear hrow hbd hbr hsz hf HW0 HW1 HS1 HD1 HR1 HB1
      go_wp2
      rename World => wq
      go_loopw [9, 12] (fun v9 vk wx => ∃ (sc : List OpF) (W : Nat → Int), sc.length ≤ n ∧ vk = .int .i64 ((ps.length + 3 * sc.length : Nat) : Int) ∧ RegI w wx v9 ps t0 t1 d0 d1 f sc W) (fun _ vk _ => 3 * n + 10 + ps.length - (intOf vk).toNat)
      case atStart => exact ⟨[], _, Nat.zero_le _, by simp, HI.out⟩
      case round =>
        clear HI
        obtain ⟨sc, W, hscn, rfl, hI⟩ := hrel
        obtain ⟨a9, c9, hv9, hsh9⟩ := own_shape hI.own
        subst hv9
        have HI := hide hI
        have h0l : sc.length ≤ 400 := by omega
        by_cases hlt : sc.length < n
        · have hlt' : (sc.length : Int) < (n : Int) := by omega
          obtain ⟨wo, hwo⟩ : ∃ wo, wo = wr := ⟨_, rfl⟩
          rw [← hwo] at hI HI
          obtain ⟨kk, hkk⟩ : ∃ kk : Nat, kk = ps.length + 3 * sc.length := ⟨_, rfl⟩
          rw [← hkk]
          have HKK := hide hkk
          have hkb : kk ≤ 1300 := by omega
          clear hkk hsh9
          go_wp2
          rw [← hwo]
          clear hwo
          go_loopw [13, 14] (fun v13 v14 wx => ∃ i j : Nat, i < ps.length ∧ 1 ≤ j ∧ j ≤ ps.length ∧ v13 = .int .i64 i ∧ v14 = .int .i64 j ∧ (∀ u, u < j → W i ≤ W u) ∧ Below wo.heap.size wo wx) (fun _ vj _ => ps.length - (intOf vj).toNat)
          case atStart => exact ⟨0, 1, hp1, Nat.le_refl _, hp1, rfl, rfl, fun u hu => (by rw [show u = 0 by omega]; exact Int.le_refl _), Below.refl _ _⟩
          case round =>
            obtain ⟨i, j, hip, hj1, hjp, rfl, rfl, hmin, hbx⟩ := hrel
            have hrowx : wr.rowIs (w.heap.size + 1) 3 ps.length (fun j => .int .i64 (W j)) := HI.out.row.of_block (hbx.block _ HI.out.row.lt)
            have y1 := hrowx.cell hip
            have HBX := hide hbx
            have HBN := hide (below_drewN hbx)
            have i1 : (0 : Int) ≤ (i : Int) := by omega
            have i2 : (i : Int) < (ps.length : Int) := by omega
            by_cases hjl : j < ps.length
            · have y2 := hrowx.cell hjl
              have j1 : (0 : Int) ≤ (j : Int) := by omega
              have j2 : (j : Int) < (ps.length : Int) := by omega
              have HMIN := hide hmin
              clear hrowx hbx hI hmin
              by_cases e : W j < W i
              · have d1 : decide (W j < W i) = true := decide_eq_true e
                have HE := hide e
                generalize hWi : W i = wi at *
                generalize hWj : W j = wj at *
                have HWI := hide hWi
                have HWJ := hide hWj
                clear e hWi hWj
                go_wp2_with fail
                go_big_region
                go_wp2
                go_roundw
                case rel =>
                  refine ⟨j, j + 1, by omega, by omega, by omega, rfl, by go_num, fun u hu => ?_, by first | exact HBX.out | exact HBX.out.drew | exact HBN.out _⟩
                  rw [HWJ.out]
                  by_cases eu : u = j
                  · rw [eu, HWJ.out]; exact Int.le_refl _
                  · have h1 := HMIN.out u (by omega)
                    have h2 := HE.out
                    omega
                case measure => simp [intOf]; omega
              · have d1 : decide (W j < W i) = false := decide_eq_false e
                have HE := hide e
                generalize hWi : W i = wi at *
                generalize hWj : W j = wj at *
                have HWI := hide hWi
                have HWJ := hide hWj
                clear e hWi hWj
                go_wp2_with fail
                go_big_region
                go_wp2
                go_roundw
                case rel =>
                  refine ⟨i, j + 1, by omega, by omega, by omega, rfl, by go_num, fun u hu => ?_, by first | exact HBX.out | exact HBX.out.drew | exact HBN.out _⟩
                  rw [HWI.out]
                  by_cases eu : u = j
                  · rw [eu, HWJ.out]; have := HE.out; omega
                  · exact HMIN.out u (by omega)
                case measure => simp [intOf]; omega
            · have ej : j = ps.length := by omega
              subst ej
              have hIx : RegI w wr (.slice a9 sc.length c9) ps t0 t1 d0 d1 f sc W := ⟨bel_own hI.own hbx, hrowx, World.rowIs.of_block hI.box (hbx.block _ (World.rowIs.lt hI.box)), hI.bel.trans (hbx.mono hI.bel.size), Nat.le_trans hI.size hbx.size, hI.reg, hI.rng⟩
              have szx := hIx.size
              obtain ⟨bP, oP, rfl, hbP, hcP⟩ := HCP.out (by rw [List.length_map]; omega)
              have q0 := hcP i (by rw [List.length_map]; exact hip)
              rw [List.getElem_map] at q0
              have q1 := (hIx.bel.cell (p := ⟨bP, oP + i, none⟩) hbP).trans q0
              obtain ⟨p, hp⟩ : ∃ p, p = ps[i]'hip := ⟨_, rfl⟩
              rw [← hp] at q1
              obtain ⟨wi, hwi⟩ : ∃ wi, wi = W i := ⟨_, rfl⟩
              rw [← hwi] at y1
              obtain ⟨hw0, hw1⟩ := hI.rng i hip
              rw [← hwi] at hw0 hw1
              have hw2 : wi ≤ 401000000 := by
                have : ((sc.length : Int) + 1) * 1000000 ≤ 401 * 1000000 := Int.mul_le_mul_of_nonneg_right (by omega) (by omega)
                omega
              have lW := hrowx.lt
              have q1a : ∀ u, (wr.alloc u).cell? ⟨bP, oP + i, none⟩ = some (.int .i64 (p : Int)) := fun u => (World.cell?_alloc_past _ _ _ (by show bP < wr.heap.size; have := hIx.bel.size; omega)).trans q1
              have y1a : ∀ u, (wr.alloc u).cell? ⟨w.heap.size + 1, i, none⟩ = some (.int .i64 wi) := fun u => (World.cell?_alloc_past _ _ _ lW).trans y1
              obtain ⟨wa, hwa⟩ : ∃ wa, wa = (wr.alloc (.cells #[.int .i64 (p : Int), .int .i64 wi, .int .i64 0, .int .i64 0] 43)).drew := ⟨_, rfl⟩
              have hAa : ActAt wa wr.heap.size ⟨p, wi, 0, 0⟩ := by rw [hwa]; exact World.rowIs.of_block (ActAt.boxed wr ⟨p, wi, 0, 0⟩) rfl
              have hba : Below wr.heap.size wr wa := by rw [hwa]; exact ((Below.refl _ _).alloc (Nat.le_refl _) _).drew
              have hsa : wa.heap.size = wr.heap.size + 1 := by rw [hwa]; simp
              have hDa : BdAt wa w.heap.size t0 t1 d0 d1 := World.rowIs.of_block hIx.box (hba.block _ (World.rowIs.lt hIx.box))
              have hRa : wa.rowIs (w.heap.size + 1) 3 ps.length (fun j => .int .i64 (W j)) := hrowx.of_block (hba.block _ lW)
              have hBa : Below w.heap.size w wa := hIx.bel.trans (hba.mono hIx.bel.size)
              have hOa : wa.ownsRow (w.heap.size + 2) 43 4 (.slice a9 sc.length c9) sc.length (opCells sc) := bel_own hIx.own hba
              obtain ⟨r1, hr1⟩ : ∃ r1, r1 = rawN l kk (d1 - d0 + 1) := ⟨_, rfl⟩
              obtain ⟨r2, hr2⟩ : ∃ r2, r2 = rawN l (kk + 1) (d1 - d0 + 1) := ⟨_, rfl⟩
              obtain ⟨r3, hr3⟩ : ∃ r3, r3 = rawN l (kk + 2) (t1 - t0 + 1) := ⟨_, rfl⟩
              have lr1 : r1 < d1 - d0 + 1 := by rw [hr1]; exact rawN_lt _ _ (by omega)
              have lr2 : r2 < d1 - d0 + 1 := by rw [hr2]; exact rawN_lt _ _ (by omega)
              have lr3 : r3 < t1 - t0 + 1 := by rw [hr3]; exact rawN_lt _ _ (by omega)
              obtain ⟨wb, hwb⟩ : ∃ wb, wb = (wa.setCell ⟨wr.heap.size, 2, none⟩ (.int .i64 ((d0 : Int) + (r1 : Int)))).drew := ⟨_, rfl⟩
              have nA : w.heap.size ≠ wr.heap.size := by omega
              have nW : w.heap.size + 1 ≠ wr.heap.size := by omega
              have hAb : ActAt wb wr.heap.size ⟨p, wi, d0 + r1, 0⟩ := by
                rw [hwb]
                refine World.rowIs.of_block ((World.rowIs.set hAa 2 _).congr (fun i hi => ?_)) rfl
                have : i = 0 ∨ i = 1 ∨ i = 2 ∨ i = 3 := by omega
                rcases this with rfl | rfl | rfl | rfl <;> rfl
              have hDb : BdAt wb w.heap.size t0 t1 d0 d1 := by rw [hwb]; exact World.rowIs.of_block (hDa.other ⟨wr.heap.size, 2, none⟩ nA _) rfl
              have hRb : wb.rowIs (w.heap.size + 1) 3 ps.length (fun j => .int .i64 (W j)) := by rw [hwb]; exact World.rowIs.of_block (hRa.setOther (a := ⟨wr.heap.size, 2, none⟩) nW _) rfl
              have hBb : Below w.heap.size w wb := by rw [hwb]; exact (hBa.setCell (by show w.heap.size ≤ wr.heap.size; omega) _).drew
              have nO : ∀ g, (Value.slice a9 sc.length c9).ownBlock = some g → g ≠ wr.heap.size := fun g hg e => by have := (hIx.own.lt g hg).2; omega
              have hOb : wb.ownsRow (w.heap.size + 2) 43 4 (.slice a9 sc.length c9) sc.length (opCells sc) := by
                rw [hwb]
                exact own_same hOa (fun g hg => heap_setCell_other wa ⟨wr.heap.size, 2, none⟩ g _ (nO g hg))
              have hsb : wb.heap.size = wr.heap.size + 1 := by rw [hwb]; simpa using hsa
              obtain ⟨wc, hwc⟩ : ∃ wc, wc = (wb.setCell ⟨wr.heap.size, 3, none⟩ (.int .i64 ((d0 : Int) + (r2 : Int)))).drew := ⟨_, rfl⟩
              have hAc : ActAt wc wr.heap.size ⟨p, wi, d0 + r1, d0 + r2⟩ := by
                rw [hwc]
                refine World.rowIs.of_block ((World.rowIs.set hAb 3 _).congr (fun i hi => ?_)) rfl
                have : i = 0 ∨ i = 1 ∨ i = 2 ∨ i = 3 := by omega
                rcases this with rfl | rfl | rfl | rfl <;> rfl
              have hDc : BdAt wc w.heap.size t0 t1 d0 d1 := by rw [hwc]; exact World.rowIs.of_block (hDb.other ⟨wr.heap.size, 3, none⟩ nA _) rfl
              have hRc : wc.rowIs (w.heap.size + 1) 3 ps.length (fun j => .int .i64 (W j)) := by rw [hwc]; exact World.rowIs.of_block (hRb.setOther (a := ⟨wr.heap.size, 3, none⟩) nW _) rfl
              have hBc : Below w.heap.size w wc := by rw [hwc]; exact (hBb.setCell (by show w.heap.size ≤ wr.heap.size; omega) _).drew
              have hOc : wc.ownsRow (w.heap.size + 2) 43 4 (.slice a9 sc.length c9) sc.length (opCells sc) := by
                rw [hwc]
                exact own_same hOb (fun g hg => heap_setCell_other wb ⟨wr.heap.size, 3, none⟩ g _ (nO g hg))
              have hsc : wc.heap.size = wr.heap.size + 1 := by rw [hwc]; simpa using hsb
              obtain ⟨wd, hwd⟩ : ∃ wd, wd = (wc.setCell ⟨w.heap.size + 1, i, none⟩ (.int .i64 (wi + (t0 : Int) + (r3 : Int)))).drew := ⟨_, rfl⟩
              have hAd : ActAt wd wr.heap.size ⟨p, wi, d0 + r1, d0 + r2⟩ := by rw [hwd]; exact World.rowIs.of_block (World.rowIs.setOther hAc (a := ⟨w.heap.size + 1, i, none⟩) (Ne.symm nW) _) rfl
              have hDd : BdAt wd w.heap.size t0 t1 d0 d1 := by rw [hwd]; exact World.rowIs.of_block (hDc.other ⟨w.heap.size + 1, i, none⟩ (by show w.heap.size ≠ w.heap.size + 1; omega) _) rfl
              have hRd : wd.rowIs (w.heap.size + 1) 3 ps.length (fun j => .int .i64 (if j = i then wi + (t0 : Int) + (r3 : Int) else W j)) := by
                rw [hwd]
                refine World.rowIs.of_block ((hRc.set i _).congr (fun j _ => ?_)) rfl
                by_cases e : j = i
                · rw [if_pos e, if_pos e]
                · rw [if_neg e, if_neg e]
              have hBd : Below w.heap.size w wd := by rw [hwd]; exact (hBc.setCell (by show w.heap.size ≤ w.heap.size + 1; omega) _).drew
              have hOd : wd.ownsRow (w.heap.size + 2) 43 4 (.slice a9 sc.length c9) sc.length (opCells sc) := by
                rw [hwd]
                exact own_same hOc (fun g hg => heap_setCell_other wc ⟨w.heap.size + 1, i, none⟩ g _ (by have := ownBlock_ge hOc g hg; show g ≠ w.heap.size + 1; omega))
              have hsd : wd.heap.size = wr.heap.size + 1 := by rw [hwd]; simpa using hsc
              obtain ⟨_, _, ua2, ua3⟩ := hDa.cells
              obtain ⟨_, _, ub2, ub3⟩ := hDb.cells
              obtain ⟨uc0, uc1, uc2, uc3⟩ := hDc.cells
              obtain ⟨ud0, ud1, _, _⟩ := hDd.cells
              have va2 := hAa.cells.2.2.1
              have fa2 := World.rowIs.frozen hAa 2
              have vb3 := hAb.cells.2.2.2
              have fb3 := World.rowIs.frozen hAb 3
              have vc := hRc.cell hip
              rw [← hwi] at vc
              have fc := hRc.frozen i
              obtain ⟨z0, z1, z2, z3⟩ := hAd.cells
              simp only [] at va2 vb3 z0 z1 z2 z3
              have KB : (wa.setCell ⟨wr.heap.size, 2, none⟩ (.int .i64 ((d0 : Int) + (r1 : Int)))).drew.cell? ⟨w.heap.size, 2, none⟩ = some (.int .i64 (d0 : Int)) ∧ (wa.setCell ⟨wr.heap.size, 2, none⟩ (.int .i64 ((d0 : Int) + (r1 : Int)))).drew.cell? ⟨w.heap.size, 3, none⟩ = some (.int .i64 (d1 : Int)) := by rw [← hwb]; exact ⟨ub2, ub3⟩
              have KC : (wb.setCell ⟨wr.heap.size, 3, none⟩ (.int .i64 ((d0 : Int) + (r2 : Int)))).drew.cell? ⟨w.heap.size, 2, none⟩ = some (.int .i64 (d0 : Int)) ∧ (wb.setCell ⟨wr.heap.size, 3, none⟩ (.int .i64 ((d0 : Int) + (r2 : Int)))).drew.cell? ⟨w.heap.size, 3, none⟩ = some (.int .i64 (d1 : Int)) := by rw [← hwc]; exact ⟨uc2, uc3⟩
              have KD : (wc.setCell ⟨w.heap.size + 1, i, none⟩ (.int .i64 (wi + (t0 : Int) + (r3 : Int)))).drew.cell? ⟨w.heap.size, 0, none⟩ = some (.int .i64 (t0 : Int)) ∧ (wc.setCell ⟨w.heap.size + 1, i, none⟩ (.int .i64 (wi + (t0 : Int) + (r3 : Int)))).drew.cell? ⟨w.heap.size, 1, none⟩ = some (.int .i64 (t1 : Int)) := by rw [← hwd]; exact ⟨ud0, ud1⟩
              have m1 : IntKind.i64.wrap ((d1 : Int) - (d0 : Int)) = (d1 : Int) - (d0 : Int) := by rw [IntKind.wrap_i64]; omega
              have m2 : IntKind.i64.wrap ((d1 : Int) - (d0 : Int) + 1) = ((d1 - d0 + 1 : Nat) : Int) := by rw [IntKind.wrap_i64]; omega
              have m3 : IntKind.i64.wrap ((d0 : Int) + (r1 : Int)) = (d0 : Int) + (r1 : Int) := by rw [IntKind.wrap_i64]; omega
              have m4 : IntKind.i64.wrap ((d0 : Int) + (r2 : Int)) = (d0 : Int) + (r2 : Int) := by rw [IntKind.wrap_i64]; omega
              have m5 : IntKind.i64.wrap ((kk : Int) + 1) = (kk : Int) + 1 := by rw [IntKind.wrap_i64]; omega
              have m6 : IntKind.i64.wrap ((kk : Int) + 2) = (kk : Int) + 2 := by rw [IntKind.wrap_i64]; omega
              have m7 : IntKind.i64.wrap ((t1 : Int) - (t0 : Int)) = (t1 : Int) - (t0 : Int) := by rw [IntKind.wrap_i64]; omega
              have m8 : IntKind.i64.wrap ((t1 : Int) - (t0 : Int) + 1) = ((t1 - t0 + 1 : Nat) : Int) := by rw [IntKind.wrap_i64]; omega
              have m9 : IntKind.i64.wrap (wi + (t0 : Int)) = wi + (t0 : Int) := by rw [IntKind.wrap_i64]; omega
              have m10 : IntKind.i64.wrap (wi + (t0 : Int) + (r3 : Int)) = wi + (t0 : Int) + (r3 : Int) := by rw [IntKind.wrap_i64]; omega
              have m11 : IntKind.i64.wrap ((kk : Int) + 3) = (kk : Int) + 3 := by rw [IntKind.wrap_i64]; omega
              have HR1 : Hid (∀ W, Below w.heap.size w W → Calls Try.prog 49 #[.slice al l.length cl, .int .i64 (kk : Int), .int .i64 ((d1 - d0 + 1 : Nat) : Int)] W fun e w' => e = .returned (.int .i64 (r1 : Int)) ∧ W = w') := hide (fun W hW => by rw [hr1]; exact HRAW.out W hW kk (d1 - d0 + 1) (by omega) (by omega) (by omega))
              have HR2 : Hid (∀ W, Below w.heap.size w W → Calls Try.prog 49 #[.slice al l.length cl, .int .i64 ((kk : Int) + 1), .int .i64 ((d1 - d0 + 1 : Nat) : Int)] W fun e w' => e = .returned (.int .i64 (r2 : Int)) ∧ W = w') := hide (fun W hW => by rw [hr2]; exact HRAW.out W hW (kk + 1) (d1 - d0 + 1) (by omega) (by omega) (by omega))
              have HR3 : Hid (∀ W, Below w.heap.size w W → Calls Try.prog 49 #[.slice al l.length cl, .int .i64 ((kk : Int) + 2), .int .i64 ((t1 - t0 + 1 : Nat) : Int)] W fun e w' => e = .returned (.int .i64 (r3 : Int)) ∧ W = w') := hide (fun W hW => by rw [hr3]; exact HRAW.out W hW (kk + 2) (t1 - t0 + 1) (by omega) (by omega) (by omega))
              have HNX : Hid (∀ wz v', wz.ownsRow (w.heap.size + 2) 43 4 v' (sc.length + 1) (opCells sc ++ [.int .i64 (p : Int), .int .i64 wi, .int .i64 ((d0 : Int) + (r1 : Int)), .int .i64 ((d0 : Int) + (r2 : Int))]) → (∀ j, j < wr.heap.size → some j ≠ (Value.slice a9 sc.length c9).ownBlock → wz.heap[j]? = wd.heap[j]?) → Below w.heap.size w wz → wr.heap.size ≤ wz.heap.size → RegI w wz v' ps t0 t1 d0 d1 f (sc ++ [⟨p, wi, d0 + r1, d0 + r2⟩]) (fun j => if j = i then wi + (t0 : Int) + (r3 : Int) else W j)) := hide (fun wz v' ho hk hbz hsz => by
                have nn : ∀ j, j < w.heap.size + 2 → some j ≠ (Value.slice a9 sc.length c9).ownBlock := fun j hj e => by have := ownBlock_ge hOd j e.symm; omega
                refine ⟨?_, hRd.of_block (hk _ (by omega) (nn _ (by omega))), World.rowIs.of_block hDd (hk _ (by omega) (nn _ (by omega))), hbz, by omega, ?_, fun j hj => ?_⟩
                · rw [List.length_append, List.length_singleton, opCells_snoc]; exact ho
                · obtain ⟨f', h1, h2⟩ := hI.reg
                  refine ⟨_, RegT.snoc ⟨p, wi, d0 + r1, d0 + r2⟩ ((t0 : Int) + (r3 : Int)) sc f f' h1 (List.mem_map.2 ⟨p, by rw [hp]; exact List.getElem_mem hip, rfl⟩) (by show wi = f' (p : Int); rw [hp, h2 i hip, hwi]) (fun q hq => ?_) ⟨by show (d0 : Int) ≤ (d0 : Int) + (r1 : Int); omega, by show (d0 : Int) + (r1 : Int) ≤ (d1 : Int); omega⟩ ⟨by show (d0 : Int) ≤ (d0 : Int) + (r2 : Int); omega, by show (d0 : Int) + (r2 : Int) ≤ (d1 : Int); omega⟩ (by show (t0 : Int) ≤ (t0 : Int) + (r3 : Int); omega) (by show (t0 : Int) + (r3 : Int) ≤ (t1 : Int); omega), fun j hj => ?_⟩
                  · obtain ⟨q', hq', rfl⟩ := List.mem_map.1 hq
                    obtain ⟨j, hj, rfl⟩ := List.getElem_of_mem hq'
                    show wi ≤ f' _
                    rw [h2 j hj, hwi]
                    exact hmin j hj
                  · show (if ((ps[j] : Nat) : Int) = (p : Int) then wi + ((t0 : Int) + (r3 : Int)) else f' _) = _
                    by_cases e : j = i
                    · subst e
                      rw [if_pos (by rw [hp]), if_pos rfl]
                      omega
                    · rw [if_neg (fun h => e (nd_inj HND.out hj hip (by rw [← hp]; omega))), if_neg e, h2 j hj]
                · obtain ⟨g1, g2⟩ := hI.rng j hj
                  rw [List.length_append, List.length_singleton]
                  show 0 ≤ (if j = i then _ else _) ∧ (if j = i then _ else _) ≤ _
                  by_cases e : j = i
                  · rw [if_pos e]
                    refine ⟨by omega, ?_⟩
                    rw [show (((sc.length + 1 : Nat) : Int) + 1) * 1000000 = ((sc.length : Int) + 1) * 1000000 + 1000000 by omega]
                    omega
                  · rw [if_neg e]
                    refine ⟨g1, ?_⟩
                    rw [show (((sc.length + 1 : Nat) : Int) + 1) * 1000000 = ((sc.length : Int) + 1) * 1000000 + 1000000 by omega]
                    omega)
              have HWA := hide hwa
              have HWB := hide hwb
              have HWC := hide hwc
              have HWD := hide hwd
              have HBA := hide hBa
              have HBB := hide hBb
              have HBC := hide hBc
              have HBD := hide hBd
              have HOD := hide hOd
              have HSD := hide hsd
              have HSZX := hide szx
              have hsdl : wr.heap.size + 1 ≤ wd.heap.size := by omega
              have hszd : w.heap.size + 2 ≤ wd.heap.size := by omega
              generalize opCells sc = OC at *
              clear hwa hwb hwc hwd hAa hAb hAc hAd hDa hDb hDc hDd hRa hRb hRc hRd hBa hBb hBc hBd hOa hOb hOc hOd hsa hsb hsc hsd hr1 hr2 hr3 hp hwi hI hIx hrowx hbx hmin q0 hcP hba nO lW
              go_wp2_with fail
              go_big_region
              rw [← HWA.out]
              clear q1 q1a y1 y1a
              go_wp2_with fail
              go_region_held3 (fun w' => w'.cell? ⟨w.heap.size, 2, none⟩ = some (.int .i64 (d0 : Int)) ∧ w'.cell? ⟨w.heap.size, 3, none⟩ = some (.int .i64 (d1 : Int))) (first | go_keep | exact KB)
                ((go_at_call 49; refine (HR1.out _ HBA.out.drew).mono ?_; rintro e wx ⟨rfl, rfl⟩))
              rw [← HWB.out]
              clear ua2 ua3 va2 fa2 KB
              go_wp2_with fail
              go_region_held3 (fun w' => w'.cell? ⟨w.heap.size, 2, none⟩ = some (.int .i64 (d0 : Int)) ∧ w'.cell? ⟨w.heap.size, 3, none⟩ = some (.int .i64 (d1 : Int))) (first | go_keep | exact KC)
                ((go_at_call 49; refine (HR2.out _ HBB.out.drew).mono ?_; rintro e wx ⟨rfl, rfl⟩))
              rw [← HWC.out]
              clear ub2 ub3 vb3 fb3 KC
              go_wp2_with fail
              refine wp_region_held_drew (S := (fun w' => w'.cell? ⟨w.heap.size, 0, none⟩ = some (.int .i64 (t0 : Int)) ∧ w'.cell? ⟨w.heap.size, 1, none⟩ = some (.int .i64 (t1 : Int)))) (by kernel_rfl) ?_ (fun hHeld => ?_)
              · exact ⟨uc0, uc1⟩
              refine wpAnyH_take (i := 0) (v := ?_) rfl (by kernel_rfl) (by kernel_rfl) (by kernel_rfl) (fun _ _ _ h => h) (Or.inl ⟨by rfl, ?_⟩) hHeld ?_
              rotate_left
              · intro w hSw
                (try dsimp only at hSw)
                go_simp
                (try with_reducible rfl)
              simp only [Act.put, List.setIfInBounds_toArray]
              refine wpAnyH_take (i := 1) (v := ?_) rfl (by kernel_rfl) (by kernel_rfl) (by kernel_rfl) (fun _ _ _ h => h) (Or.inl ⟨by rfl, ?_⟩) hHeld ?_
              rotate_left
              · intro w hSw
                (try dsimp only at hSw)
                go_simp
                (try with_reducible rfl)
              simp only [Act.put]
              refine wpAnyH_take (i := 2) (v := ?_) rfl (by kernel_rfl) (by kernel_rfl) (by kernel_rfl) (fun _ _ _ h => h) (Or.inl ⟨by rfl, ?_⟩) hHeld ?_
              rotate_left
              · intro w hSw
                (try dsimp only at hSw)
                go_simp
                (try with_reducible rfl)
              simp only [Act.put]
              refine wpAnyH_take (i := 3) (v := ?_) rfl (by kernel_rfl) (by kernel_rfl) (by kernel_rfl) (fun _ _ _ h => h) (Or.inl ⟨by rfl, ?_⟩) hHeld ?_
              rotate_left
              · intro w hSw
                (try dsimp only at hSw)
                go_simp
                (try with_reducible rfl)
              simp only [Act.put]
              refine wpAnyH_take (i := 4) (v := ?_) rfl (by kernel_rfl) (by kernel_rfl) (by kernel_rfl) (fun _ _ _ h => h) (Or.inl ⟨by rfl, ?_⟩) hHeld ?_
              rotate_left
              · intro w hSw
                (try dsimp only at hSw)
                go_simp
                (try with_reducible rfl)
              simp only [Act.put]
              refine wpAnyH_take (i := 6) (v := ?_) rfl (by kernel_rfl) (by kernel_rfl) (by kernel_rfl) (fun _ _ _ h => h) (Or.inl ⟨by rfl, ?_⟩) hHeld ?_
              rotate_left
              · intro w hSw
                (try dsimp only at hSw)
                go_simp
                (try with_reducible rfl)
              simp only [Act.put]
              refine wpAnyH_take (i := 7) (v := ?_) rfl (by kernel_rfl) (by kernel_rfl) (by kernel_rfl) (fun _ _ _ h => h) (Or.inl ⟨by rfl, ?_⟩) hHeld ?_
              rotate_left
              · intro w hSw
                (try dsimp only at hSw)
                go_simp
                (try with_reducible rfl)
              simp only [Act.put]
              refine wpAnyH_take (i := 9) (v := ?_) rfl (by kernel_rfl) (by kernel_rfl) (by kernel_rfl) (fun _ _ _ h => h) (Or.inl ⟨by rfl, ?_⟩) hHeld ?_
              rotate_left
              · intro w hSw
                (try dsimp only at hSw)
                go_simp
                (try with_reducible rfl)
              simp only [Act.put]
              refine wpAnyH_take (i := 10) (v := ?_) rfl (by kernel_rfl) (by kernel_rfl) (by kernel_rfl) (fun _ _ _ h => h) (Or.inl ⟨by rfl, ?_⟩) hHeld ?_
              rotate_left
              · intro w hSw
                (try dsimp only at hSw)
                go_simp
                (try with_reducible rfl)
              simp only [Act.put]
              refine wpAnyH_take (i := 11) (v := ?_) rfl (by kernel_rfl) (by kernel_rfl) (by kernel_rfl) (fun _ _ _ h => h) (Or.inl ⟨by rfl, ?_⟩) hHeld ?_
              rotate_left
              · intro w hSw
                (try dsimp only at hSw)
                go_simp
                (try with_reducible rfl)
              simp only [Act.put]
              refine wpAnyH_take (i := 12) (v := ?_) rfl (by kernel_rfl) (by kernel_rfl) (by kernel_rfl) (fun _ _ _ h => h) (Or.inl ⟨by rfl, ?_⟩) hHeld ?_
              rotate_left
              · intro w hSw
                (try dsimp only at hSw)
                go_simp
                (try with_reducible rfl)
              simp only [Act.put]
              refine wpAnyH_take (i := 13) (v := ?_) rfl (by kernel_rfl) (by kernel_rfl) (by kernel_rfl) (fun _ _ _ h => h) (Or.inl ⟨by rfl, ?_⟩) hHeld ?_
              rotate_left
              · intro w hSw
                (try dsimp only at hSw)
                go_simp
                (try with_reducible rfl)
              simp only [Act.put]
              refine wpAnyH_take (i := 14) (v := ?_) rfl (by kernel_rfl) (by kernel_rfl) (by kernel_rfl) (fun _ _ _ h => h) (Or.inl ⟨by rfl, ?_⟩) hHeld ?_
              rotate_left
              · intro w hSw
                (try dsimp only at hSw)
                go_simp
                (try with_reducible rfl)
              simp only [Act.put]
              refine wpAnyH_take (i := 15) (v := ?_) rfl (by kernel_rfl) (by kernel_rfl) (by kernel_rfl) (fun _ _ _ h => h) (Or.inl ⟨by rfl, ?_⟩) hHeld ?_
              rotate_left
              · intro w hSw
                (try dsimp only at hSw)
                go_simp
                (try with_reducible rfl)
              simp only [Act.put]
              refine wpAnyH_take (i := 16) (v := ?_) rfl (by kernel_rfl) (by kernel_rfl) (by kernel_rfl) (fun _ _ _ h => h) (Or.inl ⟨by rfl, ?_⟩) hHeld ?_
              rotate_left
              · intro w hSw
                (try dsimp only at hSw)
                go_simp
                (try with_reducible rfl)
              simp only [Act.put]
              refine wpAnyH_take (i := 17) (v := ?_) rfl (by kernel_rfl) (by kernel_rfl) (by kernel_rfl) (fun _ _ _ h => h) (Or.inl ⟨by rfl, ?_⟩) hHeld ?_
              rotate_left
              · intro w hSw
                (try dsimp only at hSw)
                go_simp
                (try with_reducible rfl)
              simp only [Act.put]
              refine wpAnyH_ready (rs := [5, 18]) (by kernel_rfl) (by simp) ?_
              refine AllReadyH.cons rfl (fun K hK => ?_) (AllReadyH.cons rfl (fun K hK => ?_) AllReadyH.nil)
              · go_simp
                refine hK.out _ _ hHeld (fun _ => ?_)
                clear hK K
                refine wpAnyH_take (i := 8) (v := ?_) rfl (by kernel_rfl) (by kernel_rfl) (by kernel_rfl) (fun _ _ _ h => h) (Or.inl ⟨by rfl, ?_⟩) hHeld ?_
                rotate_left
                · intro w hSw
                  (try dsimp only at hSw)
                  go_simp
                  (try with_reducible rfl)
                simp only [Act.put, List.setIfInBounds_toArray]
                refine wpAnyH_ready (rs := [18]) (by kernel_rfl) (by simp) ?_
                refine AllReadyH.cons rfl (fun K hK => ?_) AllReadyH.nil
                go_simp
                refine (HR3.out _ HBC.out.drew).mono ?_
                rintro e wx ⟨rfl, rfl⟩
                refine hK.out _ _ hHeld (fun _ => ?_)
                clear hK K
                refine wpAnyH_take (i := 19) (v := ?_) rfl (by kernel_rfl) (by kernel_rfl) (by kernel_rfl) (fun _ _ _ h => h) (Or.inl ⟨by rfl, ?_⟩) hHeld ?_
                rotate_left
                · intro w hSw
                  (try dsimp only at hSw)
                  go_simp
                  (try with_reducible rfl)
                simp only [Act.put, List.setIfInBounds_toArray]
                refine wpAnyH_take (i := 20) (v := ?_) rfl (by kernel_rfl) (by kernel_rfl) (by kernel_rfl) (fun _ _ _ h => h) (Or.inl ⟨by rfl, ?_⟩) hHeld ?_
                rotate_left
                · intro w hSw
                  (try dsimp only at hSw)
                  go_simp
                  (try with_reducible rfl)
                simp only [Act.put]
                refine wpAnyH_ready (rs := [21]) (by kernel_rfl) (by simp) ?_
                refine AllReadyH.cons rfl (fun K hK => ?_) AllReadyH.nil
                go_simp
                refine hK.out _ _ KD (fun _ => ?_)
                clear hK K
                refine wpAnyH_done (by kernel_rfl) ?_ _
                rw [← HWD.out]
                clear uc0 uc1 uc2 uc3 vc fc KD ud0 ud1
                go_wp2_with (at_builtin; refine wpList_append_lies _ rfl _ _ _ rfl (w.heap.size + 2) 43 i0 _ 4 32 Try.underlying32 hi0 hz0 hz1 hz2 rfl (by omega) _ sc.length OC rfl (HOD.out.alloc _) ⟨wd.heap.size, 0, none⟩ 1 1 [.int .i64 (p : Int), .int .i64 wi, .int .i64 ((d0 : Int) + (r1 : Int)), .int .i64 ((d0 : Int) + (r2 : Int))] rfl rfl (World.news_of_block (cs := #[.int .i64 (p : Int), .int .i64 wi, .int .i64 ((d0 : Int) + (r1 : Int)), .int .i64 ((d0 : Int) + (r2 : Int))]) (t := 43) (fr := (0, 0)) (heap_alloc_new wd _)) (by simp [Value.oneCell']) (by omega) (by unfold maxLen; omega) (by omega) (by simp; omega) (wd.heap.size + 1) (by simp) ?_; intro gg cap2 wz hown3 hgrow hat hlt3)
                go_roundw
                case rel =>
                  refine ⟨sc ++ [⟨p, wi, d0 + r1, d0 + r2⟩], _, ?_, ?_, HNX.out wz _ hown3 (fun j hj hne => (hgrow.block j (by simp; omega) hne).trans (heap_alloc_old wd _ (by omega))) ((HBD.out.alloc (by omega) _).grown hgrow (by simp; omega) (fun j hj => by have := ownBlock_ge HOD.out j hj; omega)) (by have := hgrow.size; simp at this; omega)⟩
                  · rw [List.length_append, List.length_singleton]; omega
                  · rw [List.length_append, List.length_singleton]
                    have := HKK.out
                    congr 1
                    omega
                case measure =>
                  have := HKK.out
                  simp [intOf]
                  omega
              · go_simp
                refine (HR3.out _ HBC.out.drew).mono ?_
                rintro e wx ⟨rfl, rfl⟩
                refine hK.out _ _ hHeld (fun _ => ?_)
                clear hK K
                refine wpAnyH_ready (rs := [5]) (by kernel_rfl) (by simp) ?_
                refine AllReadyH.cons rfl (fun K hK => ?_) AllReadyH.nil
                go_simp
                refine hK.out _ _ hHeld (fun _ => ?_)
                clear hK K
                refine wpAnyH_take (i := 8) (v := ?_) rfl (by kernel_rfl) (by kernel_rfl) (by kernel_rfl) (fun _ _ _ h => h) (Or.inl ⟨by rfl, ?_⟩) hHeld ?_
                rotate_left
                · intro w hSw
                  (try dsimp only at hSw)
                  go_simp
                  (try with_reducible rfl)
                simp only [Act.put, List.setIfInBounds_toArray]
                refine wpAnyH_take (i := 19) (v := ?_) rfl (by kernel_rfl) (by kernel_rfl) (by kernel_rfl) (fun _ _ _ h => h) (Or.inl ⟨by rfl, ?_⟩) hHeld ?_
                rotate_left
                · intro w hSw
                  (try dsimp only at hSw)
                  go_simp
                  (try with_reducible rfl)
                simp only [Act.put]
                refine wpAnyH_take (i := 20) (v := ?_) rfl (by kernel_rfl) (by kernel_rfl) (by kernel_rfl) (fun _ _ _ h => h) (Or.inl ⟨by rfl, ?_⟩) hHeld ?_
                rotate_left
                · intro w hSw
                  (try dsimp only at hSw)
                  go_simp
                  (try with_reducible rfl)
                simp only [Act.put]
                refine wpAnyH_ready (rs := [21]) (by kernel_rfl) (by simp) ?_
                refine AllReadyH.cons rfl (fun K hK => ?_) AllReadyH.nil
                go_simp
                refine hK.out _ _ KD (fun _ => ?_)
                clear hK K
                refine wpAnyH_done (by kernel_rfl) ?_ _
                rw [← HWD.out]
                clear uc0 uc1 uc2 uc3 vc fc KD ud0 ud1
                go_wp2_with (at_builtin; refine wpList_append_lies _ rfl _ _ _ rfl (w.heap.size + 2) 43 i0 _ 4 32 Try.underlying32 hi0 hz0 hz1 hz2 rfl (by omega) _ sc.length OC rfl (HOD.out.alloc _) ⟨wd.heap.size, 0, none⟩ 1 1 [.int .i64 (p : Int), .int .i64 wi, .int .i64 ((d0 : Int) + (r1 : Int)), .int .i64 ((d0 : Int) + (r2 : Int))] rfl rfl (World.news_of_block (cs := #[.int .i64 (p : Int), .int .i64 wi, .int .i64 ((d0 : Int) + (r1 : Int)), .int .i64 ((d0 : Int) + (r2 : Int))]) (t := 43) (fr := (0, 0)) (heap_alloc_new wd _)) (by simp [Value.oneCell']) (by omega) (by unfold maxLen; omega) (by omega) (by simp; omega) (wd.heap.size + 1) (by simp) ?_; intro gg cap2 wz hown3 hgrow hat hlt3)
                go_roundw
                case rel =>
                  refine ⟨sc ++ [⟨p, wi, d0 + r1, d0 + r2⟩], _, ?_, ?_, HNX.out wz _ hown3 (fun j hj hne => (hgrow.block j (by simp; omega) hne).trans (heap_alloc_old wd _ (by omega))) ((HBD.out.alloc (by omega) _).grown hgrow (by simp; omega) (fun j hj => by have := ownBlock_ge HOD.out j hj; omega)) (by have := hgrow.size; simp at this; omega)⟩
                  · rw [List.length_append, List.length_singleton]; omega
                  · rw [List.length_append, List.length_singleton]
                    have := HKK.out
                    congr 1
                    omega
                case measure =>
                  have := HKK.out
                  simp [intOf]
                  omega
        · have hll : sc.length = n := by omega
          obtain ⟨f', h1, h2⟩ := hI.reg
          have HQ : Hid (RegQ w wr (.slice a9 sc.length c9) ps t0 t1 d0 d1 n) := hide ⟨sc, hll, own_weak hI.own (by omega), ⟨f, f', HF.out, h1⟩, hI.bel⟩
          have nlt : ¬ (sc.length : Int) < (n : Int) := by omega
          clear hI HI h1 h2 hsh9 hll
          go_wp2
          go_ret
          exact ⟨_, rfl, HQ.out⟩
end Go.Proofs.Ytmndgoapkmhglab
