import Derived.Test.YtmndgoapkmhglabB29SpU
import Derived.Test.YtmndgoapkmhglabB31CpW
import Derived.Test.YtmndgoapkmhglabB47BrP
import Derived.Test.YtmndgoapkmhglabB50PRun
/- run: the events, and whether all is as it must be. -/
namespace Go.Proofs.Ytmndgoapkmhglab
open Go.RowKit
attribute [local go_sem ↓] Go.wp_at_zero Go.wp_at_succ

theorem pc_row {B : Nat} {w : World} {v : Value} {ws : List Nat} (h : w.ownsRow B 3 1 v ws.length (pCells ws)) (hn : ws.length ≤ 1048576) : RowAt w v (ws.map fun (p : Nat) => (p : Int)) := by
  rcases h.2 with ⟨rfl, h0⟩ | ⟨g, cap, cur, rfl, hb, hg, h1, h2, h3, h4⟩
  · exact ⟨none, 0, by rw [List.length_map, h0], by rw [List.length_map]; omega, fun hp => by rw [List.length_map] at hp; omega⟩
  · refine ⟨_, _, by rw [List.length_map], by rw [List.length_map]; omega, fun hp => ⟨g, 0, rfl, (Array.getElem?_eq_some_iff.1 hg).1, fun c hc => ?_⟩⟩
    rw [List.length_map] at hc
    rw [Nat.zero_add, h.cellAt c (by omega), List.getElem_map]
    unfold pCells
    rw [List.getElem?_map, List.getElem?_eq_getElem hc]
    rfl
theorem seats_len (s : ByteArray) : (seatsF s).length ≤ s.size := by
  unfold seatsF
  rw [List.length_map]
  exact mkL_len _ _ _

/-- the length of what Run answers. -/
theorem RunQ.len {s : ByteArray} {ins : List (List Int)} {sc : List OpF} {B : Nat} {w' : World} {v : Value} (h : RunQ s ins sc B w' v) (hg : runE s sc = 0 → (textF s).1 = 0) : ∃ a cap, v = .slice a (if runE s sc = 0 then sc.length else 0) cap := by
  unfold RunQ at h
  by_cases h0 : runE s sc = 0
  · rw [if_pos h0] at h ⊢
    obtain ⟨L, hG, hR, _⟩ := good_text (hg h0)
    obtain ⟨TV, VV, hE⟩ := h L hG hR
    obtain ⟨a, cap, e, _⟩ := own_shape hE.row
    exact ⟨a, cap, by rw [e, evsR_len]⟩
  · rw [if_neg h0] at h ⊢
    exact h
theorem runQ_weak {s : ByteArray} {ins : List (List Int)} {sc : List OpF} {B B' : Nat} {w' : World} {v : Value} (h : RunQ s ins sc B w' v) (hb : B' ≤ B) : RunQ s ins sc B' w' v := by
  unfold RunQ at *
  split
  · rename_i h0
    rw [if_pos h0] at h
    intro L hG hR
    obtain ⟨TV, VV, hE⟩ := h L hG hR
    exact ⟨TV, VV, own_weak hE.row hb, fun i hi => own_weak (hE.took i hi) hb, fun i hi => own_weak (hE.vals i hi) hb, hE.apT, hE.apV, hE.apTV, hE.neT, hE.neV⟩
  · rename_i h0
    rw [if_neg h0] at h
    exact h
theorem runE_zero {s : ByteArray} {sc : List OpF} (h : runE s sc = 0) : (textF s).1 = 0 ∧ playK (seatsF s) sc = true := by
  unfold runE at h
  by_cases h0 : (textF s).1 = 0
  · rw [if_neg (by simpa using h0)] at h
    cases hp : playK (seatsF s) sc with
    | true => exact ⟨h0, rfl⟩
    | false => rw [hp] at h; cases h
  · rw [if_pos h0] at h; exact absurd h h0

set_option maxHeartbeats 2000000 in
set_option maxRecDepth 100000 in
theorem krun_any (s : ByteArray) (hs : s.size ≤ 1048576) (w : World) (vX : Value) (ins : List (List Int)) (hX : LsAt w vX ins) (vS : Value) (sc : List OpF) (hS : OpsAt w vS sc) :
    Calls Try.prog 11 #[.string s, vX, vS] w fun e w' => ∃ v, e = .returned (.tuple #[v, .bool (decide (runE s sc = 0)), .bool true]) ∧ RunQ s ins sc w.heap.size w' v ∧ Below w.heap.size w w' := by
  have hsm : s.size ≤ maxLen := by unfold maxLen; omega
  have HX := hide hX
  have HS := hide hS
  obtain ⟨A, C, rfl, hm, _⟩ := hS
  clear hX
  go_enter Try.func11, Try.ntmps11
  go_wp2_with fail
  refine (answers_any w).mono ?_
  rintro e w1 ⟨rfl, hb1⟩
  have HW1 := hide hb1
  clear hb1
  go_wp2_with fail
  refine (check_all s w1 hsm).mono ?_
  rintro e w2 ⟨rfl, hb2⟩
  have HW2 : Hid (Below w.heap.size w w2) := hide (HW1.out.trans (hb2.mono HW1.out.size))
  clear hb2
  go_wp2_with fail
  refine (seats_any s w2 hs).mono ?_
  rintro e w3 ⟨vw, rfl, hown, hb3⟩
  have HRW := hide (pc_row hown (Nat.le_trans (seats_len s) hs))
  have HW3 : Hid (Below w.heap.size w w3) := hide (HW2.out.trans (hb3.mono HW2.out.size))
  clear hown hb3
  go_wp2_with fail
  refine (kplayable_any w3 vw (seatsF s) HRW.out _ sc (HS.out.below HW3.out)).mono ?_
  rintro e w4 ⟨rfl, hb4⟩
  have HW4 : Hid (Below w.heap.size w w4) := hide (HW3.out.trans (hb4.mono HW3.out.size))
  clear hb4
  have HRE : Hid (runE s sc = if (textF s).1 ≠ 0 then (textF s).1 else if playK (seatsF s) sc then 0 else 11) := hide rfl
  have HPR := hide (fun W hX hS => prun_any s hsm W vX ins hX (.slice A sc.length C) sc hS)
  have HLN := hide (fun B w' v (h : RunQ s ins sc B w' v) => RunQ.len h (fun h0 => (runE_zero h0).1))
  generalize playK (seatsF s) sc = pk at *
  generalize (textF s).1 = te at *
  have HT0 : Hid (te ≠ 0 → runE s sc = te) := hide (fun h => by rw [HRE.out, if_pos h])
  by_cases ht : te = 0
  · subst ht
    cases pk with
    | true =>
      have HR0 : Hid (runE s sc = 0) := hide (by rw [HRE.out]; rfl)
      rw [HR0.out] at HPR
      go_wp2_with fail
      refine (HPR.out w4 (HX.out.below HW4.out) (HS.out.below HW4.out)).mono ?_
      rintro e w5 ⟨v, rfl, hq, hb5⟩
      have hln := HLN.out _ _ _ hq
      rw [if_pos HR0.out] at hln
      obtain ⟨a, cap, rfl⟩ := hln
      have HQ := hide hq
      have HW5 : Hid (Below w.heap.size w w5) := hide (HW4.out.trans (hb5.mono HW4.out.size))
      clear hq hb5
      go_wp2
      refine bodyPost_ret (v := .tuple #[.slice a sc.length cap, .bool true, .bool true]) (by simp [results, Try.results11, go_sem]) rfl ?_
      exact ⟨_, by first | rfl | (rw [decide_eq_true HR0.out]) | (rw [decide_eq_false HR0.out]), runQ_weak HQ.out HW4.out.size, HW5.out⟩
    | false =>
      have HR0 : Hid (runE s sc ≠ 0) := hide (by rw [HRE.out]; decide)
      have HR1 : Hid (runE s sc = 11) := hide (by rw [HRE.out]; rfl)
      rw [HR1.out] at HPR
      go_wp2_with fail
      refine (HPR.out w4 (HX.out.below HW4.out) (HS.out.below HW4.out)).mono ?_
      rintro e w5 ⟨v, rfl, hq, hb5⟩
      have hln := HLN.out _ _ _ hq
      rw [if_neg HR0.out] at hln
      obtain ⟨a, cap, rfl⟩ := hln
      have HQ := hide hq
      have HW5 : Hid (Below w.heap.size w w5) := hide (HW4.out.trans (hb5.mono HW4.out.size))
      clear hq hb5
      go_wp2
      refine bodyPost_ret (v := .tuple #[.slice a 0 cap, .bool false, .bool true]) (by simp [results, Try.results11, go_sem]) rfl ?_
      exact ⟨_, by first | rfl | (rw [decide_eq_true HR0.out]) | (rw [decide_eq_false HR0.out]), runQ_weak HQ.out HW4.out.size, HW5.out⟩
  · have q0 : ((te : Int) == 0) = false := by rw [beq_eq_false_iff_ne]; omega
    have q1 : ((te : Int) != 0) = true := by rw [bne_iff_ne]; omega
    have HR0 : Hid (runE s sc ≠ 0) := hide (by rw [HT0.out ht]; exact ht)
    rw [HT0.out ht] at HPR
    go_wp2_with fail
    refine (HPR.out w4 (HX.out.below HW4.out) (HS.out.below HW4.out)).mono ?_
    rintro e w5 ⟨v, rfl, hq, hb5⟩
    have hln := HLN.out _ _ _ hq
    rw [if_neg HR0.out] at hln
    obtain ⟨a, cap, rfl⟩ := hln
    have HQ := hide hq
    have HW5 : Hid (Below w.heap.size w w5) := hide (HW4.out.trans (hb5.mono HW4.out.size))
    clear hq hb5
    go_wp2
    refine bodyPost_ret (v := .tuple #[.slice a 0 cap, .bool false, .bool true]) (by simp [results, Try.results11, go_sem]) rfl ?_
    exact ⟨_, by first | rfl | (rw [decide_eq_true HR0.out]) | (rw [decide_eq_false HR0.out]), runQ_weak HQ.out HW4.out.size, HW5.out⟩

end Go.Proofs.Ytmndgoapkmhglab

/- with, refused. -/
namespace Go.Proofs.Ytmndgoapkmhglab
open Go.RowKit
attribute [local go_sem ↓] Go.wp_at_zero Go.wp_at_succ

theorem Try.infoActB : (Try.prog.info? 43).map (fun i => (i.zero, i.size, i.bytes)) = some (some (.agg #[.int .i64 0, .int .i64 0, .int .i64 0, .int .i64 0]), 4, 32) := by kernel_rfl

theorem copy_whole (w W : World) (N : Nat) (sc : List OpF) (A : Option Addr) (C : Nat) (z : Array Value) (hz : z.size = sc.length * 4) (hW : Below w.heap.size w W) (hN : W.heap.size = N) (h : OpsAt w (.slice A sc.length C) sc) (hp : 0 < sc.length) :
    (Builtin.copy_ #[32, 32] 3 #[.slice (some ⟨N, 0, none⟩) sc.length sc.length, .slice A sc.length C]).run Try.prog (W.alloc (.cells z 43)) = .ok (goInt sc.length) ((W.alloc (.cells z 43)).setCells N 0 (opCells sc)) := by
  subst hN
  have hsz : (Try.prog.info? 43).map (·.size) = some 4 := by have := Try.infoActB; cases hq : Try.prog.info? 43 with | none => rw [hq] at this; cases this | some i => rw [hq] at this; simp at this; simp [this]
  have hmin : Nat.min sc.length sc.length = sc.length := Nat.min_self _
  obtain ⟨b, o, rfl, hb, hsrc⟩ := ops_src h hp
  have hn : (opCells sc).length = Nat.min sc.length sc.length * 4 := by rw [opCells_len, hmin]
  have hnew : (W.alloc (.cells z 43)).heap[W.heap.size]? = some (.cells z 43 (0, 0)) := heap_alloc_new _ _
  have hr := run_copy_wide (P := Try.prog) (W.alloc (.cells z 43)) 32 32 3 43 W.heap.size sc.length sc.length ⟨b, o, none⟩ sc.length C 4 (opCells sc) Try.underlying32 hsz hn
    (fun j v hv => by
      have h1 := hsrc j v hv
      rw [Addr.add_lit] at h1 ⊢
      rw [World.cell?_alloc_past _ _ _ (Nat.lt_of_lt_of_le hb hW.size)]
      exact (hW.cell (p := ⟨b, o + j, none⟩) hb).trans h1)
    (fun j hj => by
      rw [opCells_len] at hj
      rw [cell_of_row _ _ _ _ _ _ hnew]
      simp [hz]; omega)
    (fun j hj => frozen_of_row _ _ _ _ _ hnew)
    (fun v hv => by
      simp only [opCells, List.mem_flatMap, List.mem_cons, List.not_mem_nil, or_false] at hv
      obtain ⟨x, _, rfl | rfl | rfl | rfl⟩ := hv <;> rfl)
  rw [hmin] at hr
  exact hr

theorem setCells_row {g : Nat} {t : TypeId} {m : Nat} : ∀ (cs : List Value) (k : Nat) (W : World) (f : Nat → Value), W.rowIs g t m f → ∃ f', (W.setCells g k cs).rowIs g t m f' := by
  intro cs
  induction cs with
  | nil => intro k W f hW; exact ⟨f, hW⟩
  | cons c r ih => intro k W f hW; exact ih _ _ _ (hW.set k c)

set_option maxHeartbeats 4000000 in
set_option maxRecDepth 100000 in
theorem kwith_any (w : World) (A : Option Addr) (C : Nat) (sc : List OpF) (h : OpsAt w (.slice A sc.length C) sc) (i : Nat) (hi : i < sc.length) (x : OpF) :
    Calls Try.prog 21 #[.slice A sc.length C, .int .i64 (i : Int), .agg #[.int .i64 x.k, .int .i64 x.a, .int .i64 x.b, .int .i64 x.c]] w fun e w' => ∃ v, e = .returned v ∧ OpsAt w' v (sc.set i x) ∧ Below w.heap.size w w' := by
  have hol : sc.length ≤ 4398046511104 := by obtain ⟨_, _, _, hl, _⟩ := h; exact hl
  obtain ⟨xk, xa, xb, xc⟩ := x
  obtain ⟨i4, hi4, hz4, hs4, hb4⟩ := info_parts Try.infoActB
  have hmk : ∀ w : World, (Instr.makeSlice 32 (.int .i64 (sc.length : Int)) (.int .i64 (sc.length : Int))).run Try.prog w = .ok (.slice (some ⟨w.heap.size, 0, none⟩) sc.length sc.length) (w.alloc (.cells (madeCells #[.int .i64 0, .int .i64 0, .int .i64 0, .int .i64 0] (sc.length * 4)) 43)) := fun w => by
    have := run_make (P := Try.prog) w 32 43 i4 _ Try.underlying32 hi4 hz4 .i64 .i64 sc.length sc.length (by omega) (by omega) (by rw [hb4]; omega) (by omega)
    rw [hs4] at this
    simpa [Value.cells] using this
  obtain ⟨W0, hW0⟩ : ∃ W0, W0 = w.alloc (.cells #[.int .i64 xk, .int .i64 xa, .int .i64 xb, .int .i64 xc] 43) := ⟨_, rfl⟩
  have hB0 : Below w.heap.size w W0 := by rw [hW0]; exact (Below.refl _ _).alloc (Nat.le_refl _) _
  have hS0 : W0.heap.size = w.heap.size + 1 := by rw [hW0]; simp
  have hA0 : ActAt W0 w.heap.size ⟨xk, xa, xb, xc⟩ := by rw [hW0]; exact ActAt.boxed w ⟨xk, xa, xb, xc⟩
  have hcp := copy_whole w W0 (w.heap.size + 1) sc A C (madeCells #[.int .i64 0, .int .i64 0, .int .i64 0, .int .i64 0] (sc.length * 4)) (size_madeCells _ _) hB0 hS0 h (by omega)
  have hr0 := World.rowIs_alloc W0 (madeCells #[.int .i64 0, .int .i64 0, .int .i64 0, .int .i64 0] (sc.length * 4)) 43 (fun i => ((madeCells #[.int .i64 0, .int .i64 0, .int .i64 0, .int .i64 0] (sc.length * 4))[i]?).getD (.int .i64 0)) (fun i hi => by simp [hi])
  rw [size_madeCells, hS0] at hr0
  obtain ⟨f, hf⟩ := setCells_row (opCells sc) 0 _ _ hr0
  obtain ⟨w1, hw1⟩ : ∃ w1, w1 = (W0.alloc (.cells (madeCells #[.int .i64 0, .int .i64 0, .int .i64 0, .int .i64 0] (sc.length * 4)) 43)).setCells (w.heap.size + 1) 0 (opCells sc) := ⟨_, rfl⟩
  have hb1 : Below (w.heap.size + 1) W0 w1 := by rw [hw1]; exact below_setCells (((Below.refl _ _).alloc (by omega) _)) (Nat.le_refl _) _ _
  have hA1 : ActAt w1 w.heap.size ⟨xk, xa, xb, xc⟩ := World.rowIs.of_block hA0 (hb1.block _ (by omega))
  have hbw : Below w.heap.size w w1 := hB0.trans (hb1.mono (by omega))
  have hcells : ∀ j, j < sc.length * 4 → w1.cell? ⟨w.heap.size + 1, j, none⟩ = (opCells sc)[j]? := fun j hj => by
    rw [hw1]
    have hin := World.cell?_setCells_in (w.heap.size + 1) (opCells sc) 0 (W0.alloc (.cells (madeCells #[.int .i64 0, .int .i64 0, .int .i64 0, .int .i64 0] (sc.length * 4)) 43)) (fun j hj => by
      rw [opCells_len] at hj
      rw [Nat.zero_add, hr0.cell (by omega)]; rfl) j (by rw [opCells_len]; exact hj)
    rw [Nat.zero_add] at hin
    rw [hin, List.getElem?_eq_getElem (by rw [opCells_len]; exact hj)]
  rw [← hw1] at hf hcp
  rw [hW0] at hcp
  have y0 := hf.cell (i := i * 4) (by omega)
  have y1 := hf.cell (i := i * 4 + 1) (by omega)
  have y2 := hf.cell (i := i * 4 + 2) (by omega)
  have y3 := hf.cell (i := i * 4 + 3) (by omega)
  have f0 := hf.frozen (i * 4)
  have f1 := hf.frozen (i * 4 + 1)
  have f2 := hf.frozen (i * 4 + 2)
  have f3 := hf.frozen (i * 4 + 3)
  obtain ⟨c0, c1, c2, c3⟩ := hA1.cells
  simp only [] at c0 c1 c2 c3
  have HF := hide hf
  have HCL := hide hcells
  have HBW := hide hbw
  have HW0' := hide hS0
  have j1 : (0 : Int) ≤ (i : Int) := by omega
  have j2 : (i : Int) < (sc.length : Int) := by omega
  clear hf hcells hbw hA1 hA0 hb1 hB0 hr0 hw1 hW0 hS0 h hi4 hz4 hs4 hb4
  go_enter Try.func21, Try.ntmps21
  go_wp2
  go_ret
  have hf4 := ((((HF.out.set (i * 4) (.int .i64 xk)).set (i * 4 + 1) (.int .i64 xa)).set (i * 4 + 2) (.int .i64 xb)).set (i * 4 + 3) (.int .i64 xc))
  refine ⟨_, rfl, ⟨some ⟨w.heap.size + 1, 0, none⟩, sc.length, by rw [List.length_set]; rfl, by rw [List.length_set]; exact hol, fun _ => ⟨w.heap.size + 1, 0, rfl, hf4.lt, fun j hj => ?_⟩⟩, ?_⟩
  · have hj' : j < sc.length := by rw [List.length_set] at hj; exact hj
    rw [Nat.zero_add]
    by_cases e : j = i
    · subst e
      rw [List.getElem_set_self]
      refine ⟨?_, ?_, ?_, ?_⟩
      · rw [hf4.cell (by omega)]; simp
      · rw [hf4.cell (by omega)]; simp
      · rw [hf4.cell (by omega)]; simp
      · rw [hf4.cell (by omega)]; simp
    · rw [List.getElem_set_ne (Ne.symm e)]
      obtain ⟨g0, g1, g2, g3⟩ := opCells_get sc j hj'
      have old : ∀ c, c < 4 → ∀ v, (opCells sc)[j * 4 + c]? = some v → ((((w1.setCell ⟨w.heap.size + 1, i * 4, none⟩ (.int .i64 xk)).setCell ⟨w.heap.size + 1, i * 4 + 1, none⟩ (.int .i64 xa)).setCell ⟨w.heap.size + 1, i * 4 + 2, none⟩ (.int .i64 xb)).setCell ⟨w.heap.size + 1, i * 4 + 3, none⟩ (.int .i64 xc)).cell? ⟨w.heap.size + 1, j * 4 + c, none⟩ = some v := fun c hc v hv => by
        rw [← hv, ← HCL.out (j * 4 + c) (by omega), HF.out.cell (by omega), hf4.cell (by omega)]
        rw [if_neg (by omega), if_neg (by omega), if_neg (by omega), if_neg (by omega)]
      exact ⟨old 0 (by omega) _ g0, old 1 (by omega) _ g1, old 2 (by omega) _ g2, old 3 (by omega) _ g3⟩
  · exact (((HBW.out.setCell (by show w.heap.size ≤ w.heap.size + 1; omega) _).setCell (by show w.heap.size ≤ w.heap.size + 1; omega) _).setCell (by show w.heap.size ≤ w.heap.size + 1; omega) _).setCell (by show w.heap.size ≤ w.heap.size + 1; omega) _

set_option maxHeartbeats 1000000 in
theorem krefused_any (s : ByteArray) (hs : s.size ≤ maxLen) (w : World) (vX : Value) (ins : List (List Int)) (hX : LsAt w vX ins) (vS : Value) (sc : List OpF) (hS : OpsAt w vS sc) (hE : runE s sc = 11) :
    Calls Try.prog 22 #[.string s, vX, vS] w fun e w' => e = .returned (.bool true) ∧ Below w.heap.size w w' := by
  have HR := hide (prun_any s hs w vX ins hX vS sc hS)
  rw [hE] at HR
  have HQ : Hid (∀ B w' v, RunQ s ins sc B w' v → ∃ a cap, v = .slice a 0 cap) := hide (fun B w' v h => by unfold RunQ at h; rw [if_neg (by rw [hE]; omega)] at h; exact h)
  clear hE
  go_enter Try.func22, Try.ntmps22
  go_wp2_with fail
  refine HR.out.mono ?_
  rintro e w1 ⟨v, rfl, hq, hb⟩
  obtain ⟨a, cap, rfl⟩ := HQ.out _ _ _ hq
  clear hq
  go_wp2
  go_ret
  exact ⟨rfl, hb⟩

end Go.Proofs.Ytmndgoapkmhglab
