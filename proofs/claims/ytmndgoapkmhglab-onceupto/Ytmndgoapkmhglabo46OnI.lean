import Derived.Deep.RegionHeld3
import Derived.Test.Ytmndgoapkmhglabo23JudI
import Derived.Test.Ytmndgoapkmhglabo29LawP
import Derived.Test.Ytmndgoapkmhglabo35OpenT
namespace Go.Proofs.Ytmndgoapkmhglab
open Go.RowKit
attribute [local go_sem ↓] Go.wp_at_zero Go.wp_at_succ
theorem Try.infoLine : (Try.prog.info? 91).map (fun i => (i.zero, i.size, i.bytes)) = some (some (.agg #[.int .i64 0, .int .i64 0, .int .i64 0, .int .i64 0, .int .i64 0, .int .i64 0, .int .i64 0]), 7, 56) := by kernel_rfl
theorem Try.infoIntB : (Try.prog.info? 3).map (fun i => (i.zero, i.size, i.bytes)) = some (some (.int .i64 0), 1, 8) := by kernel_rfl
def lineR (ws : List Nat) (r : Rt) : LiF := ⟨((ws.getD r.src 0 : Nat) : Int), (r.dst : Int), (if r.late then 1 else 0), 0, 0, 0, 0⟩
def liCells (ws : List Nat) (l : List Rt) : List Value := l.flatMap fun r => [.int .i64 ((ws.getD r.src 0 : Nat) : Int), .int .i64 (r.dst : Int), .int .i64 (if r.late then 1 else 0), .int .i64 0, .int .i64 0, .int .i64 0, .int .i64 0]
theorem liCells_snoc (ws : List Nat) (l : List Rt) (r : Rt) : liCells ws (l ++ [r]) = liCells ws l ++ [.int .i64 ((ws.getD r.src 0 : Nat) : Int), .int .i64 (r.dst : Int), .int .i64 (if r.late then 1 else 0), .int .i64 0, .int .i64 0, .int .i64 0, .int .i64 0] := by simp [liCells]
def BookAt (w : World) (b : Nat) (vL : Value) (gS gT : Nat) : Prop := w.rowIs b 87 3 (fun i => if i = 0 then vL else if i = 1 then .slice (some ⟨gS, 0, none⟩) 4 4 else .slice (some ⟨gT, 0, none⟩) 4 4)
theorem BookAt.new (w : World) (gS gT : Nat) : BookAt (w.alloc (.cells #[.slice none 0 0, .slice (some ⟨gS, 0, none⟩) 4 4, .slice (some ⟨gT, 0, none⟩) 4 4] 87)) w.heap.size (.slice none 0 0) gS gT :=
  World.rowIs_alloc w _ _ _ (fun i hi => by
    have : i < 3 := hi
    have : i = 0 ∨ i = 1 ∨ i = 2 := by omega
    rcases this with rfl | rfl | rfl <;> rfl)
theorem BookAt.set {w : World} {b : Nat} {vL : Value} {gS gT : Nat} (h : BookAt w b vL gS gT) (v : Value) : BookAt (w.setCell ⟨b, 0, none⟩ v) b v gS gT := (World.rowIs.set h 0 v).congr (fun i _ => by
  by_cases e : i = 0
  · rw [if_pos e, if_pos e]
  · rw [if_neg e, if_neg e, if_neg e])
theorem lines_of {w : World} {B g cW : Nat} {ws : List Nat} {ls : List Rt} (h : w.ownsRow B 91 7 (.slice (some ⟨g, 0, none⟩) ls.length cW) ls.length (liCells ws ls)) : Lines w g ls.length (fun l => lineR ws (ls.getD l ⟨0, 0, false⟩)) := by
  rcases h.2 with ⟨e, _⟩ | ⟨g', cap, cur, e, _, hc, hcap, _, hsz, hx⟩
  · cases e
  · cases e
    refine ⟨cur.size, fun i => (cur[i]?).getD (.int .i64 0), ⟨cur, hc, rfl, fun i hi => by simp [hi]⟩, fun l hl j hj => ?_⟩
    have hlt : l * 7 + j < ls.length * 7 := by omega
    have hcell : cur[l * 7 + j]? = some ((lineR ws (ls.getD l ⟨0, 0, false⟩)).cell j) := by
      have h1 : (liCells ws ls)[l * 7 + j]? = some ((lineR ws (ls.getD l ⟨0, 0, false⟩)).cell j) := by
        unfold liCells
        have e : ls.getD l ⟨0, 0, false⟩ = ls[l] := by rw [List.getD_eq_getElem?_getD, List.getElem?_eq_getElem hl]; rfl
        rw [flat_get _ 7 (fun _ => rfl) ls l j hl hj, e]
        have : j = 0 ∨ j = 1 ∨ j = 2 ∨ j = 3 ∨ j = 4 ∨ j = 5 ∨ j = 6 := by omega
        rcases this with rfl | rfl | rfl | rfl | rfl | rfl | rfl <;> rfl
      rw [← hx, List.getElem?_take, if_pos (by omega), Array.getElem?_toList] at h1
      exact h1
    refine ⟨(Array.getElem?_eq_some_iff.1 hcell).1, ?_⟩
    show (cur[l * 7 + j]?).getD (.int .i64 0) = _
    rw [hcell]
    rfl
def BookQ (w : World) (rs : List Rt) (ws : List Nat) (b : Nat) (w' : World) : Prop := ∃ aL cL gS gT, Bk w' w.heap.size b aL rs.length cL gS gT (fun l => lineR ws (rs.getD l ⟨0, 0, false⟩)) (fun _ => 0) (fun _ => 0) ∧ (rs.length = 0 → aL = none) ∧ Below w.heap.size w w'
set_option maxHeartbeats 8000000 in
set_option maxRecDepth 100000 in
theorem kbook_any (w : World) (vR : Value) (rs : List Rt) (hR : w.ownsRow 0 89 3 vR rs.length (rtCells rs)) (vw : Value) (ws : List Nat) (hW : RowAt w vw (ws.map fun (p : Nat) => (p : Int))) (hr : ∀ r ∈ rs, r.src < ws.length ∧ r.dst < 4) (hl : rs.length ≤ 6100) :
    Calls Try.prog 16 #[vR, vw] w fun e w' => ∃ b, e = .returned (.tuple #[.pointer (some ⟨b, 0, none⟩), .bool true]) ∧ BookQ w rs ws b w' := by
  obtain ⟨i0, hi0, hz0, hz1, hz2⟩ := info_parts Try.infoLine
  have hm4 := run_make_row' (P := Try.prog) 38 3 (.int .i64 0) 8 Try.underlying38 Try.infoIntB rfl .i64 .i64 4 (by omega) (by omega)
  simp only [show ((4 : Nat) : Int) = 4 from rfl] at hm4
  obtain ⟨aR, cR, rfl, hshR⟩ := own_shape hR
  have HR := hide hR
  have HW := hide hW
  obtain ⟨aw, cw, rfl, hwm, hwc⟩ := hW
  rw [List.length_map] at *
  have HWC := hide hwc
  have HSH := hide hshR
  have HRR := hide hr
  clear hR hwc hshR hr
  go_enter Try.func16, Try.ntmps16
  go_wp2_with fail
  go_region_held3 (fun _ => True) (trivial) (fail)
  obtain ⟨wB, hwB⟩ : ∃ wB, wB = (((w.alloc (.cells (madeCells #[.int .i64 0] 4) 3)).alloc (.cells (madeCells #[.int .i64 0] 4) 3)).alloc (.cells #[.slice none 0 0, .slice (some ⟨w.heap.size, 0, none⟩) 4 4, .slice (some ⟨w.heap.size + 1, 0, none⟩) 4 4] 87)).drew := ⟨_, rfl⟩
  have HST : Hid (∃ gS gT, BookAt wB (w.heap.size + 1 + 1) (.slice none 0 0) gS gT ∧ wB.rowIs gS 3 4 (fun _ => .int .i64 0) ∧ wB.rowIs gT 3 4 (fun _ => .int .i64 0) ∧ (gS ≠ gT ∧ w.heap.size ≤ gS ∧ gS < w.heap.size + 2 ∧ w.heap.size ≤ gT ∧ gT < w.heap.size + 2) ∧ Below w.heap.size w wB ∧ wB.heap.size = w.heap.size + 3) := hide (by
    have ha := (((World.rowIs_made w (.int .i64 0) 4 3).alloc (.cells (madeCells #[.int .i64 0] 4) 3)).alloc (.cells #[.slice none 0 0, .slice (some ⟨w.heap.size, 0, none⟩) 4 4, .slice (some ⟨w.heap.size + 1, 0, none⟩) 4 4] 87))
    have hb := ((World.rowIs_made (w.alloc (.cells (madeCells #[.int .i64 0] 4) 3)) (.int .i64 0) 4 3).alloc (.cells #[.slice none 0 0, .slice (some ⟨w.heap.size, 0, none⟩) 4 4, .slice (some ⟨w.heap.size + 1, 0, none⟩) 4 4] 87))
    have hc := BookAt.new ((w.alloc (.cells (madeCells #[.int .i64 0] 4) 3)).alloc (.cells (madeCells #[.int .i64 0] 4) 3)) (w.heap.size) (w.heap.size + 1)
    simp only [World.size_alloc] at hb hc
    refine ⟨w.heap.size, w.heap.size + 1, ?_, ?_, ?_, by omega, ?_, ?_⟩
    · rw [hwB]; exact World.rowIs.of_block hc rfl
    · rw [hwB]; exact World.rowIs.of_block ha rfl
    · rw [hwB]; exact World.rowIs.of_block hb rfl
    · rw [hwB]; exact ((((Below.refl _ _).alloc (Nat.le_refl _) _).alloc (by simp) _).alloc (by simp; omega) _).drew
    · rw [hwB]; simp)
  rw [← hwB]
  clear hwB
  rotate_left
  obtain ⟨wB, hwB⟩ : ∃ wB, wB = (((w.alloc (.cells (madeCells #[.int .i64 0] 4) 3)).alloc (.cells (madeCells #[.int .i64 0] 4) 3)).alloc (.cells #[.slice none 0 0, .slice (some ⟨w.heap.size + 1, 0, none⟩) 4 4, .slice (some ⟨w.heap.size, 0, none⟩) 4 4] 87)).drew := ⟨_, rfl⟩
  have HST : Hid (∃ gS gT, BookAt wB (w.heap.size + 1 + 1) (.slice none 0 0) gS gT ∧ wB.rowIs gS 3 4 (fun _ => .int .i64 0) ∧ wB.rowIs gT 3 4 (fun _ => .int .i64 0) ∧ (gS ≠ gT ∧ w.heap.size ≤ gS ∧ gS < w.heap.size + 2 ∧ w.heap.size ≤ gT ∧ gT < w.heap.size + 2) ∧ Below w.heap.size w wB ∧ wB.heap.size = w.heap.size + 3) := hide (by
    have ha := (((World.rowIs_made w (.int .i64 0) 4 3).alloc (.cells (madeCells #[.int .i64 0] 4) 3)).alloc (.cells #[.slice none 0 0, .slice (some ⟨w.heap.size + 1, 0, none⟩) 4 4, .slice (some ⟨w.heap.size, 0, none⟩) 4 4] 87))
    have hb := ((World.rowIs_made (w.alloc (.cells (madeCells #[.int .i64 0] 4) 3)) (.int .i64 0) 4 3).alloc (.cells #[.slice none 0 0, .slice (some ⟨w.heap.size + 1, 0, none⟩) 4 4, .slice (some ⟨w.heap.size, 0, none⟩) 4 4] 87))
    have hc := BookAt.new ((w.alloc (.cells (madeCells #[.int .i64 0] 4) 3)).alloc (.cells (madeCells #[.int .i64 0] 4) 3)) (w.heap.size + 1) (w.heap.size)
    simp only [World.size_alloc] at hb hc
    refine ⟨w.heap.size + 1, w.heap.size, ?_, ?_, ?_, by omega, ?_, ?_⟩
    · rw [hwB]; exact World.rowIs.of_block hc rfl
    · rw [hwB]; exact World.rowIs.of_block hb rfl
    · rw [hwB]; exact World.rowIs.of_block ha rfl
    · rw [hwB]; exact ((((Below.refl _ _).alloc (Nat.le_refl _) _).alloc (by simp) _).alloc (by simp; omega) _).drew
    · rw [hwB]; simp)
  rw [← hwB]
  clear hwB
  rotate_left
  all_goals
    obtain ⟨gS, gT, hb0, hg0, ht0, ⟨ngt, gs1, gs2, gt1, gt2⟩, hbw0, hsB⟩ := HST.out
    have HB0 := hide hb0
    have HG0 := hide hg0
    have HT0 := hide ht0
    have HBW0 := hide hbw0
    have HSB := hide hsB
    clear hb0 hg0 ht0 hbw0 hsB HST hm4
    go_wp2
    go_loopw [7] (fun vi wr => ∃ (k : Nat) (vL : Value), k ≤ rs.length ∧ vi = .int .i64 k ∧ (k = 0 → vL = .slice none 0 0) ∧ BookAt wr (w.heap.size + 1 + 1) vL gS gT ∧ wr.rowIs gS 3 4 (fun _ => .int .i64 0) ∧ wr.rowIs gT 3 4 (fun _ => .int .i64 0) ∧ wr.ownsRow wB.heap.size 91 7 vL k (liCells ws (rs.take k)) ∧ Below w.heap.size w wr ∧ wB.heap.size ≤ wr.heap.size) (fun vi _ => rs.length - (intOf vi).toNat)
    case atStart => exact ⟨0, _, Nat.zero_le _, rfl, fun _ => rfl, HB0.out, HG0.out, HT0.out, World.ownsRow_nil _ _ _ _, HBW0.out, Nat.le_refl _⟩
    case round =>
      obtain ⟨k, vL, hk, rfl, hk0, hbk, hgs, hgt, hown, hbw, hszr⟩ := hrel
      have hsB := HSB.out
      by_cases hkl : k < rs.length
      · obtain ⟨gR, rfl, _, hgR⟩ := HSH.out (by omega)
        have hol := own_same HR.out (fun g hg => hbw.block g (HR.out.lt g hg).2)
        obtain ⟨r, hr⟩ : ∃ r, r = rs[k]'hkl := ⟨_, rfl⟩
        obtain ⟨x0, x1, x2⟩ := rtAt_cells hol hkl r hr
        obtain ⟨hr1, hr2⟩ := HRR.out r (by rw [hr]; exact List.getElem_mem hkl)
        obtain ⟨bw, ow, rfl, hbwl, hcw⟩ := HWC.out (by rw [List.length_map]; omega)
        have y0 := hcw r.src (by rw [List.length_map]; exact hr1)
        rw [List.getElem_map] at y0
        obtain ⟨p, hp⟩ : ∃ p, p = ws[r.src]'hr1 := ⟨_, rfl⟩
        rw [← hp] at y0
        have hpd : ws.getD r.src 0 = p := by rw [List.getD_eq_getElem?_getD, List.getElem?_eq_getElem hr1, hp]; rfl
        have y1 := (hbw.cell (p := ⟨bw, ow + r.src, none⟩) hbwl).trans y0
        obtain ⟨wa, hwa⟩ : ∃ wa, wa = wr.alloc (.cells #[.int .i64 (r.src : Int), .int .i64 (r.dst : Int), .bool r.late] 89) := ⟨_, rfl⟩
        have hsa : wa.heap.size = wr.heap.size + 1 := by rw [hwa]; simp
        have hba : Below wr.heap.size wr wa := by rw [hwa]; exact (Below.refl _ _).alloc (Nat.le_refl _) _
        have d0 : wa.cell? ⟨wr.heap.size, 0, none⟩ = some (.int .i64 (r.src : Int)) := by rw [hwa]; exact box_cell _ _ _ _ _ rfl
        have d1 : wa.cell? ⟨wr.heap.size, 1, none⟩ = some (.int .i64 (r.dst : Int)) := by rw [hwa]; exact box_cell _ _ _ _ _ rfl
        have d2 : wa.cell? ⟨wr.heap.size, 2, none⟩ = some (.bool r.late) := by rw [hwa]; exact box_cell _ _ _ _ _ rfl
        have y2 : wa.cell? ⟨bw, ow + r.src, none⟩ = some (.int .i64 (p : Int)) := (hba.cell (p := ⟨bw, ow + r.src, none⟩) (by show bw < wr.heap.size; omega)).trans y1
        have d0a : ∀ u, (wa.alloc u).cell? ⟨wr.heap.size, 0, none⟩ = some (.int .i64 (r.src : Int)) := fun u => (World.cell?_alloc_past _ _ _ (by show wr.heap.size < wa.heap.size; omega)).trans d0
        have d1a : ∀ u, (wa.alloc u).cell? ⟨wr.heap.size, 1, none⟩ = some (.int .i64 (r.dst : Int)) := fun u => (World.cell?_alloc_past _ _ _ (by show wr.heap.size < wa.heap.size; omega)).trans d1
        have y2a : ∀ u, (wa.alloc u).cell? ⟨bw, ow + r.src, none⟩ = some (.int .i64 (p : Int)) := fun u => (World.cell?_alloc_past _ _ _ (by show bw < wa.heap.size; omega)).trans y2
        obtain ⟨wb, hwb⟩ : ∃ wb, wb = (wa.alloc (.cells #[.int .i64 (p : Int), .int .i64 (r.dst : Int), .int .i64 0, .int .i64 0, .int .i64 0, .int .i64 0, .int .i64 0] 91)).drew := ⟨_, rfl⟩
        have hrow : wb.rowIs wa.heap.size 91 7 (fun i => if i = 0 then .int .i64 (p : Int) else if i = 1 then .int .i64 (r.dst : Int) else .int .i64 0) := by
          rw [hwb]
          refine World.rowIs.of_block (World.rowIs_alloc wa _ _ _ (fun i hi => ?_)) rfl
          have : i < 7 := hi
          have : i = 0 ∨ i = 1 ∨ i = 2 ∨ i = 3 ∨ i = 4 ∨ i = 5 ∨ i = 6 := by omega
          rcases this with rfl | rfl | rfl | rfl | rfl | rfl | rfl <;> rfl
        have hbb : Below wa.heap.size wa wb := by rw [hwb]; exact ((Below.refl _ _).alloc (Nat.le_refl _) _).drew
        have hszb : wb.heap.size = wa.heap.size + 1 := by rw [hwb]; simp
        have d2b : wb.cell? ⟨wr.heap.size, 2, none⟩ = some (.bool r.late) := (hbb.cell (p := ⟨wr.heap.size, 2, none⟩) (by show wr.heap.size < wa.heap.size; omega)).trans d2
        have b2 : wb.cell? ⟨wa.heap.size, 2, none⟩ = some (.int .i64 0) := hrow.cell (i := 2) (by omega)
        have f2 := hrow.frozen 2
        obtain ⟨lt, hlt⟩ : ∃ lt : Int, lt = if r.late then 1 else 0 := ⟨_, rfl⟩
        obtain ⟨wc, hwc⟩ : ∃ wc, wc = if r.late then wb.setCell ⟨wa.heap.size, 2, none⟩ (.int .i64 1) else wb := ⟨_, rfl⟩
        have hrowc : wc.rowIs wa.heap.size 91 7 (fun i => if i = 0 then .int .i64 (p : Int) else if i = 1 then .int .i64 (r.dst : Int) else if i = 2 then .int .i64 lt else .int .i64 0) := by
          rw [hwc, hlt]
          cases r.late with
          | true =>
            refine (hrow.set 2 (.int .i64 1)).congr (fun i _ => ?_)
            by_cases e : i = 2
            · subst e; rfl
            · rw [if_neg e]
              by_cases e0 : i = 0
              · rw [if_pos e0, if_pos e0]
              · rw [if_neg e0, if_neg e0]
                by_cases e1 : i = 1
                · rw [if_pos e1, if_pos e1]
                · rw [if_neg e1, if_neg e1, if_neg e]
          | false =>
            refine hrow.congr (fun i _ => ?_)
            by_cases e : i = 2
            · subst e; rfl
            · by_cases e0 : i = 0
              · rw [if_pos e0, if_pos e0]
              · rw [if_neg e0, if_neg e0]
                by_cases e1 : i = 1
                · rw [if_pos e1, if_pos e1]
                · rw [if_neg e1, if_neg e1, if_neg e]
        have hbc : Below wa.heap.size wa wc := by
          rw [hwc]
          cases r.late with
          | true => exact hbb.setCell (Nat.le_refl _) _
          | false => exact hbb
        have hszc : wc.heap.size = wa.heap.size + 1 := by
          rw [hwc]
          cases r.late with
          | true => simpa using hszb
          | false => exact hszb
        have hwr : Below wr.heap.size wr wc := hba.trans (hbc.mono hba.size)
        have hbkc : BookAt wc (w.heap.size + 1 + 1) vL gS gT := World.rowIs.of_block hbk (hwr.block _ (World.rowIs.lt hbk))
        have howc : wc.ownsRow wB.heap.size 91 7 vL k (liCells ws (rs.take k)) := bel_own hown hwr
        have lb := World.rowIs.lt hbkc
        have lbr := World.rowIs.lt hbk
        have cb : wc.cell? ⟨w.heap.size + 1 + 1, 0, none⟩ = some vL := World.rowIs.cell hbkc (i := 0) (by omega)
        have ca : ∀ u, (wc.alloc u).cell? ⟨w.heap.size + 1 + 1, 0, none⟩ = some vL := fun u => (World.cell?_alloc_past _ _ _ lb).trans cb
        have fa : ∀ u, (wc.alloc u).frozen? ⟨w.heap.size + 1 + 1, 0, none⟩ = false := fun u => (World.frozen?_alloc_past _ _ _ lb).trans (World.rowIs.frozen hbkc 0)
        have sc : wc.cell? ⟨wa.heap.size, 0, none⟩ = some (.int .i64 (p : Int)) ∧ wc.cell? ⟨wa.heap.size, 1, none⟩ = some (.int .i64 (r.dst : Int)) ∧ wc.cell? ⟨wa.heap.size, 2, none⟩ = some (.int .i64 lt) ∧ wc.cell? ⟨wa.heap.size, 3, none⟩ = some (.int .i64 0) ∧ wc.cell? ⟨wa.heap.size, 4, none⟩ = some (.int .i64 0) ∧ wc.cell? ⟨wa.heap.size, 5, none⟩ = some (.int .i64 0) ∧ wc.cell? ⟨wa.heap.size, 6, none⟩ = some (.int .i64 0) := ⟨hrowc.cell (i := 0) (by omega), hrowc.cell (i := 1) (by omega), hrowc.cell (i := 2) (by omega), hrowc.cell (i := 3) (by omega), hrowc.cell (i := 4) (by omega), hrowc.cell (i := 5) (by omega), hrowc.cell (i := 6) (by omega)⟩
        have sa : ∀ u, (wc.alloc u).cell? ⟨wa.heap.size, 0, none⟩ = some (.int .i64 (p : Int)) ∧ (wc.alloc u).cell? ⟨wa.heap.size, 1, none⟩ = some (.int .i64 (r.dst : Int)) ∧ (wc.alloc u).cell? ⟨wa.heap.size, 2, none⟩ = some (.int .i64 lt) ∧ (wc.alloc u).cell? ⟨wa.heap.size, 3, none⟩ = some (.int .i64 0) ∧ (wc.alloc u).cell? ⟨wa.heap.size, 4, none⟩ = some (.int .i64 0) ∧ (wc.alloc u).cell? ⟨wa.heap.size, 5, none⟩ = some (.int .i64 0) ∧ (wc.alloc u).cell? ⟨wa.heap.size, 6, none⟩ = some (.int .i64 0) := fun u => by
          have hh := hrowc.alloc u
          exact ⟨hh.cell (i := 0) (by omega), hh.cell (i := 1) (by omega), hh.cell (i := 2) (by omega), hh.cell (i := 3) (by omega), hh.cell (i := 4) (by omega), hh.cell (i := 5) (by omega), hh.cell (i := 6) (by omega)⟩
        have ne1 : some (w.heap.size + 1 + 1) ≠ vL.ownBlock := fun e => by have := ownBlock_ge hown _ e.symm; omega
        have ne2 : some wa.heap.size ≠ vL.ownBlock := fun e => by have := (hown.lt _ e.symm).2; omega
        have m1 : w.heap.size + 1 + 1 ≠ wa.heap.size := by omega
        have HTK : Hid (liCells ws (rs.take (k + 1)) = liCells ws (rs.take k) ++ [.int .i64 (p : Int), .int .i64 (r.dst : Int), .int .i64 lt, .int .i64 0, .int .i64 0, .int .i64 0, .int .i64 0]) := hide (by rw [List.take_succ_eq_append_getElem hkl, liCells_snoc, ← hr, hpd, hlt])
        generalize liCells ws (rs.take k) = WC at *
        have HNEXT : Hid (∀ gg cap2 w3, w3.ownsRow wB.heap.size 91 7 (.slice (some ⟨gg, 0, none⟩) (k + 1) cap2) (k + 1) (WC ++ [.int .i64 (p : Int), .int .i64 (r.dst : Int), .int .i64 lt, .int .i64 0, .int .i64 0, .int .i64 0, .int .i64 0]) → (wc.alloc (.cells #[.int .i64 (p : Int), .int .i64 (r.dst : Int), .int .i64 lt, .int .i64 0, .int .i64 0, .int .i64 0, .int .i64 0] 91)).drew.grownBy w3 vL.ownBlock → (vL.ownBlock = some gg ∨ gg = wc.heap.size + 1) → BookAt (w3.setCell ⟨w.heap.size + 1 + 1, 0, none⟩ (.slice (some ⟨gg, 0, none⟩) (k + 1) cap2)) (w.heap.size + 1 + 1) (.slice (some ⟨gg, 0, none⟩) (k + 1) cap2) gS gT ∧ (w3.setCell ⟨w.heap.size + 1 + 1, 0, none⟩ (.slice (some ⟨gg, 0, none⟩) (k + 1) cap2)).rowIs gS 3 4 (fun _ => .int .i64 0) ∧ (w3.setCell ⟨w.heap.size + 1 + 1, 0, none⟩ (.slice (some ⟨gg, 0, none⟩) (k + 1) cap2)).rowIs gT 3 4 (fun _ => .int .i64 0) ∧ (w3.setCell ⟨w.heap.size + 1 + 1, 0, none⟩ (.slice (some ⟨gg, 0, none⟩) (k + 1) cap2)).ownsRow wB.heap.size 91 7 (.slice (some ⟨gg, 0, none⟩) (k + 1) cap2) (k + 1) (liCells ws (rs.take (k + 1))) ∧ Below w.heap.size w (w3.setCell ⟨w.heap.size + 1 + 1, 0, none⟩ (.slice (some ⟨gg, 0, none⟩) (k + 1) cap2)) ∧ wB.heap.size ≤ (w3.setCell ⟨w.heap.size + 1 + 1, 0, none⟩ (.slice (some ⟨gg, 0, none⟩) (k + 1) cap2)).heap.size) := hide (fun gg cap2 w3 ho hgr hat => by
          have hz3 : wc.heap.size + 1 ≤ w3.heap.size := by have := hgr.size; simpa using this
          have hblk : ∀ j, j < wr.heap.size → some j ≠ vL.ownBlock → w3.heap[j]? = wr.heap[j]? := fun j h1 h2 => (hgr.block j (by simp; omega) h2).trans ((heap_alloc_old wc _ (by omega)).trans (hwr.block j h1))
          have hgb : gg ≠ w.heap.size + 1 + 1 := by
            rcases hat with hat | hat
            · intro e; exact ne1 (by rw [hat, e])
            · omega
          have hsr := World.rowIs.lt hgs
          have htr := World.rowIs.lt hgt
          have nS : some gS ≠ vL.ownBlock := fun e => by have := ownBlock_ge hown _ e.symm; omega
          have nT : some gT ≠ vL.ownBlock := fun e => by have := ownBlock_ge hown _ e.symm; omega
          refine ⟨BookAt.set (World.rowIs.of_block hbk (hblk _ lbr ne1)) _, World.rowIs.setOther (World.rowIs.of_block hgs (hblk _ hsr nS)) (a := ⟨w.heap.size + 1 + 1, 0, none⟩) (by show gS ≠ w.heap.size + 1 + 1; omega) _, World.rowIs.setOther (World.rowIs.of_block hgt (hblk _ htr nT)) (a := ⟨w.heap.size + 1 + 1, 0, none⟩) (by show gT ≠ w.heap.size + 1 + 1; omega) _, ?_, ?_, ?_⟩
          · rw [HTK.out]
            exact own_same ho (fun j hj => heap_setCell_other w3 ⟨w.heap.size + 1 + 1, 0, none⟩ j _ (by
              have e : gg = j := by simpa [Value.ownBlock] using hj
              show j ≠ w.heap.size + 1 + 1
              omega))
          · have h5 : Below w.heap.size w w3 := (((hbw.trans (hwr.mono hbw.size)).alloc (by have := hbw.size; omega) _).drew).grown hgr (by have := hbw.size; simp; omega) (fun j hj => by have := ownBlock_ge hown j hj; omega)
            exact h5.setCell (by show w.heap.size ≤ w.heap.size + 1 + 1; omega) _
          · show wB.heap.size ≤ (w3.setCell _ _).heap.size
            simp only [World.size_setCell]
            omega)
        have j1 : (0 : Int) ≤ (k : Int) := by omega
        have j2 : (k : Int) < (rs.length : Int) := by omega
        have i1 : (0 : Int) ≤ (r.src : Int) := by omega
        have i2 : (r.src : Int) < (ws.length : Int) := by omega
        have q1 : decide ((r.src : Int) < 0) = false := decide_eq_false (by omega)
        have q2 : decide ((r.src : Int) ≥ (ws.length : Int)) = false := decide_eq_false (by omega)
        have q3 : decide ((r.dst : Int) < 0) = false := decide_eq_false (by omega)
        have q4 : decide ((r.dst : Int) ≥ 4) = false := decide_eq_false (by omega)
        have HWA := hide hwa
        have HWB := hide hwb
        have HWCC := hide hwc
        have hlc : wa.heap.size < wc.heap.size := by omega
        have hwB' : wB.heap.size ≤ wc.heap.size := by omega
        clear hol hr hp hpd hbk hgs hgt hown hbw hwr hbkc hbb hbc hba hrow hrowc hwa hwb hwc hszb hszc hsa hcw y0 hlt HTK hsB
        go_wp2_with fail
        rw [← HWA.out]
        go_big_region
        rw [← HWB.out]
        clear d0 d1 d0a d1a y1 y2 y2a d2
        cases hrl : r.late with
        | true =>
          rw [hrl] at d2b HWCC
          simp only [if_true] at HWCC
          go_wp2_with fail
          rw [← HWCC.out]
          clear d2b b2 f2 HWCC HWA HWB
          refine wp_region_held_drew (S := (fun w' => w'.cell? ⟨wa.heap.size, 0, none⟩ = some (.int .i64 (p : Int)) ∧ w'.cell? ⟨wa.heap.size, 1, none⟩ = some (.int .i64 (r.dst : Int)) ∧ w'.cell? ⟨wa.heap.size, 2, none⟩ = some (.int .i64 lt) ∧ w'.cell? ⟨wa.heap.size, 3, none⟩ = some (.int .i64 0) ∧ w'.cell? ⟨wa.heap.size, 4, none⟩ = some (.int .i64 0) ∧ w'.cell? ⟨wa.heap.size, 5, none⟩ = some (.int .i64 0) ∧ w'.cell? ⟨wa.heap.size, 6, none⟩ = some (.int .i64 0))) (by kernel_rfl) ?_ (fun hHeld => ?_)
          · exact sc
          refine wpAnyH_take (i := 0) (v := ?_) rfl (by kernel_rfl) (by kernel_rfl) (by kernel_rfl) (fun _ _ _ h => h) (Or.inl ⟨by rfl, ?_⟩) hHeld ?_
          rotate_left
          · intro w hSw
            (try dsimp only at hSw)
            go_simp
            (try with_reducible rfl)
          simp only [Act.put, List.setIfInBounds_toArray]
          refine wpAnyH_take (i := 1) (v := ?_) rfl (by kernel_rfl) (by kernel_rfl) (by kernel_rfl) (fun _ _ _ h => h) (Or.inl ⟨by rfl, ?_⟩) hHeld ?_
          rotate_left
          · intro w hSw
            (try dsimp only at hSw)
            go_simp
            (try with_reducible rfl)
          simp only [Act.put]
          refine wpAnyH_take (i := 2) (v := ?_) rfl (by kernel_rfl) (by kernel_rfl) (by kernel_rfl) (fun _ _ _ h => h) (Or.inl ⟨by rfl, ?_⟩) hHeld ?_
          rotate_left
          · intro w hSw
            (try dsimp only at hSw)
            go_simp
            (try with_reducible rfl)
          simp only [Act.put]
          refine wpAnyH_take (i := 3) (v := ?_) rfl (by kernel_rfl) (by kernel_rfl) (by kernel_rfl) (fun _ _ _ h => h) (Or.inl ⟨by rfl, ?_⟩) hHeld ?_
          rotate_left
          · intro w hSw
            (try dsimp only at hSw)
            go_simp
            (try with_reducible rfl)
          simp only [Act.put]
          refine wpAnyH_take (i := 5) (v := ?_) rfl (by kernel_rfl) (by kernel_rfl) (by kernel_rfl) (fun _ _ _ h => h) (Or.inl ⟨by rfl, ?_⟩) hHeld ?_
          rotate_left
          · intro w hSw
            (try dsimp only at hSw)
            go_simp
            (try with_reducible rfl)
          simp only [Act.put]
          refine wpAnyH_ready (rs := [4, 6]) (by kernel_rfl) (by simp) ?_
          refine AllReadyH.cons rfl (fun K hK => ?_) (AllReadyH.cons rfl (fun K hK => ?_) AllReadyH.nil)
          · go_simp
            refine hK.out _ _ hHeld (fun _ => ?_)
            clear hK K
            refine wpAnyH_ready (rs := [6]) (by kernel_rfl) (by simp) ?_
            refine AllReadyH.cons rfl (fun K hK => ?_) AllReadyH.nil
            go_simp
            refine hK.out _ _ (sa _) (fun _ => ?_)
            clear hK K
            refine wpAnyH_ready (rs := [7]) (by kernel_rfl) (by simp) ?_
            refine AllReadyH.cons rfl (fun K hK => ?_) AllReadyH.nil
            refine step_append_lies _ (by rfl) _ _ _ (by rfl) wB.heap.size 91 i0 _ 7 56 Try.underlying85 hi0 hz0 hz1 hz2 rfl (by omega) vL k WC (by rfl) ((howc.alloc _).drew) ⟨wc.heap.size, 0, none⟩ 1 1 [.int .i64 (p : Int), .int .i64 (r.dst : Int), .int .i64 lt, .int .i64 0, .int .i64 0, .int .i64 0, .int .i64 0] (by rfl) (by rfl) (World.news_of_block (cs := #[.int .i64 (p : Int), .int .i64 (r.dst : Int), .int .i64 lt, .int .i64 0, .int .i64 0, .int .i64 0, .int .i64 0]) (t := 91) (fr := (0, 0)) (heap_alloc_new wc _)) (by simp [Value.oneCell']) (by omega) (by unfold maxLen; omega) (by omega) (by simp; omega) (wc.heap.size + 1) (by simp) ?_
            intro gg cap2 w3 hown3 hgrow hat hlt3
            have k4 := hgrow.cell (a := ⟨w.heap.size + 1 + 1, 0, none⟩) (ca _) ne1
            have e4 := (hgrow.frozen_far ⟨w.heap.size + 1 + 1, 0, none⟩ (by simp; omega) ne1).trans (fa _)
            have z0 := hgrow.cell (a := ⟨wa.heap.size, 0, none⟩) (sa _).1 ne2
            have z1 := hgrow.cell (a := ⟨wa.heap.size, 1, none⟩) (sa _).2.1 ne2
            have z2 := hgrow.cell (a := ⟨wa.heap.size, 2, none⟩) (sa _).2.2.1 ne2
            have z3 := hgrow.cell (a := ⟨wa.heap.size, 3, none⟩) (sa _).2.2.2.1 ne2
            have z4 := hgrow.cell (a := ⟨wa.heap.size, 4, none⟩) (sa _).2.2.2.2.1 ne2
            have z5 := hgrow.cell (a := ⟨wa.heap.size, 5, none⟩) (sa _).2.2.2.2.2.1 ne2
            have z6 := hgrow.cell (a := ⟨wa.heap.size, 6, none⟩) (sa _).2.2.2.2.2.2 ne2
            refine hK.out _ _ ⟨z0, z1, z2, z3, z4, z5, z6⟩ (fun hHeld3 => ?_)
            clear hK K
            simp only [Act.put, List.setIfInBounds_toArray]
            refine wpAnyH_take (i := 8) (v := ?_) rfl (by kernel_rfl) (by kernel_rfl) (by kernel_rfl) (fun _ _ _ h => h) (Or.inl ⟨by rfl, ?_⟩) hHeld3 ?_
            rotate_left
            · intro w hSw
              (try dsimp only at hSw)
              go_simp
              (try with_reducible rfl)
            simp only [Act.put]
            refine wpAnyH_take (i := 9) (v := ?_) rfl (by kernel_rfl) (by kernel_rfl) (by kernel_rfl) (fun _ _ _ h => h) (Or.inl ⟨by rfl, ?_⟩) hHeld3 ?_
            rotate_left
            · intro w hSw
              (try dsimp only at hSw)
              go_simp
              (try with_reducible rfl)
            simp only [Act.put]
            refine wpAnyH_ready (rs := [10]) (by kernel_rfl) (by simp) ?_
            refine AllReadyH.cons rfl (fun K hK => ?_) AllReadyH.nil
            go_simp
            refine hK.out _ _ ⟨(World.cell?_setCell_other _ _ _ _ (fun e => m1 (congrArg Addr.block e))).trans z0, (World.cell?_setCell_other _ _ _ _ (fun e => m1 (congrArg Addr.block e))).trans z1, (World.cell?_setCell_other _ _ _ _ (fun e => m1 (congrArg Addr.block e))).trans z2, (World.cell?_setCell_other _ _ _ _ (fun e => m1 (congrArg Addr.block e))).trans z3, (World.cell?_setCell_other _ _ _ _ (fun e => m1 (congrArg Addr.block e))).trans z4, (World.cell?_setCell_other _ _ _ _ (fun e => m1 (congrArg Addr.block e))).trans z5, (World.cell?_setCell_other _ _ _ _ (fun e => m1 (congrArg Addr.block e))).trans z6⟩ (fun _ => ?_)
            clear hK K
            refine wpAnyH_done (by kernel_rfl) ?_ _
            have HNX := hide (HNEXT.out gg cap2 w3 hown3 hgrow hat)
            clear hown3 hgrow hat hlt3 k4 e4 z0 z1 z2 z3 z4 z5 z6
            go_wp2
            go_roundw
            case rel => exact ⟨k + 1, _, by omega, by go_num, fun e => by omega, HNX.out.1, HNX.out.2.1, HNX.out.2.2.1, HNX.out.2.2.2.1, HNX.out.2.2.2.2.1, HNX.out.2.2.2.2.2⟩
            case measure => simp [intOf]; omega
          · go_simp
            refine hK.out _ _ (sa _) (fun _ => ?_)
            clear hK K
            refine wpAnyH_ready (rs := [4]) (by kernel_rfl) (by simp) ?_
            refine AllReadyH.cons rfl (fun K hK => ?_) AllReadyH.nil
            go_simp
            refine hK.out _ _ (sa _) (fun _ => ?_)
            clear hK K
            refine wpAnyH_ready (rs := [7]) (by kernel_rfl) (by simp) ?_
            refine AllReadyH.cons rfl (fun K hK => ?_) AllReadyH.nil
            refine step_append_lies _ (by rfl) _ _ _ (by rfl) wB.heap.size 91 i0 _ 7 56 Try.underlying85 hi0 hz0 hz1 hz2 rfl (by omega) vL k WC (by rfl) ((howc.alloc _).drew) ⟨wc.heap.size, 0, none⟩ 1 1 [.int .i64 (p : Int), .int .i64 (r.dst : Int), .int .i64 lt, .int .i64 0, .int .i64 0, .int .i64 0, .int .i64 0] (by rfl) (by rfl) (World.news_of_block (cs := #[.int .i64 (p : Int), .int .i64 (r.dst : Int), .int .i64 lt, .int .i64 0, .int .i64 0, .int .i64 0, .int .i64 0]) (t := 91) (fr := (0, 0)) (heap_alloc_new wc _)) (by simp [Value.oneCell']) (by omega) (by unfold maxLen; omega) (by omega) (by simp; omega) (wc.heap.size + 1) (by simp) ?_
            intro gg cap2 w3 hown3 hgrow hat hlt3
            have k4 := hgrow.cell (a := ⟨w.heap.size + 1 + 1, 0, none⟩) (ca _) ne1
            have e4 := (hgrow.frozen_far ⟨w.heap.size + 1 + 1, 0, none⟩ (by simp; omega) ne1).trans (fa _)
            have z0 := hgrow.cell (a := ⟨wa.heap.size, 0, none⟩) (sa _).1 ne2
            have z1 := hgrow.cell (a := ⟨wa.heap.size, 1, none⟩) (sa _).2.1 ne2
            have z2 := hgrow.cell (a := ⟨wa.heap.size, 2, none⟩) (sa _).2.2.1 ne2
            have z3 := hgrow.cell (a := ⟨wa.heap.size, 3, none⟩) (sa _).2.2.2.1 ne2
            have z4 := hgrow.cell (a := ⟨wa.heap.size, 4, none⟩) (sa _).2.2.2.2.1 ne2
            have z5 := hgrow.cell (a := ⟨wa.heap.size, 5, none⟩) (sa _).2.2.2.2.2.1 ne2
            have z6 := hgrow.cell (a := ⟨wa.heap.size, 6, none⟩) (sa _).2.2.2.2.2.2 ne2
            refine hK.out _ _ ⟨z0, z1, z2, z3, z4, z5, z6⟩ (fun hHeld3 => ?_)
            clear hK K
            simp only [Act.put, List.setIfInBounds_toArray]
            refine wpAnyH_take (i := 8) (v := ?_) rfl (by kernel_rfl) (by kernel_rfl) (by kernel_rfl) (fun _ _ _ h => h) (Or.inl ⟨by rfl, ?_⟩) hHeld3 ?_
            rotate_left
            · intro w hSw
              (try dsimp only at hSw)
              go_simp
              (try with_reducible rfl)
            simp only [Act.put]
            refine wpAnyH_take (i := 9) (v := ?_) rfl (by kernel_rfl) (by kernel_rfl) (by kernel_rfl) (fun _ _ _ h => h) (Or.inl ⟨by rfl, ?_⟩) hHeld3 ?_
            rotate_left
            · intro w hSw
              (try dsimp only at hSw)
              go_simp
              (try with_reducible rfl)
            simp only [Act.put]
            refine wpAnyH_ready (rs := [10]) (by kernel_rfl) (by simp) ?_
            refine AllReadyH.cons rfl (fun K hK => ?_) AllReadyH.nil
            go_simp
            refine hK.out _ _ ⟨(World.cell?_setCell_other _ _ _ _ (fun e => m1 (congrArg Addr.block e))).trans z0, (World.cell?_setCell_other _ _ _ _ (fun e => m1 (congrArg Addr.block e))).trans z1, (World.cell?_setCell_other _ _ _ _ (fun e => m1 (congrArg Addr.block e))).trans z2, (World.cell?_setCell_other _ _ _ _ (fun e => m1 (congrArg Addr.block e))).trans z3, (World.cell?_setCell_other _ _ _ _ (fun e => m1 (congrArg Addr.block e))).trans z4, (World.cell?_setCell_other _ _ _ _ (fun e => m1 (congrArg Addr.block e))).trans z5, (World.cell?_setCell_other _ _ _ _ (fun e => m1 (congrArg Addr.block e))).trans z6⟩ (fun _ => ?_)
            clear hK K
            refine wpAnyH_done (by kernel_rfl) ?_ _
            have HNX := hide (HNEXT.out gg cap2 w3 hown3 hgrow hat)
            clear hown3 hgrow hat hlt3 k4 e4 z0 z1 z2 z3 z4 z5 z6
            go_wp2
            go_roundw
            case rel => exact ⟨k + 1, _, by omega, by go_num, fun e => by omega, HNX.out.1, HNX.out.2.1, HNX.out.2.2.1, HNX.out.2.2.2.1, HNX.out.2.2.2.2.1, HNX.out.2.2.2.2.2⟩
            case measure => simp [intOf]; omega
        | false =>
          rw [hrl] at d2b HWCC
          simp only [Bool.false_eq_true, if_false] at HWCC
          go_wp2_with fail
          rw [← HWCC.out]
          clear d2b b2 f2 HWCC HWA HWB
          refine wp_region_held_drew (S := (fun w' => w'.cell? ⟨wa.heap.size, 0, none⟩ = some (.int .i64 (p : Int)) ∧ w'.cell? ⟨wa.heap.size, 1, none⟩ = some (.int .i64 (r.dst : Int)) ∧ w'.cell? ⟨wa.heap.size, 2, none⟩ = some (.int .i64 lt) ∧ w'.cell? ⟨wa.heap.size, 3, none⟩ = some (.int .i64 0) ∧ w'.cell? ⟨wa.heap.size, 4, none⟩ = some (.int .i64 0) ∧ w'.cell? ⟨wa.heap.size, 5, none⟩ = some (.int .i64 0) ∧ w'.cell? ⟨wa.heap.size, 6, none⟩ = some (.int .i64 0))) (by kernel_rfl) ?_ (fun hHeld => ?_)
          · exact sc
          refine wpAnyH_take (i := 0) (v := ?_) rfl (by kernel_rfl) (by kernel_rfl) (by kernel_rfl) (fun _ _ _ h => h) (Or.inl ⟨by rfl, ?_⟩) hHeld ?_
          rotate_left
          · intro w hSw
            (try dsimp only at hSw)
            go_simp
            (try with_reducible rfl)
          simp only [Act.put, List.setIfInBounds_toArray]
          refine wpAnyH_take (i := 1) (v := ?_) rfl (by kernel_rfl) (by kernel_rfl) (by kernel_rfl) (fun _ _ _ h => h) (Or.inl ⟨by rfl, ?_⟩) hHeld ?_
          rotate_left
          · intro w hSw
            (try dsimp only at hSw)
            go_simp
            (try with_reducible rfl)
          simp only [Act.put]
          refine wpAnyH_take (i := 2) (v := ?_) rfl (by kernel_rfl) (by kernel_rfl) (by kernel_rfl) (fun _ _ _ h => h) (Or.inl ⟨by rfl, ?_⟩) hHeld ?_
          rotate_left
          · intro w hSw
            (try dsimp only at hSw)
            go_simp
            (try with_reducible rfl)
          simp only [Act.put]
          refine wpAnyH_take (i := 3) (v := ?_) rfl (by kernel_rfl) (by kernel_rfl) (by kernel_rfl) (fun _ _ _ h => h) (Or.inl ⟨by rfl, ?_⟩) hHeld ?_
          rotate_left
          · intro w hSw
            (try dsimp only at hSw)
            go_simp
            (try with_reducible rfl)
          simp only [Act.put]
          refine wpAnyH_take (i := 5) (v := ?_) rfl (by kernel_rfl) (by kernel_rfl) (by kernel_rfl) (fun _ _ _ h => h) (Or.inl ⟨by rfl, ?_⟩) hHeld ?_
          rotate_left
          · intro w hSw
            (try dsimp only at hSw)
            go_simp
            (try with_reducible rfl)
          simp only [Act.put]
          refine wpAnyH_ready (rs := [4, 6]) (by kernel_rfl) (by simp) ?_
          refine AllReadyH.cons rfl (fun K hK => ?_) (AllReadyH.cons rfl (fun K hK => ?_) AllReadyH.nil)
          · go_simp
            refine hK.out _ _ hHeld (fun _ => ?_)
            clear hK K
            refine wpAnyH_ready (rs := [6]) (by kernel_rfl) (by simp) ?_
            refine AllReadyH.cons rfl (fun K hK => ?_) AllReadyH.nil
            go_simp
            refine hK.out _ _ (sa _) (fun _ => ?_)
            clear hK K
            refine wpAnyH_ready (rs := [7]) (by kernel_rfl) (by simp) ?_
            refine AllReadyH.cons rfl (fun K hK => ?_) AllReadyH.nil
            refine step_append_lies _ (by rfl) _ _ _ (by rfl) wB.heap.size 91 i0 _ 7 56 Try.underlying85 hi0 hz0 hz1 hz2 rfl (by omega) vL k WC (by rfl) ((howc.alloc _).drew) ⟨wc.heap.size, 0, none⟩ 1 1 [.int .i64 (p : Int), .int .i64 (r.dst : Int), .int .i64 lt, .int .i64 0, .int .i64 0, .int .i64 0, .int .i64 0] (by rfl) (by rfl) (World.news_of_block (cs := #[.int .i64 (p : Int), .int .i64 (r.dst : Int), .int .i64 lt, .int .i64 0, .int .i64 0, .int .i64 0, .int .i64 0]) (t := 91) (fr := (0, 0)) (heap_alloc_new wc _)) (by simp [Value.oneCell']) (by omega) (by unfold maxLen; omega) (by omega) (by simp; omega) (wc.heap.size + 1) (by simp) ?_
            intro gg cap2 w3 hown3 hgrow hat hlt3
            have k4 := hgrow.cell (a := ⟨w.heap.size + 1 + 1, 0, none⟩) (ca _) ne1
            have e4 := (hgrow.frozen_far ⟨w.heap.size + 1 + 1, 0, none⟩ (by simp; omega) ne1).trans (fa _)
            have z0 := hgrow.cell (a := ⟨wa.heap.size, 0, none⟩) (sa _).1 ne2
            have z1 := hgrow.cell (a := ⟨wa.heap.size, 1, none⟩) (sa _).2.1 ne2
            have z2 := hgrow.cell (a := ⟨wa.heap.size, 2, none⟩) (sa _).2.2.1 ne2
            have z3 := hgrow.cell (a := ⟨wa.heap.size, 3, none⟩) (sa _).2.2.2.1 ne2
            have z4 := hgrow.cell (a := ⟨wa.heap.size, 4, none⟩) (sa _).2.2.2.2.1 ne2
            have z5 := hgrow.cell (a := ⟨wa.heap.size, 5, none⟩) (sa _).2.2.2.2.2.1 ne2
            have z6 := hgrow.cell (a := ⟨wa.heap.size, 6, none⟩) (sa _).2.2.2.2.2.2 ne2
            refine hK.out _ _ ⟨z0, z1, z2, z3, z4, z5, z6⟩ (fun hHeld3 => ?_)
            clear hK K
            simp only [Act.put, List.setIfInBounds_toArray]
            refine wpAnyH_take (i := 8) (v := ?_) rfl (by kernel_rfl) (by kernel_rfl) (by kernel_rfl) (fun _ _ _ h => h) (Or.inl ⟨by rfl, ?_⟩) hHeld3 ?_
            rotate_left
            · intro w hSw
              (try dsimp only at hSw)
              go_simp
              (try with_reducible rfl)
            simp only [Act.put]
            refine wpAnyH_take (i := 9) (v := ?_) rfl (by kernel_rfl) (by kernel_rfl) (by kernel_rfl) (fun _ _ _ h => h) (Or.inl ⟨by rfl, ?_⟩) hHeld3 ?_
            rotate_left
            · intro w hSw
              (try dsimp only at hSw)
              go_simp
              (try with_reducible rfl)
            simp only [Act.put]
            refine wpAnyH_ready (rs := [10]) (by kernel_rfl) (by simp) ?_
            refine AllReadyH.cons rfl (fun K hK => ?_) AllReadyH.nil
            go_simp
            refine hK.out _ _ ⟨(World.cell?_setCell_other _ _ _ _ (fun e => m1 (congrArg Addr.block e))).trans z0, (World.cell?_setCell_other _ _ _ _ (fun e => m1 (congrArg Addr.block e))).trans z1, (World.cell?_setCell_other _ _ _ _ (fun e => m1 (congrArg Addr.block e))).trans z2, (World.cell?_setCell_other _ _ _ _ (fun e => m1 (congrArg Addr.block e))).trans z3, (World.cell?_setCell_other _ _ _ _ (fun e => m1 (congrArg Addr.block e))).trans z4, (World.cell?_setCell_other _ _ _ _ (fun e => m1 (congrArg Addr.block e))).trans z5, (World.cell?_setCell_other _ _ _ _ (fun e => m1 (congrArg Addr.block e))).trans z6⟩ (fun _ => ?_)
            clear hK K
            refine wpAnyH_done (by kernel_rfl) ?_ _
            have HNX := hide (HNEXT.out gg cap2 w3 hown3 hgrow hat)
            clear hown3 hgrow hat hlt3 k4 e4 z0 z1 z2 z3 z4 z5 z6
            go_wp2
            go_roundw
            case rel => exact ⟨k + 1, _, by omega, by go_num, fun e => by omega, HNX.out.1, HNX.out.2.1, HNX.out.2.2.1, HNX.out.2.2.2.1, HNX.out.2.2.2.2.1, HNX.out.2.2.2.2.2⟩
            case measure => simp [intOf]; omega
          · go_simp
            refine hK.out _ _ (sa _) (fun _ => ?_)
            clear hK K
            refine wpAnyH_ready (rs := [4]) (by kernel_rfl) (by simp) ?_
            refine AllReadyH.cons rfl (fun K hK => ?_) AllReadyH.nil
            go_simp
            refine hK.out _ _ (sa _) (fun _ => ?_)
            clear hK K
            refine wpAnyH_ready (rs := [7]) (by kernel_rfl) (by simp) ?_
            refine AllReadyH.cons rfl (fun K hK => ?_) AllReadyH.nil
            refine step_append_lies _ (by rfl) _ _ _ (by rfl) wB.heap.size 91 i0 _ 7 56 Try.underlying85 hi0 hz0 hz1 hz2 rfl (by omega) vL k WC (by rfl) ((howc.alloc _).drew) ⟨wc.heap.size, 0, none⟩ 1 1 [.int .i64 (p : Int), .int .i64 (r.dst : Int), .int .i64 lt, .int .i64 0, .int .i64 0, .int .i64 0, .int .i64 0] (by rfl) (by rfl) (World.news_of_block (cs := #[.int .i64 (p : Int), .int .i64 (r.dst : Int), .int .i64 lt, .int .i64 0, .int .i64 0, .int .i64 0, .int .i64 0]) (t := 91) (fr := (0, 0)) (heap_alloc_new wc _)) (by simp [Value.oneCell']) (by omega) (by unfold maxLen; omega) (by omega) (by simp; omega) (wc.heap.size + 1) (by simp) ?_
            intro gg cap2 w3 hown3 hgrow hat hlt3
            have k4 := hgrow.cell (a := ⟨w.heap.size + 1 + 1, 0, none⟩) (ca _) ne1
            have e4 := (hgrow.frozen_far ⟨w.heap.size + 1 + 1, 0, none⟩ (by simp; omega) ne1).trans (fa _)
            have z0 := hgrow.cell (a := ⟨wa.heap.size, 0, none⟩) (sa _).1 ne2
            have z1 := hgrow.cell (a := ⟨wa.heap.size, 1, none⟩) (sa _).2.1 ne2
            have z2 := hgrow.cell (a := ⟨wa.heap.size, 2, none⟩) (sa _).2.2.1 ne2
            have z3 := hgrow.cell (a := ⟨wa.heap.size, 3, none⟩) (sa _).2.2.2.1 ne2
            have z4 := hgrow.cell (a := ⟨wa.heap.size, 4, none⟩) (sa _).2.2.2.2.1 ne2
            have z5 := hgrow.cell (a := ⟨wa.heap.size, 5, none⟩) (sa _).2.2.2.2.2.1 ne2
            have z6 := hgrow.cell (a := ⟨wa.heap.size, 6, none⟩) (sa _).2.2.2.2.2.2 ne2
            refine hK.out _ _ ⟨z0, z1, z2, z3, z4, z5, z6⟩ (fun hHeld3 => ?_)
            clear hK K
            simp only [Act.put, List.setIfInBounds_toArray]
            refine wpAnyH_take (i := 8) (v := ?_) rfl (by kernel_rfl) (by kernel_rfl) (by kernel_rfl) (fun _ _ _ h => h) (Or.inl ⟨by rfl, ?_⟩) hHeld3 ?_
            rotate_left
            · intro w hSw
              (try dsimp only at hSw)
              go_simp
              (try with_reducible rfl)
            simp only [Act.put]
            refine wpAnyH_take (i := 9) (v := ?_) rfl (by kernel_rfl) (by kernel_rfl) (by kernel_rfl) (fun _ _ _ h => h) (Or.inl ⟨by rfl, ?_⟩) hHeld3 ?_
            rotate_left
            · intro w hSw
              (try dsimp only at hSw)
              go_simp
              (try with_reducible rfl)
            simp only [Act.put]
            refine wpAnyH_ready (rs := [10]) (by kernel_rfl) (by simp) ?_
            refine AllReadyH.cons rfl (fun K hK => ?_) AllReadyH.nil
            go_simp
            refine hK.out _ _ ⟨(World.cell?_setCell_other _ _ _ _ (fun e => m1 (congrArg Addr.block e))).trans z0, (World.cell?_setCell_other _ _ _ _ (fun e => m1 (congrArg Addr.block e))).trans z1, (World.cell?_setCell_other _ _ _ _ (fun e => m1 (congrArg Addr.block e))).trans z2, (World.cell?_setCell_other _ _ _ _ (fun e => m1 (congrArg Addr.block e))).trans z3, (World.cell?_setCell_other _ _ _ _ (fun e => m1 (congrArg Addr.block e))).trans z4, (World.cell?_setCell_other _ _ _ _ (fun e => m1 (congrArg Addr.block e))).trans z5, (World.cell?_setCell_other _ _ _ _ (fun e => m1 (congrArg Addr.block e))).trans z6⟩ (fun _ => ?_)
            clear hK K
            refine wpAnyH_done (by kernel_rfl) ?_ _
            have HNX := hide (HNEXT.out gg cap2 w3 hown3 hgrow hat)
            clear hown3 hgrow hat hlt3 k4 e4 z0 z1 z2 z3 z4 z5 z6
            go_wp2
            go_roundw
            case rel => exact ⟨k + 1, _, by omega, by go_num, fun e => by omega, HNX.out.1, HNX.out.2.1, HNX.out.2.2.1, HNX.out.2.2.2.1, HNX.out.2.2.2.2.1, HNX.out.2.2.2.2.2⟩
            case measure => simp [intOf]; omega
      · have ek : k = rs.length := by omega
        subst ek
        rw [List.take_length] at hown
        obtain ⟨aL, cL, rfl, hshL⟩ := own_shape hown
        have HBK : Hid (Bk wr w.heap.size (w.heap.size + 1 + 1) aL rs.length cL gS gT (fun l => lineR ws (rs.getD l ⟨0, 0, false⟩)) (fun _ => 0) (fun _ => 0)) := hide (by
          refine ⟨hbk, fun hp => ?_, hgs, hgt, by omega, by omega, ngt, by omega, by omega, by omega, hl⟩
          obtain ⟨g, rfl, hg1, hg2⟩ := hshL hp
          exact ⟨g, rfl, lines_of hown, by omega, by omega, by omega, by omega⟩)
        have HZ : Hid (rs.length = 0 → aL = none) := hide (fun h0 => by have := hk0 h0; injection this)
        have HBW := hide hbw
        clear hbk hgs hgt hown hbw hshL hk0
        go_wp2
        refine bodyPost_ret (v := .tuple #[.pointer (some ⟨w.heap.size + 1 + 1, 0, none⟩), .bool true]) (by simp [results, Try.results16, go_sem]) rfl ?_
        exact ⟨_, rfl, _, _, _, _, HBK.out, HZ.out, HBW.out⟩
end Go.Proofs.Ytmndgoapkmhglab
