import Derived.Test.YtecegaflhdgfaaaM33ExD
import Derived.Test.YtecegaflhdgfaaaM38StrE
import Derived.Test.YtecegaflhdgfaaaM42PExD
/- the program's machine: pick, Exec. -/
namespace Go.Proofs.Ytecegaflhdgfaaa
open Go.RowKit
attribute [local go_sem ↓] Go.wp_at_zero Go.wp_at_succ

/-- a row that was made is its maker's. -/
theorem own_made {w : World} {g : Nat} {l : List Int} (h : w.rowIs g 3 l.length (fun j => .int .i64 (l.getD j 0))) (hl : l.length ≤ 1500) : w.ownsRow g 3 1 (.slice (some ⟨g, 0, none⟩) l.length l.length) l.length (iCells l) := by
  obtain ⟨c, h1, h2, h3⟩ := h
  refine ⟨by simp [iCells], .inr ⟨g, l.length, c, rfl, Nat.le_refl _, h1, Nat.le_refl _, by unfold maxLen; omega, by omega, ?_⟩⟩
  apply List.ext_getElem?
  intro i
  rw [Nat.mul_one]
  by_cases hi : i < l.length
  · rw [List.getElem?_take, if_pos hi, Array.getElem?_toList, h3 i hi, iCells_get, List.getElem?_eq_getElem hi]
    show some (Value.int .i64 (l.getD i 0)) = _
    rw [List.getD_eq_getElem?_getD, List.getElem?_eq_getElem hi]; rfl
  · rw [List.getElem?_take, if_neg hi, iCells_get, List.getElem?_eq_none (by omega)]; rfl

set_option maxHeartbeats 1000000 in
theorem mpick_any (w : World) (vr vn : Value) (regs nm : List Int) (hr : RowAt w vr regs) (hn : RowAt w vn nm) (hl : nm.length ≤ 1500) (hok : ∀ x ∈ nm, regOk regs.length x = true) :
    Calls Try.prog 77 #[vr, vn] w fun e w' => ∃ v, e = .returned v ∧ w'.ownsRow w.heap.size 3 1 v nm.length (iCells (nm.map (atF regs))) ∧ Below w.heap.size w w' := by
  obtain ⟨Ar, Cr, rfl, hmr, hcr⟩ := hr
  obtain ⟨An, Cn, rfl, hmn, hcn⟩ := hn
  have hm2 := run_make_row' (P := Try.prog) 48 3 (.int .i64 0) 8 Try.underlying48 Try.infoInt rfl .i64 .i64 nm.length (by omega) (by omega)
  have HCR := hide hcr
  have HCN := hide hcn
  have HOK := hide hok
  have HS : Hid (∀ o, o = .cells (madeCells #[.int .i64 0] nm.length) 3 → (w.alloc o).rowIs w.heap.size 3 nm.length (fun j => .int .i64 (if j < 0 then atF regs (nm.getD j 0) else 0)) ∧ Below w.heap.size w (w.alloc o)) := hide (fun o ho => by
    subst ho
    exact ⟨(World.rowIs_made w (.int .i64 0) nm.length 3).congr (fun j _ => by simp), (Below.refl _ _).alloc (Nat.le_refl _) _⟩)
  clear hcr hcn hok
  go_enter Try.func77, Try.ntmps77
  go_wp2
  go_loopw [13] (fun vk wr => ∃ k : Nat, k ≤ nm.length ∧ vk = .int .i64 k ∧ wr.rowIs w.heap.size 3 nm.length (fun j => .int .i64 (if j < k then atF regs (nm.getD j 0) else 0)) ∧ Below w.heap.size w wr) (fun vk _ => nm.length - (intOf vk).toNat)
  case atStart => exact ⟨0, Nat.zero_le _, rfl, (HS.out _ rfl).1, (HS.out _ rfl).2⟩
  case round =>
    clear HS
    obtain ⟨k, hk, rfl, hrow, hbel⟩ := hrel
    by_cases hkl : k < nm.length
    · obtain ⟨bn, on, rfl, hbn, hrn⟩ := HCN.out (by omega)
      have d0 := (hbel.cell (p := ⟨bn, on + k, none⟩) hbn).trans (hrn k hkl)
      have hreg := HOK.out nm[k] (List.getElem_mem hkl)
      have hpos : 0 < regs.length := by unfold regOk at hreg; simp only [Bool.and_eq_true, decide_eq_true_eq] at hreg; omega
      obtain ⟨br, or, rfl, hbr, hrr⟩ := HCR.out hpos
      obtain ⟨ka, hka⟩ : ∃ ka : Nat, nm[k] = (ka : Int) := ⟨nm[k].toNat, by unfold regOk at hreg; simp only [Bool.and_eq_true, decide_eq_true_eq] at hreg; omega⟩
      rw [hka] at d0 hreg
      have hka2 : ka < regs.length := by unfold regOk at hreg; simp only [Bool.and_eq_true, decide_eq_true_eq] at hreg; omega
      have hval : atF regs (nm.getD k 0) = regs[ka] := by
        rw [List.getD_eq_getElem?_getD, List.getElem?_eq_getElem hkl]
        show atF regs nm[k] = _
        rw [hka]; unfold atF
        rw [if_neg (by omega), Int.toNat_natCast, List.getD_eq_getElem?_getD, List.getElem?_eq_getElem hka2]; rfl
      have d1 := (hbel.cell (p := ⟨br, or + ka, none⟩) hbr).trans (hrr ka hka2)
      have i1 : (0 : Int) ≤ (k : Int) := by omega
      have i2 : (k : Int) < (nm.length : Int) := by omega
      have i3 : (0 : Int) ≤ (ka : Int) := by omega
      have i4 : (ka : Int) < (regs.length : Int) := by omega
      have x0 := hrow.cell hkl
      have f0 := hrow.frozen k
      have HV := hide hval
      have HROW := hide hrow
      have HBEL := hide hbel
      generalize regs[ka] = z at d1 HV
      clear hval hrow hbel hrn hrr hreg hka hka2
      go_wp2
      go_roundw
      case rel =>
        refine ⟨k + 1, by omega, by go_num, (HROW.out.set k (.int .i64 z)).congr (fun j _ => ?_), HBEL.out.setCell (Nat.le_refl _) _⟩
        by_cases e : j = k
        · subst e
          show (if j = j then Value.int .i64 z else _) = Value.int .i64 (if j < j + 1 then atF regs (nm.getD j 0) else 0)
          rw [if_pos rfl, if_pos (by omega), HV.out]
        · by_cases e2 : j < k
          · simp [e, e2, show j < k + 1 by omega]
          · simp [e, e2, show ¬ j < k + 1 by omega]
      case measure => simp [intOf]; omega
    · have ek : k = nm.length := by omega
      subst ek
      have z9 : ¬ (nm.length : Int) < (nm.length : Int) := by omega
      have HROW := hide hrow
      have HBEL := hide hbel
      clear hrow hbel
      go_wp2
      go_ret
      refine ⟨_, rfl, ?_, HBEL.out⟩
      have h5 : (nm.map (atF regs)).length = nm.length := List.length_map _
      have h6 := own_made (l := nm.map (atF regs)) (w := _) (g := w.heap.size) (by
        rw [h5]
        exact HROW.out.congr (fun j hj => by
          rw [if_pos hj, List.getD_eq_getElem?_getD, List.getD_eq_getElem?_getD, List.getElem?_map, List.getElem?_eq_getElem hj]; rfl)) (by rw [h5]; exact hl)
      rw [h5] at h6
      exact h6

end Go.Proofs.Ytecegaflhdgfaaa

/- the program's machine: Exec. -/
namespace Go.Proofs.Ytecegaflhdgfaaa
open Go.RowKit
attribute [local go_sem ↓] Go.wp_at_zero Go.wp_at_succ

def padF (N : Nat) (l : List Int) : List Int := (List.range N).map fun j => l.getD j 0
theorem padF_len (N : Nat) (l : List Int) : (padF N l).length = N := by simp [padF]
theorem padF_get {N : Nat} {l : List Int} {j : Nat} (h : j < (padF N l).length) : (padF N l)[j] = l.getD j 0 := by simp [padF]
theorem padF_at {N : Nat} {l : List Int} {x : Int} (h : regOk N x = true) : atF (padF N l) x = atF l x := by
  unfold regOk at h
  simp only [Bool.and_eq_true, decide_eq_true_eq] at h
  unfold atF padF
  rw [if_neg (by omega), if_neg (by omega), List.getD_eq_getElem?_getD, List.getElem?_map, List.getElem?_range (by omega)]; rfl
theorem regOk_mono {k N : Nat} (h : k ≤ N) {x : Int} (hx : regOk k x = true) : regOk N x = true := by
  unfold regOk at *
  simp only [Bool.and_eq_true, decide_eq_true_eq] at *
  omega
theorem opOk_mono {nc k N : Nat} {o : OpF} (h : k ≤ N) (ho : opOk nc k o = true) : opOk nc N o = true := by
  unfold opOk at *
  simp only [Bool.and_eq_true, List.all_eq_true] at *
  exact ⟨ho.1, fun x hx => regOk_mono h (ho.2 x hx)⟩
theorem pad_row {w : World} {g N : Nat} {l : List Int} (h : w.rowIs g 3 N (fun j => .int .i64 (l.getD j 0))) (hN : N ≤ 1500) : RowAt w (.slice (some ⟨g, 0, none⟩) N N) (padF N l) := by
  refine ⟨some ⟨g, 0, none⟩, N, by rw [padF_len], by rw [padF_len]; omega, fun _ => ⟨g, 0, rfl, World.rowIs.lt h, fun k hk => ?_⟩⟩
  rw [Nat.zero_add, padF_get hk]
  exact h.cell (by rw [padF_len] at hk; exact hk)

set_option maxHeartbeats 4000000 in
set_option maxRecDepth 100000 in
theorem mexec_any (w : World) (vO vC vN vU : Value) (c : CdF) (h : CodeAt w vO vC vN vU c) (n : Int) (vc vi vl : Value) (cells ins links : List Int) (hc : RowAt w vc cells) (hi : RowAt w vi ins) (hl : RowAt w vl links) :
    Calls Try.prog 52 #[.agg #[vO, vC, vN, vU], .agg #[.int .i64 n, vc, vi, vl]] w fun e w' => ∃ vo vn, e = .returned (.tuple #[vo, vn, .int .i64 ((execF c n cells ins links).1 : Nat)]) ∧ ExQ (execF c n cells ins links) w.heap.size w' vo vn ∧ Below w.heap.size w w' := by
  have HH := hide h
  have HCE := hide hc
  have HIN := hide hi
  have HLK := hide hl
  obtain ⟨Ao, Co, rfl, hmo, hco⟩ := h.ops
  obtain ⟨Ac, Cc, rfl, hmc, hcc⟩ := h.cells
  obtain ⟨An, Cn, rfl, hmn, hcn⟩ := h.next
  obtain ⟨Au, Cu, rfl, hmu, hcu⟩ := h.out
  obtain ⟨Az, Cz, rfl, hmz, _⟩ := hc
  obtain ⟨Ai, Ci, rfl, _, _⟩ := hi
  obtain ⟨Al, Cl, rfl, _, _⟩ := hl
  obtain ⟨bx, hbx⟩ : ∃ bx, bx = (w.alloc (.cells #[.slice Ao c.ops.length Co, .slice Ac c.cells.length Cc, .slice An c.next.length Cn, .slice Au c.out.length Cu] 60)).alloc (.cells #[.int .i64 n, .slice Az cells.length Cz, .slice Ai ins.length Ci, .slice Al links.length Cl] 93) := ⟨_, rfl⟩
  have HB0 : Hid (Below w.heap.size w bx) := hide (by rw [hbx]; exact ((Below.refl _ _).alloc (Nat.le_refl _) _).alloc (by simp) _)
  have HSZ : Hid (w.heap.size + 1 < bx.heap.size) := hide (by rw [hbx]; simp)
  have HC : Hid (∀ W, Below bx.heap.size bx W → W.cell? ⟨w.heap.size, 0, none⟩ = some (.slice Ao c.ops.length Co) ∧ W.cell? ⟨w.heap.size, 1, none⟩ = some (.slice Ac c.cells.length Cc) ∧ W.cell? ⟨w.heap.size, 2, none⟩ = some (.slice An c.next.length Cn) ∧ W.cell? ⟨w.heap.size, 3, none⟩ = some (.slice Au c.out.length Cu)) := hide (fun W hW => by
    have hN : W.heap[w.heap.size]? = some (.cells #[.slice Ao c.ops.length Co, .slice Ac c.cells.length Cc, .slice An c.next.length Cn, .slice Au c.out.length Cu] 60) := (hW.block w.heap.size (by have := HSZ.out; omega)).trans (by rw [hbx, Below.heap_alloc _ _ _ (by simp)]; exact heap_alloc_new w _)
    exact ⟨by rw [cell_of_row W _ 0 _ _ _ hN]; rfl, by rw [cell_of_row W _ 1 _ _ _ hN]; rfl, by rw [cell_of_row W _ 2 _ _ _ hN]; rfl, by rw [cell_of_row W _ 3 _ _ _ hN]; rfl⟩)
  have HD : Hid (∀ W, Below bx.heap.size bx W → W.cell? ⟨w.heap.size + 1, 0, none⟩ = some (.int .i64 n) ∧ W.cell? ⟨w.heap.size + 1, 1, none⟩ = some (.slice Az cells.length Cz) ∧ W.cell? ⟨w.heap.size + 1, 2, none⟩ = some (.slice Ai ins.length Ci) ∧ W.cell? ⟨w.heap.size + 1, 3, none⟩ = some (.slice Al links.length Cl)) := hide (fun W hW => by
    have hN : W.heap[w.heap.size + 1]? = some (.cells #[.int .i64 n, .slice Az cells.length Cz, .slice Ai ins.length Ci, .slice Al links.length Cl] 93) := (hW.block (w.heap.size + 1) HSZ.out).trans (by rw [hbx]; have := heap_alloc_new (w.alloc (.cells #[.slice Ao c.ops.length Co, .slice Ac c.cells.length Cc, .slice An c.next.length Cn, .slice Au c.out.length Cu] 60)) (.cells #[.int .i64 n, .slice Az cells.length Cz, .slice Ai ins.length Ci, .slice Al links.length Cl] 93); simpa using this)
    exact ⟨by rw [cell_of_row W _ 0 _ _ _ hN]; rfl, by rw [cell_of_row W _ 1 _ _ _ hN]; rfl, by rw [cell_of_row W _ 2 _ _ _ hN]; rfl, by rw [cell_of_row W _ 3 _ _ _ hN]; rfl⟩)
  have HFM := hide (pformed_any bx _ _ _ _ c (HH.out.below HB0.out))
  have HEX : Hid (execF c n cells ins links = if formedF c = false then (9, [], []) else if n < 0 ∨ cells.length ≠ c.cells.length then (10, [], []) else (0, c.out.map (atF (regsF n cells ins links [] c.ops)), c.next.map (atF (regsF n cells ins links [] c.ops)))) := hide rfl
  have HCO := hide hco
  clear hco hcc hcn hcu h
  go_enter Try.func52, Try.ntmps52
  go_wp2_with fail
  rw [← hbx]
  clear hbx
  refine HFM.out.mono ?_
  rintro e w1 ⟨rfl, hb1⟩
  have HB1 := hide hb1
  clear hb1 HFM
  obtain ⟨x0, x1, x2, x3⟩ := HC.out w1 HB1.out
  obtain ⟨y0, y1, y2, y3⟩ := HD.out w1 HB1.out
  by_cases hf : formedF c = true
  case neg =>
    have hff : formedF c = false := by simpa using hf
    have HE : Hid (execF c n cells ins links = (9, [], [])) := hide (by rw [HEX.out, if_pos hff])
    rw [hff]
    clear hf hff HEX
    go_wp2
    go_ret3
    rw [HE.out]
    exact ⟨_, _, rfl, ⟨World.ownsRow_nil _ _ _ _, World.ownsRow_nil _ _ _ _, fun b hb => by simp [Value.ownBlock] at hb⟩, HB0.out.trans (HB1.out.mono HB0.out.size)⟩
  case pos =>
    rw [hf]
    by_cases ha : n < 0 ∨ cells.length ≠ c.cells.length
    · have HE : Hid (execF c n cells ins links = (10, [], [])) := hide (by rw [HEX.out, if_neg (by rw [hf]; decide), if_pos ha])
      have hcs : n < 0 ∨ (¬ n < 0 ∧ ((cells.length : Int) != (c.cells.length : Int)) = true) := by
        by_cases h : n < 0
        · exact .inl h
        · right; refine ⟨h, ?_⟩; rw [bne_iff_ne]; rcases ha with h' | h' <;> omega
      clear hf HEX ha
      rcases hcs with z1 | ⟨z1, z2⟩
      all_goals
        go_wp2
        go_ret3
        rw [HE.out]
        exact ⟨_, _, rfl, ⟨World.ownsRow_nil _ _ _ _, World.ownsRow_nil _ _ _ _, fun b hb => by simp [Value.ownBlock] at hb⟩, HB0.out.trans (HB1.out.mono HB0.out.size)⟩
    · have HE : Hid (execF c n cells ins links = (0, c.out.map (atF (regsF n cells ins links [] c.ops)), c.next.map (atF (regsF n cells ins links [] c.ops)))) := hide (by rw [HEX.out, if_neg (by rw [hf]; decide), if_neg ha])
      have z1 : ¬ n < 0 := fun h => ha (.inl h)
      have hcl : cells.length = c.cells.length := by
        by_cases h : cells.length = c.cells.length
        · exact h
        · exact absurd (.inr h) ha
      have z2 : ((cells.length : Int) != (c.cells.length : Int)) = false := by rw [hcl]; simp
      have HCL := hide hcl
      obtain ⟨p1, p2, p3, p4, p5, p6, p7⟩ := formed_parts hf
      have HPN := hide p5
      have HPO := hide p6
      have HOK := hide p7
      have HRL := hide (fun k => regsF_len n cells ins links (c.ops.take k) [])
      have hm2 := run_make_row' (P := Try.prog) 48 3 (.int .i64 0) 8 Try.underlying48 Try.infoInt rfl .i64 .i64 c.ops.length (by omega) (by omega)
      have HS : Hid (∀ o, o = .cells (madeCells #[.int .i64 0] c.ops.length) 3 → (w1.alloc o).rowIs w1.heap.size 3 c.ops.length (fun j => .int .i64 (([] : List Int).getD j 0)) ∧ Below bx.heap.size bx (w1.alloc o)) := hide (fun o ho => by
        subst ho
        exact ⟨(World.rowIs_made w1 (.int .i64 0) c.ops.length 3).congr (fun j _ => by simp), HB1.out.alloc HB1.out.size _⟩)
      have x0a : ∀ o, (w1.alloc o).cell? ⟨w.heap.size, 0, none⟩ = some (.slice Ao c.ops.length Co) := fun o => (HC.out _ (HB1.out.alloc HB1.out.size o)).1
      clear hf ha HEX p4 p5 p6 p7 hcl
      obtain ⟨gR, hgR⟩ : ∃ gR, gR = w1.heap.size := ⟨_, rfl⟩
      have HGR := hide hgR
      have HGB : Hid (bx.heap.size ≤ gR) := hide (by rw [hgR]; exact HB1.out.size)
      go_wp2
      rw [← hgR]
      clear hgR
      go_loopw [34] (fun vk wr => ∃ k : Nat, k ≤ c.ops.length ∧ vk = .int .i64 k ∧ wr.rowIs gR 3 c.ops.length (fun j => .int .i64 ((regsF n cells ins links [] (c.ops.take k)).getD j 0)) ∧ Below bx.heap.size bx wr) (fun vk _ => c.ops.length - (intOf vk).toNat)
      case atStart => exact ⟨0, Nat.zero_le _, rfl, by rw [HGR.out]; exact (HS.out _ rfl).1, (HS.out _ rfl).2⟩
      case round =>
        clear x0 x1 x2 x3 y0 y1 y2 y3 HS x0a
        obtain ⟨k, hk, rfl, hrow, hbr⟩ := hrel
        obtain ⟨x0, x1, x2, x3⟩ := HC.out wr hbr
        have HBR := hide hbr
        have HBW := hide (HB0.out.trans (hbr.mono HB0.out.size))
        have HROW := hide hrow
        have hrl : (regsF n cells ins links [] (c.ops.take k)).length = k := by rw [HRL.out k, List.length_take]; simp; omega
        by_cases hkl : k < c.ops.length
        · obtain ⟨b, o, rfl, hbl, hcell⟩ := HCO.out (by omega)
          obtain ⟨op, hop⟩ : ∃ op, op = c.ops[k]'hkl := ⟨_, rfl⟩
          obtain ⟨c0, c1, c2, c3⟩ := hcell k hkl
          rw [← hop] at c0 c1 c2 c3
          have d0 := (HBW.out.cell (p := ⟨b, o + k * 4, none⟩) hbl).trans c0
          have d1 := (HBW.out.cell (p := ⟨b, o + k * 4 + 1, none⟩) hbl).trans c1
          have d2 := (HBW.out.cell (p := ⟨b, o + k * 4 + 2, none⟩) hbl).trans c2
          have d3 := (HBW.out.cell (p := ⟨b, o + k * 4 + 3, none⟩) hbl).trans c3
          have hopk : opOk c.cells.length k op = true := by have := opsOk_at _ _ 0 HOK.out k hkl; rwa [Nat.zero_add, ← hop] at this
          have HSN : Hid (regsF n cells ins links [] (c.ops.take (k + 1)) = regsF n cells ins links [] (c.ops.take k) ++ [laysF op n (regsF n cells ins links [] (c.ops.take k)) cells ins links]) := hide (by
            rw [List.take_succ_eq_append_getElem hkl, regsF_snoc, ← hop])
          have hlv : laysF op n (padF c.ops.length (regsF n cells ins links [] (c.ops.take k))) cells ins links = laysF op n (regsF n cells ins links [] (c.ops.take k)) cells ins links := by
            obtain ⟨q0, q1, q2⟩ := opOk_parts hopk
            exact lays_congr q0 q1 (fun r hr => padF_at (regOk_mono hk (q2 r hr)))
          have HCALL : Hid (∀ W, Below wr.heap.size wr W → Calls Try.prog 76 #[.agg #[.int .i64 op.k, .int .i64 op.a, .int .i64 op.b, .int .i64 op.c], .agg #[.int .i64 n, .slice Az cells.length Cz, .slice Ai ins.length Ci, .slice Al links.length Cl], .slice (some ⟨gR, 0, none⟩) c.ops.length c.ops.length] W fun e w' => e = .returned (.int .i64 (laysF op n (regsF n cells ins links [] (c.ops.take k)) cells ins links)) ∧ Below W.heap.size W w') := hide (fun W hW => by
            have hWw : Below w.heap.size w W := HBW.out.trans (hW.mono HBW.out.size)
            rw [← hlv]
            exact mvalue_any W op n _ _ _ _ _ _ _ _ (by rw [HCL.out, padF_len]; exact opOk_mono hk hopk) (pad_row (HROW.out.of_block (hW.block gR (World.rowIs.lt HROW.out))) p1) (HCE.out.below hWw) (HIN.out.below hWw) (HLK.out.below hWw))
          generalize regsF n cells ins links [] (c.ops.take k) = rg at HSN HROW HCALL hrow hrl
          clear hlv
          generalize laysF op n rg cells ins links = lv at HSN HCALL
          obtain ⟨ok, oa, ob, oc⟩ := op
          simp only at HCALL
          simp only at d0 d1 d2 d3
          have j3 : (0 : Int) ≤ (k : Int) := by omega
          have j4 : (k : Int) < (c.ops.length : Int) := by omega
          have HA : Hid (∀ ob, Below bx.heap.size bx (wr.alloc ob)) := hide (fun ob => HBR.out.alloc HBR.out.size ob)
          have y0 : ∀ ob, (wr.alloc ob).cell? ⟨w.heap.size + 1, 0, none⟩ = some (.int .i64 n) := fun ob => (HD.out _ (HA.out ob)).1
          have y1 : ∀ ob, (wr.alloc ob).cell? ⟨w.heap.size + 1, 1, none⟩ = some (.slice Az cells.length Cz) := fun ob => (HD.out _ (HA.out ob)).2.1
          have y2 : ∀ ob, (wr.alloc ob).cell? ⟨w.heap.size + 1, 2, none⟩ = some (.slice Ai ins.length Ci) := fun ob => (HD.out _ (HA.out ob)).2.2.1
          have y3 : ∀ ob, (wr.alloc ob).cell? ⟨w.heap.size + 1, 3, none⟩ = some (.slice Al links.length Cl) := fun ob => (HD.out _ (HA.out ob)).2.2.2
          clear hcell c0 c1 c2 c3 hop hopk hbr hrow
          go_wp2_with fail
          refine (HCALL.out _ ((Below.refl _ _).alloc (Nat.le_refl _) _)).mono ?_
          rintro e w5 ⟨rfl, hb5⟩
          have hb5' : Below wr.heap.size wr w5 := ((Below.refl _ _).alloc (Nat.le_refl _) _).trans (hb5.mono (by simp))
          have hrow5 := HROW.out.of_block (hb5'.block gR (World.rowIs.lt HROW.out))
          have t0 := hrow5.cell hkl
          have f0 := hrow5.frozen k
          have HR5 := hide hrow5
          have HB5 := hide (HBR.out.trans (hb5'.mono HBR.out.size))
          have HKL := hide hkl
          clear hb5 hb5' HCALL d0 d1 d2 d3 x0 x1 x2 x3 y0 y1 y2 y3 hrow5
          go_wp2
          go_roundw
          case rel =>
            refine ⟨k + 1, by omega, by go_num, (HR5.out.set k (.int .i64 lv)).congr (fun j hj => ?_), HB5.out.setCell HGB.out _⟩
            rw [HSN.out]
            by_cases e : j = k
            · subst e
              rw [if_pos rfl, List.getD_eq_getElem?_getD, List.getElem?_append_right (by omega), hrl, Nat.sub_self]; rfl
            · rw [if_neg e, List.getD_eq_getElem?_getD, List.getD_eq_getElem?_getD]
              by_cases e2 : j < k
              · rw [List.getElem?_append_left (by omega)]
              · rw [List.getElem?_eq_none (by omega), List.getElem?_eq_none (by rw [List.length_append, hrl]; simp; omega)]
          case measure => simp [intOf]; omega
        · have ek : k = c.ops.length := by omega
          subst ek
          have z9 : ¬ (c.ops.length : Int) < (c.ops.length : Int) := by omega
          rw [List.take_length] at hrow hrl HROW
          have HPAD : Hid (padF c.ops.length (regsF n cells ins links [] c.ops) = regsF n cells ins links [] c.ops) := hide (by
            apply List.ext_getElem?
            intro j
            by_cases hj : j < c.ops.length
            · unfold padF
              rw [List.getElem?_map, List.getElem?_range hj, List.getElem?_eq_getElem (by omega)]
              show some (List.getD _ j 0) = _
              rw [List.getD_eq_getElem?_getD, List.getElem?_eq_getElem (by omega)]; rfl
            · rw [List.getElem?_eq_none (by rw [padF_len]; omega), List.getElem?_eq_none (by omega)])
          have HPK : Hid (∀ W, Below wr.heap.size wr W → RowAt W (.slice (some ⟨gR, 0, none⟩) c.ops.length c.ops.length) (regsF n cells ins links [] c.ops)) := hide (fun W hW => by
            rw [← HPAD.out]
            exact pad_row (HROW.out.of_block (hW.block gR (World.rowIs.lt HROW.out))) p1)
          have HRL2 := hide hrl
          have HP1 := hide (fun W (hW : Below wr.heap.size wr W) => mpick_any W _ _ _ c.out (HPK.out W hW) ((HH.out.below (HBW.out.trans (hW.mono HBW.out.size))).out) p3 (fun x hx => by rw [HRL2.out]; exact HPO.out x hx))
          have HP2 := hide (fun W (hW : Below wr.heap.size wr W) => mpick_any W _ _ _ c.next (HPK.out W hW) ((HH.out.below (HBW.out.trans (hW.mono HBW.out.size))).next) p2 (fun x hx => by rw [HRL2.out]; exact HPN.out x hx))
          generalize regsF n cells ins links [] c.ops = rg at HE HP1 HP2 HROW HPAD HPK HRL2 hrl hrow
          clear hrow hbr HPAD HPK HRL
          rename World => wq
          go_wp2_with fail
          refine (HP1.out _ (Below.refl _ _)).mono ?_
          rintro e w5 ⟨vo, rfl, hown5, hb5⟩
          have x2' := (HC.out w5 (HBR.out.trans (hb5.mono HBR.out.size))).2.2.1
          have HO5 := hide hown5
          have HB5 := hide hb5
          clear hown5 hb5 x0 x1 x2 x3
          go_wp2_with fail
          refine (HP2.out _ HB5.out).mono ?_
          rintro e w6 ⟨vn, rfl, hown6, hb6⟩
          have HO6 := hide hown6
          have HB6 := hide hb6
          have hle1 : w.heap.size ≤ wq.heap.size := HBW.out.size
          have hle2 : wq.heap.size ≤ w5.heap.size := HB5.out.size
          clear hown6 hb6
          go_wp2
          go_ret3
          rw [HE.out]
          refine ⟨vo, vn, rfl, ⟨?_, ?_, fun b hb hb2 => ?_⟩, HBW.out.trans ((HB5.out.trans (HB6.out.mono hle2)).mono hle1)⟩
          · rw [List.length_map]; exact own_wk (bel_own HO5.out HB6.out) hle1
          · rw [List.length_map]; exact own_wk HO6.out (by omega)
          · have h1 := (HO5.out.lt b hb).2
            have h2 := (HO6.out.lt b hb2).1
            omega

theorem pexec_any (w : World) (vO vC vN vU : Value) (c : CdF) (h : CodeAt w vO vC vN vU c) (n : Int) (vc vi vl : Value) (cells ins links : List Int) (hc : RowAt w vc cells) (hi : RowAt w vi ins) (hl : RowAt w vl links) :
    Calls Try.prog 33 #[.agg #[vO, vC, vN, vU], .int .i64 n, vc, vi, vl] w fun e w' => ∃ vo vn, e = .returned (.tuple #[vo, vn, .int .i64 ((execF c n cells ins links).1 : Nat)]) ∧ ExQ (execF c n cells ins links) w.heap.size w' vo vn ∧ Below w.heap.size w w' := by
  have HX : Hid (∀ o, Calls Try.prog 52 #[.agg #[vO, vC, vN, vU], .agg #[.int .i64 n, vc, vi, vl]] (w.alloc o) _) := hide (fun o => mexec_any (w.alloc o) vO vC vN vU c (h.below ((Below.refl _ _).alloc (Nat.le_refl _) o)) n vc vi vl cells ins links (hc.below ((Below.refl _ _).alloc (Nat.le_refl _) o)) (hi.below ((Below.refl _ _).alloc (Nat.le_refl _) o)) (hl.below ((Below.refl _ _).alloc (Nat.le_refl _) o)))
  obtain ⟨Ao, Co, rfl, hmo, hco⟩ := h.ops
  obtain ⟨Ac, Cc, rfl, hmc, hcc⟩ := h.cells
  obtain ⟨An, Cn, rfl, hmn, hcn⟩ := h.next
  obtain ⟨Au, Cu, rfl, hmu, hcu⟩ := h.out
  obtain ⟨Az, Cz, rfl, hmz, _⟩ := hc
  obtain ⟨Ai, Ci, rfl, _, _⟩ := hi
  obtain ⟨Al, Cl, rfl, _, _⟩ := hl
  clear hco hcc hcn hcu h
  go_enter Try.func33, Try.ntmps33
  go_wp2_with fail
  refine (HX.out _).mono ?_
  rintro e w1 ⟨vo, vn, rfl, hq, hb⟩
  go_wp2
  go_ret3
  exact ⟨vo, vn, rfl, ⟨own_wk hq.out (by simp), own_wk hq.next (by simp), hq.apart⟩, ((Below.refl _ _).alloc (Nat.le_refl _) _).trans (hb.mono (by simp))⟩

end Go.Proofs.Ytecegaflhdgfaaa
