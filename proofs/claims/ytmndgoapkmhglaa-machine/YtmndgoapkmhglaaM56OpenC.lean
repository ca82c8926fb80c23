import Derived.Laws.StructEq
import Derived.Test.YtmndgoapkmhglaaM25OpenL
import Derived.Test.YtmndgoapkmhglaaM51OpC
import Derived.Test.YtmndgoapkmhglaaM54PExB
import Derived.Test.YtmndgoapkmhglaaM55PExE
/- the program's machine: Exec. -/
namespace Go.Proofs.Ytmndgoapkmhglaa
open Go.RowKit
attribute [local go_sem ↓] Go.wp_at_zero Go.wp_at_succ

def padF (N : Nat) (l : List Int) : List Int := (List.range N).map fun j => l.getD j 0
theorem padF_len (N : Nat) (l : List Int) : (padF N l).length = N := by simp [padF]
theorem padF_get {N : Nat} {l : List Int} {j : Nat} (h : j < (padF N l).length) : (padF N l)[j] = l.getD j 0 := by simp [padF]
theorem padF_at {N : Nat} {l : List Int} {x : Int} (h : regOk N x = true) : atF (padF N l) x = atF l x := by
  unfold regOk at h
  simp only [Bool.and_eq_true, decide_eq_true_eq] at h
  unfold atF padF
  rw [if_neg (by omega), if_neg (by omega), List.getD_eq_getElem?_getD, List.getElem?_map, List.getElem?_range (by omega)]; rfl
theorem regOk_mono {k N : Nat} (h : k ≤ N) {x : Int} (hx : regOk k x = true) : regOk N x = true := by
  unfold regOk at *
  simp only [Bool.and_eq_true, decide_eq_true_eq] at *
  omega
theorem opOk_mono {nc k N : Nat} {o : OpF} (h : k ≤ N) (ho : opOk nc k o = true) : opOk nc N o = true := by
  unfold opOk at *
  simp only [Bool.and_eq_true, List.all_eq_true] at *
  exact ⟨ho.1, fun x hx => regOk_mono h (ho.2 x hx)⟩
theorem pad_row {w : World} {g N : Nat} {l : List Int} (h : w.rowIs g 3 N (fun j => .int .i64 (l.getD j 0))) (hN : N ≤ 1500) : RowAt w (.slice (some ⟨g, 0, none⟩) N N) (padF N l) := by
  refine ⟨some ⟨g, 0, none⟩, N, by rw [padF_len], by rw [padF_len]; omega, fun _ => ⟨g, 0, rfl, World.rowIs.lt h, fun k hk => ?_⟩⟩
  rw [Nat.zero_add, padF_get hk]
  exact h.cell (by rw [padF_len] at hk; exact hk)

set_option maxHeartbeats 4000000 in
set_option maxRecDepth 100000 in
theorem mexec_any (w : World) (vO vC vN vU : Value) (c : CdF) (h : CodeAt w vO vC vN vU c) (n : Int) (vc vi vl : Value) (cells ins links : List Int) (hc : RowAt w vc cells) (hi : RowAt w vi ins) (hl : RowAt w vl links) :
    Calls Try.prog 57 #[.agg #[vO, vC, vN, vU], .agg #[.int .i64 n, vc, vi, vl]] w fun e w' => ∃ vo vn, e = .returned (.tuple #[vo, vn, .int .i64 ((execF c n cells ins links).1 : Nat)]) ∧ ExQ (execF c n cells ins links) w.heap.size w' vo vn ∧ Below w.heap.size w w' := by
  have HH := hide h
  have HCE := hide hc
  have HIN := hide hi
  have HLK := hide hl
  obtain ⟨Ao, Co, rfl, hmo, hco⟩ := h.ops
  obtain ⟨Ac, Cc, rfl, hmc, hcc⟩ := h.cells
  obtain ⟨An, Cn, rfl, hmn, hcn⟩ := h.next
  obtain ⟨Au, Cu, rfl, hmu, hcu⟩ := h.out
  obtain ⟨Az, Cz, rfl, hmz, _⟩ := hc
  obtain ⟨Ai, Ci, rfl, _, _⟩ := hi
  obtain ⟨Al, Cl, rfl, _, _⟩ := hl
  obtain ⟨bx, hbx⟩ : ∃ bx, bx = (w.alloc (.cells #[.slice Ao c.ops.length Co, .slice Ac c.cells.length Cc, .slice An c.next.length Cn, .slice Au c.out.length Cu] 60)).alloc (.cells #[.int .i64 n, .slice Az cells.length Cz, .slice Ai ins.length Ci, .slice Al links.length Cl] 101) := ⟨_, rfl⟩
  have HB0 : Hid (Below w.heap.size w bx) := hide (by rw [hbx]; exact ((Below.refl _ _).alloc (Nat.le_refl _) _).alloc (by simp) _)
  have HSZ : Hid (w.heap.size + 1 < bx.heap.size) := hide (by rw [hbx]; simp)
  have HC : Hid (∀ W, Below bx.heap.size bx W → W.cell? ⟨w.heap.size, 0, none⟩ = some (.slice Ao c.ops.length Co) ∧ W.cell? ⟨w.heap.size, 1, none⟩ = some (.slice Ac c.cells.length Cc) ∧ W.cell? ⟨w.heap.size, 2, none⟩ = some (.slice An c.next.length Cn) ∧ W.cell? ⟨w.heap.size, 3, none⟩ = some (.slice Au c.out.length Cu)) := hide (fun W hW => by
    have hN : W.heap[w.heap.size]? = some (.cells #[.slice Ao c.ops.length Co, .slice Ac c.cells.length Cc, .slice An c.next.length Cn, .slice Au c.out.length Cu] 60) := (hW.block w.heap.size (by have := HSZ.out; omega)).trans (by rw [hbx, Below.heap_alloc _ _ _ (by simp)]; exact heap_alloc_new w _)
    exact ⟨by rw [cell_of_row W _ 0 _ _ _ hN]; rfl, by rw [cell_of_row W _ 1 _ _ _ hN]; rfl, by rw [cell_of_row W _ 2 _ _ _ hN]; rfl, by rw [cell_of_row W _ 3 _ _ _ hN]; rfl⟩)
  have HD : Hid (∀ W, Below bx.heap.size bx W → W.cell? ⟨w.heap.size + 1, 0, none⟩ = some (.int .i64 n) ∧ W.cell? ⟨w.heap.size + 1, 1, none⟩ = some (.slice Az cells.length Cz) ∧ W.cell? ⟨w.heap.size + 1, 2, none⟩ = some (.slice Ai ins.length Ci) ∧ W.cell? ⟨w.heap.size + 1, 3, none⟩ = some (.slice Al links.length Cl)) := hide (fun W hW => by
    have hN : W.heap[w.heap.size + 1]? = some (.cells #[.int .i64 n, .slice Az cells.length Cz, .slice Ai ins.length Ci, .slice Al links.length Cl] 101) := (hW.block (w.heap.size + 1) HSZ.out).trans (by rw [hbx]; have := heap_alloc_new (w.alloc (.cells #[.slice Ao c.ops.length Co, .slice Ac c.cells.length Cc, .slice An c.next.length Cn, .slice Au c.out.length Cu] 60)) (.cells #[.int .i64 n, .slice Az cells.length Cz, .slice Ai ins.length Ci, .slice Al links.length Cl] 101); simpa using this)
    exact ⟨by rw [cell_of_row W _ 0 _ _ _ hN]; rfl, by rw [cell_of_row W _ 1 _ _ _ hN]; rfl, by rw [cell_of_row W _ 2 _ _ _ hN]; rfl, by rw [cell_of_row W _ 3 _ _ _ hN]; rfl⟩)
  have HFM := hide (pformed_any bx _ _ _ _ c (HH.out.below HB0.out))
  have HEX : Hid (execF c n cells ins links = if formedF c = false then (9, [], []) else if n < 0 ∨ cells.length ≠ c.cells.length then (10, [], []) else (0, c.out.map (atF (regsF n cells ins links [] c.ops)), c.next.map (atF (regsF n cells ins links [] c.ops)))) := hide rfl
  have HCO := hide hco
  clear hco hcc hcn hcu h
  go_enter Try.func57, Try.ntmps57
  go_wp2_with fail
  rw [← hbx]
  clear hbx
  refine HFM.out.mono ?_
  rintro e w1 ⟨rfl, hb1⟩
  have HB1 := hide hb1
  clear hb1 HFM
  obtain ⟨x0, x1, x2, x3⟩ := HC.out w1 HB1.out
  obtain ⟨y0, y1, y2, y3⟩ := HD.out w1 HB1.out
  by_cases hf : formedF c = true
  case neg =>
    have hff : formedF c = false := by simpa using hf
    have HE : Hid (execF c n cells ins links = (9, [], [])) := hide (by rw [HEX.out, if_pos hff])
    rw [hff]
    clear hf hff HEX
    go_wp2
    go_ret3
    rw [HE.out]
    exact ⟨_, _, rfl, ⟨World.ownsRow_nil _ _ _ _, World.ownsRow_nil _ _ _ _, fun b hb => by simp [Value.ownBlock] at hb⟩, HB0.out.trans (HB1.out.mono HB0.out.size)⟩
  case pos =>
    rw [hf]
    by_cases ha : n < 0 ∨ cells.length ≠ c.cells.length
    · have HE : Hid (execF c n cells ins links = (10, [], [])) := hide (by rw [HEX.out, if_neg (by rw [hf]; decide), if_pos ha])
      have hcs : n < 0 ∨ (¬ n < 0 ∧ ((cells.length : Int) != (c.cells.length : Int)) = true) := by
        by_cases h : n < 0
        · exact .inl h
        · right; refine ⟨h, ?_⟩; rw [bne_iff_ne]; rcases ha with h' | h' <;> omega
      clear hf HEX ha
      rcases hcs with z1 | ⟨z1, z2⟩
      all_goals
        go_wp2
        go_ret3
        rw [HE.out]
        exact ⟨_, _, rfl, ⟨World.ownsRow_nil _ _ _ _, World.ownsRow_nil _ _ _ _, fun b hb => by simp [Value.ownBlock] at hb⟩, HB0.out.trans (HB1.out.mono HB0.out.size)⟩
    · have HE : Hid (execF c n cells ins links = (0, c.out.map (atF (regsF n cells ins links [] c.ops)), c.next.map (atF (regsF n cells ins links [] c.ops)))) := hide (by rw [HEX.out, if_neg (by rw [hf]; decide), if_neg ha])
      have z1 : ¬ n < 0 := fun h => ha (.inl h)
      have hcl : cells.length = c.cells.length := by
        by_cases h : cells.length = c.cells.length
        · exact h
        · exact absurd (.inr h) ha
      have z2 : ((cells.length : Int) != (c.cells.length : Int)) = false := by rw [hcl]; simp
      have HCL := hide hcl
      obtain ⟨p1, p2, p3, p4, p5, p6, p7⟩ := formed_parts hf
      have HPN := hide p5
      have HPO := hide p6
      have HOK := hide p7
      have HRL := hide (fun k => regsF_len n cells ins links (c.ops.take k) [])
      have hm2 := run_make_row' (P := Try.prog) 48 3 (.int .i64 0) 8 Try.underlying48 Try.infoInt rfl .i64 .i64 c.ops.length (by omega) (by omega)
      have HS : Hid (∀ o, o = .cells (madeCells #[.int .i64 0] c.ops.length) 3 → (w1.alloc o).rowIs w1.heap.size 3 c.ops.length (fun j => .int .i64 (([] : List Int).getD j 0)) ∧ Below bx.heap.size bx (w1.alloc o)) := hide (fun o ho => by
        subst ho
        exact ⟨(World.rowIs_made w1 (.int .i64 0) c.ops.length 3).congr (fun j _ => by simp), HB1.out.alloc HB1.out.size _⟩)
      have x0a : ∀ o, (w1.alloc o).cell? ⟨w.heap.size, 0, none⟩ = some (.slice Ao c.ops.length Co) := fun o => (HC.out _ (HB1.out.alloc HB1.out.size o)).1
      clear hf ha HEX p4 p5 p6 p7 hcl
      obtain ⟨gR, hgR⟩ : ∃ gR, gR = w1.heap.size := ⟨_, rfl⟩
      have HGR := hide hgR
      have HGB : Hid (bx.heap.size ≤ gR) := hide (by rw [hgR]; exact HB1.out.size)
      go_wp2
      rw [← hgR]
      clear hgR
      go_loopw [34] (fun vk wr => ∃ k : Nat, k ≤ c.ops.length ∧ vk = .int .i64 k ∧ wr.rowIs gR 3 c.ops.length (fun j => .int .i64 ((regsF n cells ins links [] (c.ops.take k)).getD j 0)) ∧ Below bx.heap.size bx wr) (fun vk _ => c.ops.length - (intOf vk).toNat)
      case atStart => exact ⟨0, Nat.zero_le _, rfl, by rw [HGR.out]; exact (HS.out _ rfl).1, (HS.out _ rfl).2⟩
      case round =>
        clear x0 x1 x2 x3 y0 y1 y2 y3 HS x0a
        obtain ⟨k, hk, rfl, hrow, hbr⟩ := hrel
        obtain ⟨x0, x1, x2, x3⟩ := HC.out wr hbr
        have HBR := hide hbr
        have HBW := hide (HB0.out.trans (hbr.mono HB0.out.size))
        have HROW := hide hrow
        have hrl : (regsF n cells ins links [] (c.ops.take k)).length = k := by rw [HRL.out k, List.length_take]; simp; omega
        by_cases hkl : k < c.ops.length
        · obtain ⟨b, o, rfl, hbl, hcell⟩ := HCO.out (by omega)
          obtain ⟨op, hop⟩ : ∃ op, op = c.ops[k]'hkl := ⟨_, rfl⟩
          obtain ⟨c0, c1, c2, c3⟩ := hcell k hkl
          rw [← hop] at c0 c1 c2 c3
          have d0 := (HBW.out.cell (p := ⟨b, o + k * 4, none⟩) hbl).trans c0
          have d1 := (HBW.out.cell (p := ⟨b, o + k * 4 + 1, none⟩) hbl).trans c1
          have d2 := (HBW.out.cell (p := ⟨b, o + k * 4 + 2, none⟩) hbl).trans c2
          have d3 := (HBW.out.cell (p := ⟨b, o + k * 4 + 3, none⟩) hbl).trans c3
          have hopk : opOk c.cells.length k op = true := by have := opsOk_at _ _ 0 HOK.out k hkl; rwa [Nat.zero_add, ← hop] at this
          have HSN : Hid (regsF n cells ins links [] (c.ops.take (k + 1)) = regsF n cells ins links [] (c.ops.take k) ++ [laysF op n (regsF n cells ins links [] (c.ops.take k)) cells ins links]) := hide (by
            rw [List.take_succ_eq_append_getElem hkl, regsF_snoc, ← hop])
          have hlv : laysF op n (padF c.ops.length (regsF n cells ins links [] (c.ops.take k))) cells ins links = laysF op n (regsF n cells ins links [] (c.ops.take k)) cells ins links := by
            obtain ⟨q0, q1, q2⟩ := opOk_parts hopk
            exact lays_congr q0 q1 (fun r hr => padF_at (regOk_mono hk (q2 r hr)))
          have HCALL : Hid (∀ W, Below wr.heap.size wr W → Calls Try.prog 88 #[.agg #[.int .i64 op.k, .int .i64 op.a, .int .i64 op.b, .int .i64 op.c], .agg #[.int .i64 n, .slice Az cells.length Cz, .slice Ai ins.length Ci, .slice Al links.length Cl], .slice (some ⟨gR, 0, none⟩) c.ops.length c.ops.length] W fun e w' => e = .returned (.int .i64 (laysF op n (regsF n cells ins links [] (c.ops.take k)) cells ins links)) ∧ Below W.heap.size W w') := hide (fun W hW => by
            have hWw : Below w.heap.size w W := HBW.out.trans (hW.mono HBW.out.size)
            rw [← hlv]
            exact mvalue_any W op n _ _ _ _ _ _ _ _ (by rw [HCL.out, padF_len]; exact opOk_mono hk hopk) (pad_row (HROW.out.of_block (hW.block gR (World.rowIs.lt HROW.out))) p1) (HCE.out.below hWw) (HIN.out.below hWw) (HLK.out.below hWw))
          generalize regsF n cells ins links [] (c.ops.take k) = rg at HSN HROW HCALL hrow hrl
          clear hlv
          generalize laysF op n rg cells ins links = lv at HSN HCALL
          obtain ⟨ok, oa, ob, oc⟩ := op
          simp only at HCALL
          simp only at d0 d1 d2 d3
          have j3 : (0 : Int) ≤ (k : Int) := by omega
          have j4 : (k : Int) < (c.ops.length : Int) := by omega
          have HA : Hid (∀ ob, Below bx.heap.size bx (wr.alloc ob)) := hide (fun ob => HBR.out.alloc HBR.out.size ob)
          have y0 : ∀ ob, (wr.alloc ob).cell? ⟨w.heap.size + 1, 0, none⟩ = some (.int .i64 n) := fun ob => (HD.out _ (HA.out ob)).1
          have y1 : ∀ ob, (wr.alloc ob).cell? ⟨w.heap.size + 1, 1, none⟩ = some (.slice Az cells.length Cz) := fun ob => (HD.out _ (HA.out ob)).2.1
          have y2 : ∀ ob, (wr.alloc ob).cell? ⟨w.heap.size + 1, 2, none⟩ = some (.slice Ai ins.length Ci) := fun ob => (HD.out _ (HA.out ob)).2.2.1
          have y3 : ∀ ob, (wr.alloc ob).cell? ⟨w.heap.size + 1, 3, none⟩ = some (.slice Al links.length Cl) := fun ob => (HD.out _ (HA.out ob)).2.2.2
          clear hcell c0 c1 c2 c3 hop hopk hbr hrow
          go_wp2_with fail
          refine (HCALL.out _ ((Below.refl _ _).alloc (Nat.le_refl _) _)).mono ?_
          rintro e w5 ⟨rfl, hb5⟩
          have hb5' : Below wr.heap.size wr w5 := ((Below.refl _ _).alloc (Nat.le_refl _) _).trans (hb5.mono (by simp))
          have hrow5 := HROW.out.of_block (hb5'.block gR (World.rowIs.lt HROW.out))
          have t0 := hrow5.cell hkl
          have f0 := hrow5.frozen k
          have HR5 := hide hrow5
          have HB5 := hide (HBR.out.trans (hb5'.mono HBR.out.size))
          have HKL := hide hkl
          clear hb5 hb5' HCALL d0 d1 d2 d3 x0 x1 x2 x3 y0 y1 y2 y3 hrow5
          go_wp2
          go_roundw
          case rel =>
            refine ⟨k + 1, by omega, by go_num, (HR5.out.set k (.int .i64 lv)).congr (fun j hj => ?_), HB5.out.setCell HGB.out _⟩
            rw [HSN.out]
            by_cases e : j = k
            · subst e
              rw [if_pos rfl, List.getD_eq_getElem?_getD, List.getElem?_append_right (by omega), hrl, Nat.sub_self]; rfl
            · rw [if_neg e, List.getD_eq_getElem?_getD, List.getD_eq_getElem?_getD]
              by_cases e2 : j < k
              · rw [List.getElem?_append_left (by omega)]
              · rw [List.getElem?_eq_none (by omega), List.getElem?_eq_none (by rw [List.length_append, hrl]; simp; omega)]
          case measure => simp [intOf]; omega
        · have ek : k = c.ops.length := by omega
          subst ek
          have z9 : ¬ (c.ops.length : Int) < (c.ops.length : Int) := by omega
          rw [List.take_length] at hrow hrl HROW
          have HPAD : Hid (padF c.ops.length (regsF n cells ins links [] c.ops) = regsF n cells ins links [] c.ops) := hide (by
            apply List.ext_getElem?
            intro j
            by_cases hj : j < c.ops.length
            · unfold padF
              rw [List.getElem?_map, List.getElem?_range hj, List.getElem?_eq_getElem (by omega)]
              show some (List.getD _ j 0) = _
              rw [List.getD_eq_getElem?_getD, List.getElem?_eq_getElem (by omega)]; rfl
            · rw [List.getElem?_eq_none (by rw [padF_len]; omega), List.getElem?_eq_none (by omega)])
          have HPK : Hid (∀ W, Below wr.heap.size wr W → RowAt W (.slice (some ⟨gR, 0, none⟩) c.ops.length c.ops.length) (regsF n cells ins links [] c.ops)) := hide (fun W hW => by
            rw [← HPAD.out]
            exact pad_row (HROW.out.of_block (hW.block gR (World.rowIs.lt HROW.out))) p1)
          have HRL2 := hide hrl
          have HP1 := hide (fun W (hW : Below wr.heap.size wr W) => mpick_any W _ _ _ c.out (HPK.out W hW) ((HH.out.below (HBW.out.trans (hW.mono HBW.out.size))).out) p3 (fun x hx => by rw [HRL2.out]; exact HPO.out x hx))
          have HP2 := hide (fun W (hW : Below wr.heap.size wr W) => mpick_any W _ _ _ c.next (HPK.out W hW) ((HH.out.below (HBW.out.trans (hW.mono HBW.out.size))).next) p2 (fun x hx => by rw [HRL2.out]; exact HPN.out x hx))
          generalize regsF n cells ins links [] c.ops = rg at HE HP1 HP2 HROW HPAD HPK HRL2 hrl hrow
          clear hrow hbr HPAD HPK HRL
          rename World => wq
          go_wp2_with fail
          refine (HP1.out _ (Below.refl _ _)).mono ?_
          rintro e w5 ⟨vo, rfl, hown5, hb5⟩
          have x2' := (HC.out w5 (HBR.out.trans (hb5.mono HBR.out.size))).2.2.1
          have HO5 := hide hown5
          have HB5 := hide hb5
          clear hown5 hb5 x0 x1 x2 x3
          go_wp2_with fail
          refine (HP2.out _ HB5.out).mono ?_
          rintro e w6 ⟨vn, rfl, hown6, hb6⟩
          have HO6 := hide hown6
          have HB6 := hide hb6
          have hle1 : w.heap.size ≤ wq.heap.size := HBW.out.size
          have hle2 : wq.heap.size ≤ w5.heap.size := HB5.out.size
          clear hown6 hb6
          go_wp2
          go_ret3
          rw [HE.out]
          refine ⟨vo, vn, rfl, ⟨?_, ?_, fun b hb hb2 => ?_⟩, HBW.out.trans ((HB5.out.trans (HB6.out.mono hle2)).mono hle1)⟩
          · rw [List.length_map]; exact own_wk (bel_own HO5.out HB6.out) hle1
          · rw [List.length_map]; exact own_wk HO6.out (by omega)
          · have h1 := (HO5.out.lt b hb).2
            have h2 := (HO6.out.lt b hb2).1
            omega

theorem pexec_any (w : World) (vO vC vN vU : Value) (c : CdF) (h : CodeAt w vO vC vN vU c) (n : Int) (vc vi vl : Value) (cells ins links : List Int) (hc : RowAt w vc cells) (hi : RowAt w vi ins) (hl : RowAt w vl links) :
    Calls Try.prog 34 #[.agg #[vO, vC, vN, vU], .int .i64 n, vc, vi, vl] w fun e w' => ∃ vo vn, e = .returned (.tuple #[vo, vn, .int .i64 ((execF c n cells ins links).1 : Nat)]) ∧ ExQ (execF c n cells ins links) w.heap.size w' vo vn ∧ Below w.heap.size w w' := by
  have HX : Hid (∀ o, Calls Try.prog 57 #[.agg #[vO, vC, vN, vU], .agg #[.int .i64 n, vc, vi, vl]] (w.alloc o) _) := hide (fun o => mexec_any (w.alloc o) vO vC vN vU c (h.below ((Below.refl _ _).alloc (Nat.le_refl _) o)) n vc vi vl cells ins links (hc.below ((Below.refl _ _).alloc (Nat.le_refl _) o)) (hi.below ((Below.refl _ _).alloc (Nat.le_refl _) o)) (hl.below ((Below.refl _ _).alloc (Nat.le_refl _) o)))
  obtain ⟨Ao, Co, rfl, hmo, hco⟩ := h.ops
  obtain ⟨Ac, Cc, rfl, hmc, hcc⟩ := h.cells
  obtain ⟨An, Cn, rfl, hmn, hcn⟩ := h.next
  obtain ⟨Au, Cu, rfl, hmu, hcu⟩ := h.out
  obtain ⟨Az, Cz, rfl, hmz, _⟩ := hc
  obtain ⟨Ai, Ci, rfl, _, _⟩ := hi
  obtain ⟨Al, Cl, rfl, _, _⟩ := hl
  clear hco hcc hcn hcu h
  go_enter Try.func34, Try.ntmps34
  go_wp2_with fail
  refine (HX.out _).mono ?_
  rintro e w1 ⟨vo, vn, rfl, hq, hb⟩
  go_wp2
  go_ret3
  exact ⟨vo, vn, rfl, ⟨own_wk hq.out (by simp), own_wk hq.next (by simp), hq.apart⟩, ((Below.refl _ _).alloc (Nat.le_refl _) _).trans (hb.mono (by simp))⟩

end Go.Proofs.Ytmndgoapkmhglaa

/- the statement on the machine, over what the program's Exec hands over. -/
namespace Go.Proofs.Ytmndgoapkmhglaa
open Go.RowKit
attribute [local go_sem ↓] Go.wp_at_zero Go.wp_at_succ

set_option maxHeartbeats 4000000 in
set_option maxRecDepth 100000 in
theorem machine_any (w : World) (Ao Ac An Au : Option Addr) (Co Cc Cn Cu : Nat) (c : CdF) (h : ArgC w Ao Ac An Au Co Cc Cn Cu c) (n : Int) (Ax Ay Az : Option Addr) (Cx Cy Cz : Nat) (xs ys zs : List Int) (hx : ArgR w Ax Cx xs) (hy : ArgR w Ay Cy ys) (hz : ArgR w Az Cz zs) :
    Calls Try.prog 10 #[.agg #[.slice Ao c.ops.length Co, .slice Ac c.cells.length Cc, .slice An c.next.length Cn, .slice Au c.out.length Cu], .int .i64 n, .slice Ax xs.length Cx, .slice Ay ys.length Cy, .slice Az zs.length Cz] w fun e w' => e = .returned (.bool true) ∧ Below w.heap.size w w' := by
  have HA := hide h
  have HX := hide hx
  have HY := hide hy
  have HZ := hide hz
  clear h hx hy hz
  obtain ⟨b0, hb0⟩ : ∃ b0, b0 = w.alloc (.cells #[.slice Ao c.ops.length Co, .slice Ac c.cells.length Cc, .slice An c.next.length Cn, .slice Au c.out.length Cu] 60) := ⟨_, rfl⟩
  have HW0 : Hid (Below w.heap.size w b0) := hide (by rw [hb0]; exact (Below.refl _ _).alloc (Nat.le_refl _) _)
  have HC : Hid (∀ W : World, Below b0.heap.size b0 W → W.cell? ⟨w.heap.size, 0, none⟩ = some (.slice Ao c.ops.length Co) ∧ W.cell? ⟨w.heap.size, 1, none⟩ = some (.slice Ac c.cells.length Cc) ∧ W.cell? ⟨w.heap.size, 2, none⟩ = some (.slice An c.next.length Cn) ∧ W.cell? ⟨w.heap.size, 3, none⟩ = some (.slice Au c.out.length Cu)) := hide fun W hW => by
    have hy := box_at hb0 hW
    refine ⟨?_, ?_, ?_, ?_⟩ <;> (rw [cell_of_row _ _ _ _ _ _ hy]; rfl)
  go_enter Try.func10, Try.ntmps10
  go_wp2_with fail
  rw [← hb0]
  refine (lcopied_any b0 Ao Ac An Au Co Cc Cn Cu c (HA.out.below HW0.out)).mono ?_
  clear hb0
  rintro e w1 ⟨vO, vC, vN, vU, rfl, hcp, hb1⟩
  obtain ⟨g1, hg1, hg2, rfl, hg3⟩ := hcp.ops
  obtain ⟨aC, nC, kC, rfl⟩ := hcp.cells.shape
  obtain ⟨aN, nN, kN, rfl⟩ := hcp.next.shape
  obtain ⟨aU, nU, kU, rfl⟩ := hcp.out.shape
  obtain ⟨b1, hb1'⟩ : ∃ b1, b1 = w1.alloc (.cells #[.slice (some ⟨g1, 0, none⟩) c.ops.length c.ops.length, .slice aC nC kC, .slice aN nN kN, .slice aU nU kU] 60) := ⟨_, rfl⟩
  have hBa : Below w1.heap.size w1 b1 := by rw [hb1']; exact (Below.refl _ _).alloc (Nat.le_refl _) _
  have HD : Hid (∀ W : World, Below b1.heap.size b1 W → W.cell? ⟨w1.heap.size, 0, none⟩ = some (.slice (some ⟨g1, 0, none⟩) c.ops.length c.ops.length) ∧ W.cell? ⟨w1.heap.size, 1, none⟩ = some (.slice aC nC kC) ∧ W.cell? ⟨w1.heap.size, 2, none⟩ = some (.slice aN nN kN) ∧ W.cell? ⟨w1.heap.size, 3, none⟩ = some (.slice aU nU kU)) := hide fun W hW => by
    have hy := box_at hb1' hW
    refine ⟨?_, ?_, ?_, ?_⟩ <;> (rw [cell_of_row _ _ _ _ _ _ hy]; rfl)
  have HB1 : Hid (Below b0.heap.size b0 b1) := hide (hb1.trans (hBa.mono hb1.size))
  have HW1 : Hid (Below w.heap.size w b1) := hide (HW0.out.trans (HB1.out.mono HW0.out.size))
  have HCP := hide (hcp.below hBa)
  have HE1 := hide hb1'
  clear hcp hb1 hg1 hg2 hg3 hBa hb1'
  go_wp2_with fail
  rw [← HE1.out]
  clear HE1
  refine (lroomy_any b1 Ax Cx xs (HX.out.below HW1.out).row HX.out.nil HX.out.few).mono ?_
  rintro e w2 ⟨vx, rfl, hv, hb⟩
  have HVX := hide hv
  have HB2 := hide hb
  have HW2 : Hid (Below w.heap.size w w2) := hide (HW1.out.trans (hb.mono HW1.out.size))
  clear hv hb
  go_wp2_with fail
  refine (lroomy_any w2 Ay Cy ys (HY.out.below HW2.out).row HY.out.nil HY.out.few).mono ?_
  rintro e w3 ⟨vy, rfl, hv, hb⟩
  have HVY := hide hv
  have HB3 := hide hb
  have HW3 : Hid (Below w.heap.size w w3) := hide (HW2.out.trans (hb.mono HW2.out.size))
  clear hv hb
  go_wp2_with fail
  refine (lroomy_any w3 Az Cz zs (HZ.out.below HW3.out).row HZ.out.nil HZ.out.few).mono ?_
  rintro e w4 ⟨vz, rfl, hv, hb⟩
  have HW4 : Hid (Below w.heap.size w w4) := hide (HW3.out.trans (hb.mono HW3.out.size))
  have HK4 : Hid (Below b1.heap.size b1 w4) := hide ((HB2.out.trans (HB3.out.mono HB2.out.size)).trans (hb.mono (Nat.le_trans HB2.out.size HB3.out.size)))
  have HVZ4 := hide hv
  have HVY4 := hide (HVY.out.below hb)
  have HVX4 := hide ((HVX.out.below HB3.out).below hb)
  have HCP4 := hide (HCP.out.below HK4.out)
  obtain ⟨d0, d1, d2, d3⟩ := HD.out w4 HK4.out
  clear hv hb HVX HVY HCP HB2 HB3 HW1 HW2 HW3
  go_wp2_with fail
  refine (pexec_any w4 _ _ _ _ c (HCP4.out.at (HA.out.below HW4.out)) n vx vy vz xs ys zs (HVX4.out.row HX.out.nil (by have := HX.out.few; omega)) (HVY4.out.row HY.out.nil (by have := HY.out.few; omega)) (HVZ4.out.row HZ.out.nil (by have := HZ.out.few; omega))).mono ?_
  rintro e w5 ⟨vo, vn, rfl, hq, hb5⟩
  have HW5 : Hid (Below w.heap.size w w5) := hide (HW4.out.trans (hb5.mono HW4.out.size))
  have HB5 := hide hb5
  have HQ := hide hq
  have HK5 : Hid (Below b0.heap.size b0 w4) := hide (HB1.out.trans (HK4.out.mono HB1.out.size))
  obtain ⟨c0, c1, c2, c3⟩ := HC.out w5 (HK5.out.trans (hb5.mono HK5.out.size))
  clear hq hb5 d0 d1 d2 d3
  have HAC : Hid (CodeAt w5 (.slice Ao c.ops.length Co) (.slice Ac c.cells.length Cc) (.slice An c.next.length Cn) (.slice Au c.out.length Cu) c) := hide (by
    have ha := HA.out.below HW5.out
    exact ⟨ha.ops, ha.cells.1, ha.next.1, ha.out.1⟩)
  go_wp2_with fail
  refine (rExec_any w5 _ _ _ _ c HAC.out n _ _ _ xs ys zs (HX.out.below HW5.out).row (HY.out.below HW5.out).row (HZ.out.below HW5.out).row).mono ?_
  rintro e w6 ⟨va, vb, rfl, hra, hrb, hla, hlb, hb6⟩
  have HE : Hid (Exs w4 w5 w6 (execF c n xs ys zs) vo vn va vb) := hide ⟨HQ.out, hra, hrb, hb6, hla, hlb⟩
  clear hra hrb hb6 HQ HAC hla hlb c0 c1 c2 c3
  generalize execF c n xs ys zs = r at *
  have q1 : ((r.1 : Int) != (r.1 : Int)) = false := by simp
  go_wp2_with fail
  refine (lsame_any w6 vo va r.2.1 r.2.1 HE.out.first.1 HE.out.first.2).mono ?_
  rintro e w7 ⟨rfl, hb7⟩
  have HB7 := hide hb7
  clear hb7
  rw [show (r.2.1 == r.2.1) = true by simp]
  go_wp2_with fail
  refine (num_of _ _).mono ?_
  rintro e w7' ⟨rfl, rfl⟩
  go_wp2_with fail
  refine (lown_any w7 w4.heap.size vo r.2.1 (-78) (below_own (below_own HE.out.q.out HE.out.bel) HB7.out) (by have := HE.out.lo; omega)).mono ?_
  rintro e w8 ⟨o, rfl, -, -, -, ho, hg8⟩
  have HO := hide ho
  have HG8 := hide hg8
  have HS := hide (HE.out.second HB7.out hg8)
  have HG8B : Hid (Below w4.heap.size w4 w8) := hide (by
    have s4 := HB5.out.size
    have s5 := HE.out.bel.size
    have s6 := HB7.out.size
    exact ((HB5.out.trans (HE.out.bel.mono s4)).trans (HB7.out.mono (by omega))).trans (below_grown hg8 (fun b e => (HE.out.q.out.lt b e).1) (by omega)))
  obtain ⟨A1, C1, e1, _⟩ := ho.a
  obtain ⟨A2, C2, e2, _⟩ := ho.b
  obtain ⟨A3, C3, e3, _⟩ := ho.c
  obtain ⟨A4, C4, e4, _⟩ := ho.d
  obtain ⟨o1, o2, o3, o4, on, om⟩ := o
  simp only at e1 e2 e3 e4
  subst e1 e2 e3 e4
  obtain ⟨b8, hb8⟩ : ∃ b8, b8 = w8.alloc (.cells #[.slice A1 on C1, .slice A2 (on + 1) C2, .slice A3 (on + 2) C3, .slice A4 (on + 6) C4, .int .i64 om] 68) := ⟨_, rfl⟩
  have HB8 : Hid (Below w8.heap.size w8 b8) := hide (by rw [hb8]; exact (Below.refl _ _).alloc (Nat.le_refl _) _)
  have HO8 : Hid (∀ W : World, Below b8.heap.size b8 W → W.heap[w8.heap.size]? = some (.cells #[.slice A1 on C1, .slice A2 (on + 1) C2, .slice A3 (on + 2) C3, .slice A4 (on + 6) C4, .int .i64 om] 68 (0, 0)) ∧ w8.heap.size < W.heap.size) := hide fun W hW => ⟨box_at hb8 hW, Nat.lt_of_lt_of_le (by rw [hb8]; simp) hW.size⟩
  have HE8 := hide hb8
  clear hg8 ho hb8
  go_wp2_with fail
  rw [← HE8.out]
  clear HE8
  refine (lsame_any b8 vn vb r.2.2 r.2.2 (HS.out.2.1.below HB8.out) (HS.out.2.2.below HB8.out)).mono ?_
  rintro e w9 ⟨rfl, hb9⟩
  have HB9 : Hid (Below w8.heap.size w8 w9) := hide (HB8.out.trans (hb9.mono HB8.out.size))
  have HB9b := hide hb9
  clear hb9
  rw [show (r.2.2 == r.2.2) = true by simp]
  go_wp2_with fail
  refine (lown_any w9 w4.heap.size vn r.2.2 (-79) (below_own HS.out.1 HB9.out) (by have := HE.out.ln; omega)).mono ?_
  rintro e w10 ⟨p, rfl, -, -, -, hp, hg10⟩
  have HF : Hid (OwnAt w10 (fun b => vo.ownBlock = some b ∨ w7.heap.size ≤ b) ⟨.slice A1 on C1, .slice A2 (on + 1) C2, .slice A3 (on + 2) C3, .slice A4 (on + 6) C4, on, om⟩) := hide (HE.out.full HB7.out HO.out HB9.out hg10)
  have HK10 : Hid (Below w4.heap.size w4 w10) := hide (HE.out.keep HB5.out HB7.out HG8.out HB9.out hg10)
  have HP := hide hp
  obtain ⟨P1, D1, e1, _⟩ := hp.a
  obtain ⟨P2, D2, e2, _⟩ := hp.b
  obtain ⟨P3, D3, e3, _⟩ := hp.c
  obtain ⟨P4, D4, e4, _⟩ := hp.d
  obtain ⟨p1, p2, p3, p4, pn, pm⟩ := p
  simp only at e1 e2 e3 e4
  subst e1 e2 e3 e4
  have hbo : w10.heap[w8.heap.size]? = some (.cells #[.slice A1 on C1, .slice A2 (on + 1) C2, .slice A3 (on + 2) C3, .slice A4 (on + 6) C4, .int .i64 om] 68 (0, 0)) := by
    obtain ⟨k1, k2⟩ := HO8.out w9 HB9b.out
    refine (hg10.block _ k2 (fun e => ?_)).trans k1
    have h1 := (HE.out.q.next.lt _ e.symm).2
    have s5 := HE.out.bel.size
    have s6 := HB7.out.size
    have s7 := HG8.out.size
    omega
  have hlo : w8.heap.size < w10.heap.size := (Array.getElem?_eq_some_iff.1 hbo).1
  obtain ⟨b10, hb10⟩ : ∃ b10, b10 = w10.alloc (.cells #[.slice P1 pn D1, .slice P2 (pn + 1) D2, .slice P3 (pn + 2) D3, .slice P4 (pn + 6) D4, .int .i64 pm] 68) := ⟨_, rfl⟩
  have hB10 : Below w10.heap.size w10 b10 := by rw [hb10]; exact (Below.refl _ _).alloc (Nat.le_refl _) _
  have HOC : Hid (∀ W : World, Below b10.heap.size b10 W → W.cell? ⟨w8.heap.size, 0, none⟩ = some (.slice A1 on C1) ∧ W.cell? ⟨w8.heap.size, 1, none⟩ = some (.slice A2 (on + 1) C2) ∧ W.cell? ⟨w8.heap.size, 2, none⟩ = some (.slice A3 (on + 2) C3) ∧ W.cell? ⟨w8.heap.size, 3, none⟩ = some (.slice A4 (on + 6) C4) ∧ W.cell? ⟨w8.heap.size, 4, none⟩ = some (.int .i64 om)) := hide fun W hW => by
    have hy := (hW.block _ (Nat.lt_of_lt_of_le hlo hB10.size)).trans ((hB10.block _ hlo).trans hbo)
    refine ⟨?_, ?_, ?_, ?_, ?_⟩ <;> (rw [cell_of_row _ _ _ _ _ _ hy]; rfl)
  have HPC : Hid (∀ W : World, Below b10.heap.size b10 W → W.cell? ⟨w10.heap.size, 0, none⟩ = some (.slice P1 pn D1) ∧ W.cell? ⟨w10.heap.size, 1, none⟩ = some (.slice P2 (pn + 1) D2) ∧ W.cell? ⟨w10.heap.size, 2, none⟩ = some (.slice P3 (pn + 2) D3) ∧ W.cell? ⟨w10.heap.size, 3, none⟩ = some (.slice P4 (pn + 6) D4) ∧ W.cell? ⟨w10.heap.size, 4, none⟩ = some (.int .i64 pm)) := hide fun W hW => by
    have hy := box_at hb10 hW
    refine ⟨?_, ?_, ?_, ?_, ?_⟩ <;> (rw [cell_of_row _ _ _ _ _ _ hy]; rfl)
  have HK : Hid (Below w4.heap.size w4 b10) := hide (HK10.out.trans (hB10.mono HK10.out.size))
  have HF10 := hide (HF.out.below hB10)
  have HP10 := hide (HP.out.below hB10)
  have HE10 := hide hb10
  clear hp hg10 hbo hlo hB10 hb10 HF HP HO HG8 HG8B HS HE HO8 HB8 HB9 HB9b HB7 HK10 HB5
  obtain ⟨x0, x1, x2, x3, x4⟩ := HOC.out b10 (Below.refl _ _)
  rw [HE10.out] at x0 x1 x2 x3 x4
  go_wp2_with fail
  rw [← HE10.out]
  clear HE10 x0 x1 x2 x3 x4
  refine (lholds_any b10 _ _ HF10.out).mono ?_
  rintro e w11 ⟨rfl, hb11⟩
  have HB11 := hide hb11
  obtain ⟨x0, x1, x2, x3, x4⟩ := HPC.out w11 hb11
  clear hb11
  go_wp2_with fail
  refine (lholds_any w11 _ _ (HP10.out.below HB11.out)).mono ?_
  rintro e w12 ⟨rfl, hb12⟩
  have HK12 : Hid (Below w4.heap.size w4 w12) := hide (HK.out.trans ((HB11.out.trans (hb12.mono HB11.out.size)).mono HK.out.size))
  clear x0 x1 x2 x3 x4 hb12
  obtain ⟨c0, c1, c2, c3⟩ := HC.out w12 (HK5.out.trans (HK12.out.mono HK5.out.size))
  obtain ⟨d0, d1, d2, d3⟩ := HD.out w12 (HK4.out.trans (HK12.out.mono HK4.out.size))
  have HW12 : Hid (Below w.heap.size w w12) := hide (HW4.out.trans (HK12.out.mono HW4.out.size))
  go_wp2_with fail
  refine (lalike_any w12 _ Ao Ac An Au Co Cc Cn Cu c _ _ _ _ (HA.out.below HW12.out) (HCP4.out.below HK12.out)).mono ?_
  rintro e w13 ⟨rfl, hb13⟩
  have HK13 : Hid (Below w4.heap.size w4 w13) := hide (HK12.out.trans (hb13.mono HK12.out.size))
  have HW13 : Hid (Below w.heap.size w w13) := hide (HW12.out.trans (hb13.mono HW12.out.size))
  clear hb13 c0 c1 c2 c3 d0 d1 d2 d3
  go_wp2_with fail
  refine (lwhole_any w13 _ Ax Cx xs vx (HVX4.out.below HK13.out) (HX.out.below HW13.out).row HX.out.nil HX.out.few).mono ?_
  rintro e w14 ⟨rfl, hb14⟩
  have HK14 : Hid (Below w4.heap.size w4 w14) := hide (HK13.out.trans (hb14.mono HK13.out.size))
  have HW14 : Hid (Below w.heap.size w w14) := hide (HW13.out.trans (hb14.mono HW13.out.size))
  clear hb14
  go_wp2_with fail
  refine (lwhole_any w14 _ Ay Cy ys vy (HVY4.out.below HK14.out) (HY.out.below HW14.out).row HY.out.nil HY.out.few).mono ?_
  rintro e w15 ⟨rfl, hb15⟩
  have HK15 : Hid (Below w4.heap.size w4 w15) := hide (HK14.out.trans (hb15.mono HK14.out.size))
  have HW15 : Hid (Below w.heap.size w w15) := hide (HW14.out.trans (hb15.mono HW14.out.size))
  clear hb15
  go_wp2_with fail
  refine (lwhole_any w15 _ Az Cz zs vz (HVZ4.out.below HK15.out) (HZ.out.below HW15.out).row HZ.out.nil HZ.out.few).mono ?_
  rintro e w16 ⟨rfl, hb16⟩
  have HW16 : Hid (Below w.heap.size w w16) := hide (HW15.out.trans (hb16.mono HW15.out.size))
  clear hb16
  go_wp2
  go_ret
  exact ⟨rfl, HW16.out⟩

end Go.Proofs.Ytmndgoapkmhglaa

/- an argument of four fields, opened. -/
namespace Go.Proofs.Ytmndgoapkmhglaa
open Go.ChangeShapes Go.WideShapes Go.RowKit Go.Deep

section
variable {H : Type} {enc : TypeId × Value → H} {P : Program} {w : World} {base : Nat} {spare : Nat → Bool} {held : Bool}

/-- four fields of one cell each. -/
theorem trod_four {t t0 t1 t2 t3 : TypeId} {fs : Array Field} {fuel : Nat} {cs : List Value} {x : DataW H × List MemPlace} (hu : P.underlying t = some (.struct fs)) (hf : fs.toList.map (fun f => (f.type, f.offset)) = [(t0, 0), (t1, 1), (t2, 2), (t3, 3)]) (hc : P.cellsOf t = 4)
    (c0 : P.cellsOf t0 = 1) (c1 : P.cellsOf t1 = 1) (c2 : P.cellsOf t2 = 1) (c3 : P.cellsOf t3 = 1) (h : DataW.trod enc P w base spare held fuel t cs = some x) :
    ∃ v0 v1 v2 v3 y0 y1 y2 y3 n, cs = [v0, v1, v2, v3] ∧ x.1 = .agg [y0.1, y1.1, y2.1, y3.1] ∧ DataW.trod enc P w base spare held n t0 [v0] = some y0 ∧ DataW.trod enc P w base spare held n t1 [v1] = some y1 ∧ DataW.trod enc P w base spare held n t2 [v2] = some y2 ∧ DataW.trod enc P w base spare held n t3 [v3] = some y3 ∧
      ∀ m, (m ∈ y0.1.weights P t0 ∨ m ∈ y1.1.weights P t1 ∨ m ∈ y2.1.weights P t2 ∨ m ∈ y3.1.weights P t3) → m ∈ x.1.weights P t := by
  obtain ⟨xs, n, _, rfl, hl, hlen, hg⟩ := DataW.trod_struct hu h
  obtain ⟨f0, r0, q0, e0, hf⟩ := List.map_eq_cons_iff.1 hf
  obtain ⟨f1, r1, rfl, e1, hf⟩ := List.map_eq_cons_iff.1 hf
  obtain ⟨f2, r2, rfl, e2, hf⟩ := List.map_eq_cons_iff.1 hf
  obtain ⟨f3, r3, rfl, e3, hf⟩ := List.map_eq_cons_iff.1 hf
  have hr := List.map_eq_nil_iff.1 hf
  subst hr
  simp only [Prod.mk.injEq] at e0 e1 e2 e3
  obtain ⟨rfl, o0⟩ := e0
  obtain ⟨rfl, o1⟩ := e1
  obtain ⟨rfl, o2⟩ := e2
  obtain ⟨rfl, o3⟩ := e3
  have hfs : fs = #[f0, f1, f2, f3] := by cases fs; simp_all
  subst hfs
  rw [hc] at hl
  match xs, hlen, cs, hl with
  | [y0, y1, y2, y3], _, [v0, v1, v2, v3], _ =>
    have g0 := hg 0 f0 rfl
    have g1 := hg 1 f1 rfl
    have g2 := hg 2 f2 rfl
    have g3 := hg 3 f3 rfl
    simp [o0, o1, o2, o3, c0, c1, c2, c3] at g0 g1 g2 g3
    refine ⟨v0, v1, v2, v3, y0, y1, y2, y3, n, rfl, rfl, g0, g1, g2, g3, fun m hm => ?_⟩
    simp only [List.map_cons, List.map_nil, DataW.weights, hu, DataW.weightsEach, List.mem_append, List.not_mem_nil, or_false]
    exact hm
end

end Go.Proofs.Ytmndgoapkmhglaa

/- an argument that is code, opened. -/
namespace Go.Proofs.Ytmndgoapkmhglaa
open Go.ChangeShapes Go.WideShapes Go.RowKit Go.Deep

/-- numbers, opened. -/
theorem open_nums {H : Type} {enc : TypeId × Value → H} {W : World} {fuel : Nat} {v : Value} {x : DataW H × List MemPlace} (h : DataW.trod enc Try.prog W 0 (fun _ => true) true fuel 48 [v] = some x) (hw : ∀ n ∈ x.1.weights Try.prog 48, n ≤ reachBytes) :
    ∃ A C xs, v = .slice A xs.length C ∧ ArgR W A C xs := by
  have hrb : reachBytes = 140737488351232 := rfl
  rcases open_ints Try.underlying48 Try.underlying3 Try.cellsInt h with ⟨hcs, rfl⟩ | ⟨a, len, cap, zs, hcs, _, hl, hm, hz, rfl, hcell, _⟩
  · simp at hcs
    subst hcs
    exact ⟨none, 0, [], rfl, ⟨⟨none, 0, rfl, by simp, fun hp => by simp at hp⟩, fun _ => rfl, by simp⟩⟩
  · simp at hcs
    subst hcs
    simp only [if_true] at hz
    have hsz : cap * 8 ≤ reachBytes := by
      refine hw _ ?_
      simp only [DataW.weights, Try.underlying48, List.mem_cons]
      refine .inl ?_
      rw [Try.bytesInt]
      simp [lits]
      omega
    have hlen : (zs.take len).length = len := by rw [List.length_take]; omega
    refine ⟨some a, cap, zs.take len, by rw [hlen], ⟨⟨some a, cap, by rw [hlen], by rw [hlen]; omega, fun hp => ?_⟩, fun h => (by cases h), by rw [hlen]; omega⟩⟩
    rw [hlen] at hp
    obtain ⟨b, o, sp⟩ := a
    have hs : sp = none := spot_none (hcell 0 (by omega))
    subst hs
    refine ⟨b, o, rfl, ?_, fun c hc => ?_⟩
    · have := World.block_lt_of_cell? _ _ (hcell 0 (by omega))
      simpa [Addr.add] using this
    · rw [hlen] at hc
      rw [← plain_add, hcell c (by omega)]
      simp [List.getElem_take, List.getD_eq_getElem?_getD, List.getElem?_eq_getElem (show c < zs.length by omega)]

theorem Try.uOp : Try.prog.underlying 105 = some (.struct (Try.prog.fieldsOf 105)) := by kernel_rfl
theorem Try.fOp : (Try.prog.fieldsOf 105).toList.map (fun f => (f.type, f.offset)) = [(3, 0), (3, 1), (3, 2), (3, 3)] := by kernel_rfl
theorem Try.cOp : Try.prog.cellsOf 105 = 4 := by kernel_rfl
theorem Try.bOp : Try.prog.bytesOf 105 = 32 := by kernel_rfl
theorem Try.uCode : Try.prog.underlying 60 = some (.struct (Try.prog.fieldsOf 60)) := by kernel_rfl
theorem Try.fCode : (Try.prog.fieldsOf 60).toList.map (fun f => (f.type, f.offset)) = [(58, 0), (48, 1), (48, 2), (48, 3)] := by kernel_rfl
theorem Try.cCode : Try.prog.cellsOf 60 = 4 := by kernel_rfl
theorem Try.cOps : Try.prog.cellsOf 58 = 1 := by kernel_rfl

/-- operations, opened. -/
theorem open_ops {H : Type} {enc : TypeId × Value → H} {W : World} {fuel : Nat} {v : Value} {x : DataW H × List MemPlace} (h : DataW.trod enc Try.prog W 0 (fun _ => true) true fuel 58 [v] = some x) (hw : ∀ n ∈ x.1.weights Try.prog 58, n ≤ reachBytes) :
    ∃ A C ops, v = .slice A ops.length C ∧ OpsAt W (.slice A ops.length C) ops := by
  have hrb : reachBytes = 140737488351232 := rfl
  rcases open_slice Try.underlying58 h with ⟨hcs, rfl⟩ | ⟨a, len, cap, m, n, D, Pl, hcs, _, hl, hm, hmm, rfl, hx⟩
  · simp at hcs
    subst hcs
    exact ⟨none, 0, [], rfl, none, 0, rfl, by simp, fun hp => by simp at hp⟩
  · simp at hcs
    subst hcs
    simp only [if_true] at hmm
    subst hmm
    have hsz : m * 32 ≤ reachBytes := by
      refine hw _ ?_
      simp only [DataW.weights, Try.underlying58, List.mem_cons]
      refine .inl ?_
      rw [Try.bOp]
      simp
      omega
    obtain ⟨Z, hZ⟩ := choose_lt (α := Int × Int × Int × Int) (n := m) (p := fun i z => W.cell? (a.add (i * 4)) = some (.int .i64 z.1) ∧ W.cell? ((a.add (i * 4)).add 1) = some (.int .i64 z.2.1) ∧ W.cell? ((a.add (i * 4)).add 2) = some (.int .i64 z.2.2.1) ∧ W.cell? ((a.add (i * 4)).add 3) = some (.int .i64 z.2.2.2)) (fun i hi => by
      obtain ⟨cs', h1, h2⟩ := hx i hi
      rw [Try.cOp] at h1
      obtain ⟨_, _, hcl⟩ := World.cells?_some h1
      obtain ⟨v0, v1, v2, v3, y0, y1, y2, y3, k, rfl, _, g0, g1, g2, g3, _⟩ := trod_four Try.uOp Try.fOp Try.cOp Try.cellsInt Try.cellsInt Try.cellsInt Try.cellsInt h2
      obtain ⟨z0, e0, _⟩ := DataW.trod_int Try.underlying3 g0
      obtain ⟨z1, e1, _⟩ := DataW.trod_int Try.underlying3 g1
      obtain ⟨z2, e2, _⟩ := DataW.trod_int Try.underlying3 g2
      obtain ⟨z3, e3, _⟩ := DataW.trod_int Try.underlying3 g3
      simp only [List.cons.injEq, and_true] at e0 e1 e2 e3
      subst e0 e1 e2 e3
      have k0 := hcl 0 (by omega)
      rw [add_add, Nat.add_zero] at k0
      exact ⟨(z0, z1, z2, z3), k0, hcl 1 (by omega), hcl 2 (by omega), hcl 3 (by omega)⟩)
    have hln : ((List.range len).map fun i => (⟨(Z i).1, (Z i).2.1, (Z i).2.2.1, (Z i).2.2.2⟩ : OpF)).length = len := by simp
    refine ⟨some a, m, (List.range len).map fun i => ⟨(Z i).1, (Z i).2.1, (Z i).2.2.1, (Z i).2.2.2⟩, by rw [hln], some a, m, by rw [hln], by rw [hln]; omega, fun hp => ?_⟩
    rw [hln] at hp
    obtain ⟨b, o, sp⟩ := a
    have hs : sp = none := spot_none (by simpa using (hZ 0 (by omega)).1)
    subst hs
    refine ⟨b, o, rfl, ?_, fun i hi => ?_⟩
    · have := World.block_lt_of_cell? _ _ (hZ 0 (by omega)).1
      simpa [Addr.add] using this
    · rw [hln] at hi
      obtain ⟨k0, k1, k2, k3⟩ := hZ i (by omega)
      rw [plain_add] at k0 k1 k2 k3
      rw [plain_add] at k1 k2 k3
      simp only [List.getElem_map, List.getElem_range]
      exact ⟨k0, k1, k2, k3⟩

/-- code, opened. -/
theorem open_code {H : Type} {enc : TypeId × Value → H} {W : World} {cs : Array Value} {d : DataW H} {ps : List MemPlace} (h : DataW.Trod enc Try.prog W 0 (fun _ => true) true 60 (.agg cs) d ps) (hw : ∀ n ∈ d.weights Try.prog 60, n ≤ reachBytes) :
    ∃ Ao Ac An Au Co Cc Cn Cu c, cs = #[.slice Ao (CdF.ops c).length Co, .slice Ac c.cells.length Cc, .slice An c.next.length Cn, .slice Au c.out.length Cu] ∧ ArgC W Ao Ac An Au Co Cc Cn Cu c := by
  obtain ⟨fuel, hf⟩ := h
  obtain ⟨v0, v1, v2, v3, y0, y1, y2, y3, k, hcs, _, g0, g1, g2, g3, hwt⟩ := trod_four Try.uCode Try.fCode Try.cCode Try.cOps Try.cellsInts Try.cellsInts Try.cellsInts hf
  obtain ⟨Ao, Co, ops, rfl, h0⟩ := open_ops g0 (fun n hn => hw n (hwt n (.inl hn)))
  obtain ⟨Ac, Cc, cl, rfl, h1⟩ := open_nums g1 (fun n hn => hw n (hwt n (.inr (.inl hn))))
  obtain ⟨An, Cn, nx, rfl, h2⟩ := open_nums g2 (fun n hn => hw n (hwt n (.inr (.inr (.inl hn)))))
  obtain ⟨Au, Cu, ou, rfl, h3⟩ := open_nums g3 (fun n hn => hw n (hwt n (.inr (.inr (.inr hn)))))
  refine ⟨Ao, Ac, An, Au, Co, Cc, Cn, Cu, ⟨ops, cl, nx, ou⟩, ?_, ⟨h0, ⟨h1.row, h1.nil, h1.few⟩, ⟨h2.row, h2.nil, h2.few⟩, ⟨h3.row, h3.nil, h3.few⟩⟩⟩
  have : (Value.agg cs).cells = cs := rfl
  rw [this] at hcs
  cases cs
  simp_all

end Go.Proofs.Ytmndgoapkmhglaa
