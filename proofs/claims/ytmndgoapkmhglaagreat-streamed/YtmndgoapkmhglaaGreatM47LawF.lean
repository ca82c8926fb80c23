import Derived.Test.YtmndgoapkmhglaaGreatM46LawDw
/- the statements' own helpers: lists, still, walked. -/
namespace Go.Proofs.YtmndgoapkmhglaaGreat
open Go.RowKit
attribute [local go_sem ↓] Go.wp_at_zero Go.wp_at_succ

set_option maxHeartbeats 4000000 in
set_option maxRecDepth 100000 in
theorem llists_any (w : World) (A : Option Addr) (C : Nat) (ins : List (List Int)) (AS : Nat → Option Addr) (CS : Nat → Nat) (h : ArgL w A C ins AS CS) :
    Calls Tryz.prog 5 #[.slice A ins.length C] w fun e w' => ∃ vo vi, e = .returned (.agg #[vo, vi]) ∧ GivenV w' w.heap.size A ins AS vo vi ∧ Below w.heap.size w w' := by
  have hnil := eql_nil (P := Tryz.prog) 22 34 Tryz.underlying22
  have hfew := h.few
  cases A with
  | none =>
    have hx := h.nil rfl
    subst hx
    clear h
    go_enter Tryz.func5, Tryz.ntmps5
    go_wp2
    refine bodyPost_ret (v := .agg #[.slice none 0 0, .slice none 0 0]) (by simp [results, Tryz.results5, go_sem]) rfl ?_
    exact ⟨_, _, rfl, .inl ⟨rfl, rfl, rfl⟩, (Below.refl _ _).alloc (Nat.le_refl _) _⟩
  | some a =>
    have hm1 := run_make_row' (P := Tryz.prog) 22 34 (.slice none 0 0) 24 Tryz.underlying22 Tryz.infoIntsE rfl .i64 .i64 (ins.length + 1) (by omega) (by omega)
    simp only [show ((ins.length + 1 : Nat) : Int) = (ins.length : Int) + 1 from by omega] at hm1
    have hm2 := run_make_row' (P := Tryz.prog) 22 34 (.slice none 0 0) 24 Tryz.underlying22 Tryz.infoIntsE rfl .i64 .i64 ins.length (by omega) (by omega)
    have HA := hide h
    clear h
    go_enter Tryz.func5, Tryz.ntmps5
    go_wp2
    go_loopw [6] (fun vi wr => ∃ (k : Nat) (V : Nat → Value), k ≤ ins.length ∧ vi = .int .i64 k ∧ Laying w wr ins AS k V) (fun vi _ => ins.length - (intOf vi).toNat)
    case atStart =>
      refine ⟨0, fun _ => .slice none 0 0, Nat.zero_le _, rfl, ⟨?_, ?_, ?_, ?_, ?_, fun r hr hk => by omega⟩⟩
      · exact (((Below.refl _ _).alloc (Nat.le_refl _) _).alloc (by simp) _).alloc (by simp; omega) _
      · simp
      · rw [Below.heap_alloc _ _ _ (by simp; omega), Below.heap_alloc _ _ _ (by simp)]; exact heap_alloc_new w _
      · have := (World.rowIs_made (w.alloc (.cells #[.slice none 0 0, .slice none 0 0] 25)) (.slice none 0 0) (ins.length + 1) 34).alloc (.cells (madeCells #[.slice none 0 0] ins.length) 34)
        simp only [World.size_alloc] at this
        exact this.congr (fun j _ => by simp)
      · have := World.rowIs_made ((w.alloc (.cells #[.slice none 0 0, .slice none 0 0] 25)).alloc (.cells (madeCells #[.slice none 0 0] (ins.length + 1)) 34)) (.slice none 0 0) ins.length 34
        simp only [World.size_alloc] at this
        exact this.congr (fun j _ => by simp)
    case round =>
      clear hm1 hm2
      obtain ⟨k, V, hk, rfl, hL⟩ := hrel
      have HL := hide hL
      have hs := hL.size
      by_cases hkl : k < ins.length
      · obtain ⟨b, o, hab, hbl, hcell⟩ := HA.out.out (by omega)
        cases hab
        obtain ⟨hrow, hno, hlen⟩ := HA.out.row k hkl
        have x1 := (hL.bel.cell (p := ⟨b, o + k, none⟩) hbl).trans (hcell k hkl)
        have HCALL := hide (lroomy_any wr (AS k) (CS k) ins[k] (hrow.below hL.bel) hno hlen)
        have j3 : (0 : Int) ≤ (k : Int) := by omega
        have j4 : (k : Int) < (ins.length : Int) := by omega
        have HNX := hide (fun w1 hb v hv => hL.next (w1 := w1) hkl hb v hv)
        have HOC : Hid (∀ w1, Below wr.heap.size wr w1 → w1.cell? ⟨w.heap.size + 1, k, none⟩ = some (.slice none 0 0) ∧ w1.frozen? ⟨w.heap.size + 1, k, none⟩ = false ∧ ∀ v, (w1.setCell ⟨w.heap.size + 1, k, none⟩ v).cell? ⟨w.heap.size + 2, k, none⟩ = some (.slice none 0 0) ∧ (w1.setCell ⟨w.heap.size + 1, k, none⟩ v).frozen? ⟨w.heap.size + 2, k, none⟩ = false) := hide (fun w1 hb => by
          have h1 : w1.rowIs (w.heap.size + 1) 34 (ins.length + 1) (fun j => if j < k then V j else .slice none 0 0) := HL.out.out.of_block (hb.block _ (by omega))
          have h2 : w1.rowIs (w.heap.size + 2) 34 ins.length (fun j => if j < k then V j else .slice none 0 0) := HL.out.inn.of_block (hb.block _ (by omega))
          have e1 := h1.cell (i := k) (by omega)
          simp only [Nat.lt_irrefl, if_false] at e1
          refine ⟨e1, h1.frozen k, fun v => ?_⟩
          have h3 := h2.setOther (a := ⟨w.heap.size + 1, k, none⟩) (by show w.heap.size + 2 ≠ w.heap.size + 1; omega) v
          have e2 := h3.cell (i := k) hkl
          simp only [Nat.lt_irrefl, if_false] at e2
          exact ⟨e2, h3.frozen k⟩)
        generalize ins[k].length = lk at x1 HCALL
        clear hrow hno hlen hcell hL
        go_wp2_with fail
        refine HCALL.out.mono ?_
        rintro e w1 ⟨v, rfl, hv, hb1⟩
        obtain ⟨y1, y2, y3⟩ := HOC.out w1 hb1
        obtain ⟨y4, y5⟩ := y3 v
        have HN := hide (HNX.out w1 hb1 v hv)
        have hvs : ∃ Av nv cv, v = .slice Av nv cv := by
          rcases hv with ⟨_, rfl⟩ | ⟨_, G, _, rfl, _⟩
          · exact ⟨_, _, _, rfl⟩
          · exact ⟨_, _, _, rfl⟩
        obtain ⟨Av, nv, cv, rfl⟩ := hvs
        have j5 : (k : Int) < (ins.length : Int) + 1 := by omega
        clear hv hb1 y3 HCALL HNX HOC
        go_wp2
        go_roundw
        case rel => exact ⟨k + 1, _, by omega, by go_num, HN.out⟩
        case measure => simp [intOf]; omega
      · have ek : k = ins.length := by omega
        subst ek
        have z1 : ¬ (ins.length : Int) < (ins.length : Int) := by omega
        have hc : (wr.alloc (.cells #[.int .i64 (-77)] 3)).cell? ⟨w.heap.size + 1, ins.length, none⟩ = some (.slice none 0 0) := by
          have := (hL.out.alloc (.cells #[.int .i64 (-77)] 3)).cell (i := ins.length) (by omega)
          simp only [Nat.lt_irrefl, if_false] at this
          exact this
        have hf : (wr.alloc (.cells #[.int .i64 (-77)] 3)).frozen? ⟨w.heap.size + 1, ins.length, none⟩ = false := (hL.out.alloc _).frozen _
        have HD := hide (fun u0 u1 => hL.done u0 u1)
        have HB : Hid (Below w.heap.size w (wr.alloc (.cells #[.int .i64 (-77)] 3))) := hide (hL.bel.alloc (by omega) _)
        have hbx : ∀ u, ((wr.alloc (.cells #[.int .i64 (-77)] 3)).setCell ⟨w.heap.size + 1, ins.length, none⟩ u).heap[w.heap.size]? = some (.cells #[.slice none 0 0, .slice none 0 0] 25) := fun u => by
          rw [heap_setCell_other _ ⟨w.heap.size + 1, ins.length, none⟩ w.heap.size _ (by show w.heap.size ≠ w.heap.size + 1; omega), Below.heap_alloc _ _ _ (by omega)]; exact hL.box
        have g0 := fun u => cell_of_row _ w.heap.size 0 _ _ _ (hbx u)
        have g1 := fun u => cell_of_row _ w.heap.size 1 _ _ _ (hbx u)
        have g2 := fun u => frozen_of_row _ w.heap.size 0 _ _ (hbx u)
        have g3 := fun u => frozen_of_row _ w.heap.size 1 _ _ (hbx u)
        have j5 : (ins.length : Int) < (ins.length : Int) + 1 := by omega
        have j6 : (0 : Int) ≤ (ins.length : Int) := by omega
        clear hbx hL HL
        go_wp2
        refine bodyPost_ret (v := .agg #[.slice (some ⟨w.heap.size + 1, 0, none⟩) ins.length (ins.length + 1), .slice (some ⟨w.heap.size + 2, 0, none⟩) ins.length ins.length]) (by simp [results, Tryz.results5, go_sem, g0, g1]) rfl ?_
        exact ⟨_, _, rfl, .inr ⟨by simp, _, _, _, V, rfl, rfl, HD.out _ _⟩, ((HB.out.setCell (by show w.heap.size ≤ w.heap.size + 1; omega) _).setCell (Nat.le_refl _) _).setCell (Nat.le_refl _) _⟩

set_option maxHeartbeats 4000000 in
set_option maxRecDepth 100000 in
theorem lstill_any (w : World) (B : Nat) (A : Option Addr) (C : Nat) (ins : List (List Int)) (AS : Nat → Option Addr) (CS : Nat → Nat) (vo vi : Value) (h : ArgL w A C ins AS CS) (hv : GivenV w B A ins AS vo vi) :
    Calls Tryz.prog 12 #[.agg #[vo, vi], .slice A ins.length C] w fun e w' => e = .returned (.bool true) ∧ Below w.heap.size w w' := by
  have hnil := eql_nil (P := Tryz.prog) 22 34 Tryz.underlying22
  have hfew := h.few
  rcases hv with ⟨rfl, rfl, rfl⟩ | ⟨hA, go, gi, gm, V, rfl, rfl, hG⟩
  · have hx := h.nil rfl
    subst hx
    clear h
    go_enter Tryz.func12, Tryz.ntmps12
    go_wp2
    go_ret
    exact ⟨rfl, (Below.refl _ _).alloc (Nat.le_refl _) _⟩
  · have HA := hide h
    have HG := hide hG
    obtain ⟨bx, hbx⟩ : ∃ bx, bx = w.alloc (.cells #[.slice (some ⟨go, 0, none⟩) ins.length (ins.length + 1), .slice (some ⟨gi, 0, none⟩) ins.length ins.length] 25) := ⟨_, rfl⟩
    have HB0 : Hid (Below w.heap.size w bx) := hide (by rw [hbx]; exact (Below.refl _ _).alloc (Nat.le_refl _) _)
    have HSZ : Hid (w.heap.size < bx.heap.size) := hide (by rw [hbx]; simp)
    have HC : Hid (∀ W, Below bx.heap.size bx W → W.cell? ⟨w.heap.size, 0, none⟩ = some (.slice (some ⟨go, 0, none⟩) ins.length (ins.length + 1)) ∧ W.cell? ⟨w.heap.size, 1, none⟩ = some (.slice (some ⟨gi, 0, none⟩) ins.length ins.length)) := hide (fun W hW => by
      have hN : W.heap[w.heap.size]? = some (.cells #[.slice (some ⟨go, 0, none⟩) ins.length (ins.length + 1), .slice (some ⟨gi, 0, none⟩) ins.length ins.length] 25) := (hW.block w.heap.size HSZ.out).trans (by rw [hbx]; exact heap_alloc_new w _)
      exact ⟨by rw [cell_of_row W _ 0 _ _ _ hN]; rfl, by rw [cell_of_row W _ 1 _ _ _ hN]; rfl⟩)
    have hAs : ∃ a, A = some a := by cases A with | none => exact absurd rfl hA | some a => exact ⟨a, rfl⟩
    obtain ⟨a, rfl⟩ := hAs
    clear h hG hA
    go_enter Tryz.func12, Tryz.ntmps12
    go_wp2
    rw [← hbx]
    go_loopw [6] (fun vk wr => ∃ k : Nat, k ≤ ins.length ∧ vk = .int .i64 k ∧ Below bx.heap.size bx wr) (fun vk _ => ins.length - (intOf vk).toNat)
    case atStart => exact ⟨0, Nat.zero_le _, rfl, Below.refl _ _⟩
    case round =>
      obtain ⟨k, hk, rfl, hbr⟩ := hrel
      obtain ⟨c0, c1⟩ := HC.out wr hbr
      have HBW := hide (HB0.out.trans (hbr.mono HB0.out.size))
      have hG := HG.out.below HBW.out
      have hA := HA.out.below HBW.out
      have HBR := hide hbr
      by_cases hkl : k < ins.length
      · obtain ⟨b, o, hab, hbl, hcell⟩ := hA.out (by omega)
        cases hab
        obtain ⟨hrow, hno, hlen⟩ := hA.row k hkl
        have x1 := hcell k hkl
        have x2 : wr.cell? ⟨go, k, none⟩ = some (V k) := by rw [cell_of_row wr go _ _ _ _ hG.out]; simp [List.getElem?_append, hkl]
        have HX : Hid (∀ W, Below bx.heap.size bx W → W.cell? ⟨gi, k, none⟩ = some (V k) ∧ W.cell? ⟨b, o + k, none⟩ = some (.slice (AS k) ins[k].length (CS k))) := hide (fun W hW => by
          have hW' := HB0.out.trans (hW.mono HB0.out.size)
          have hG' := HG.out.below hW'
          obtain ⟨b', o', hab', _, hcell'⟩ := (HA.out.below hW').out (by omega)
          cases hab'
          exact ⟨by rw [cell_of_row W gi _ _ _ _ hG'.inn]; simp [hkl], hcell' k hkl⟩)
        have H1 : Hid (∀ W, Below bx.heap.size bx W → Calls Tryz.prog 9 #[V k, .slice (AS k) ins[k].length (CS k)] W fun e w' => e = .returned (.bool true) ∧ Below W.heap.size W w') := hide (fun W hW => by
          have hW' := HB0.out.trans (hW.mono HB0.out.size)
          have := lsame_any W (V k) (.slice (AS k) ins[k].length (CS k)) ins[k] ins[k] (((HG.out.below hW').rows k hkl).row hno (by omega)) ((HA.out.below hW').row k hkl).1
          rwa [show (ins[k] == ins[k]) = true by simp] at this)
        have H2 : Hid (∀ W, Below bx.heap.size bx W → Calls Tryz.prog 26 #[V k, .slice (AS k) ins[k].length (CS k)] W fun e w' => e = .returned (.bool true) ∧ Below W.heap.size W w') := hide (fun W hW => by
          have hW' := HB0.out.trans (hW.mono HB0.out.size)
          exact lwhole_any W B (AS k) (CS k) ins[k] (V k) ((HG.out.below hW').rows k hkl) ((HA.out.below hW').row k hkl).1 hno hlen)
        have j3 : (0 : Int) ≤ (k : Int) := by omega
        have j4 : (k : Int) < (ins.length : Int) := by omega
        generalize ins[k].length = lk at x1 H1 H2 HX
        generalize hVk : V k = vk at x2 HX H1 H2
        clear hrow hno hlen hcell hG hA hVk
        have g1 : w.heap.size < wr.heap.size := Nat.lt_of_lt_of_le HSZ.out hbr.size
        have g2 : go < wr.heap.size := World.block_lt_of_cell? _ _ x2
        have g3 : b < wr.heap.size := World.block_lt_of_cell? _ _ x1
        go_wp2_with fail
        go_region_held3 (fun w' => w'.cell? ⟨w.heap.size, 0, none⟩ = some (.slice (some ⟨go, 0, none⟩) ins.length (ins.length + 1)) ∧ w'.cell? ⟨go, k, none⟩ = some vk ∧ w'.cell? ⟨b, o + k, none⟩ = some (.slice (AS k) lk (CS k))) (go_keep)
          ((go_at_call 9; refine (H1.out _ HBR.out.drew).mono ?_; rintro e w1 ⟨rfl, hb1⟩; have t1 := (hb1.cell (p := ⟨w.heap.size, 0, none⟩) g1).trans c0; have t2 := (hb1.cell (p := ⟨go, k, none⟩) g2).trans x2; have t3 := (hb1.cell (p := ⟨b, o + k, none⟩) g3).trans x1))
        rename_i hHeld
        clear hHeld t1 t2 t3
        have HBR1 : Hid (Below bx.heap.size bx w1) := hide (HBR.out.drew.trans (hb1.mono HBR.out.size))
        clear c0 c1 x1 x2 hb1 hbr HBW g1 g2 g3
        obtain ⟨c0, c1⟩ := HC.out w1 HBR1.out
        obtain ⟨x2, x1⟩ := HX.out w1 HBR1.out
        have g1 : w.heap.size < w1.heap.size := Nat.lt_of_lt_of_le HSZ.out HBR1.out.size
        have g2 : gi < w1.heap.size := World.block_lt_of_cell? _ _ x2
        have g3 : b < w1.heap.size := World.block_lt_of_cell? _ _ x1
        go_wp2_with fail
        go_region_held3 (fun w' => w'.cell? ⟨w.heap.size, 1, none⟩ = some (.slice (some ⟨gi, 0, none⟩) ins.length ins.length) ∧ w'.cell? ⟨gi, k, none⟩ = some vk ∧ w'.cell? ⟨b, o + k, none⟩ = some (.slice (AS k) lk (CS k))) (go_keep)
          ((go_at_call 26; refine (H2.out _ HBR1.out.drew).mono ?_; rintro e w2 ⟨rfl, hb2⟩; have t1 := (hb2.cell (p := ⟨w.heap.size, 1, none⟩) g1).trans c1; have t2 := (hb2.cell (p := ⟨gi, k, none⟩) g2).trans x2; have t3 := (hb2.cell (p := ⟨b, o + k, none⟩) g3).trans x1))
        rename_i hHeld
        clear hHeld t1 t2 t3
        have HBR2 : Hid (Below bx.heap.size bx w2) := hide (HBR1.out.drew.trans (hb2.mono HBR1.out.size))
        clear c0 c1 x1 x2 hb2 g1 g2 g3
        go_wp2
        go_roundw
        case rel => exact ⟨k + 1, by omega, by go_num, by first | exact HBR2.out | exact below_drewN HBR2.out _⟩
        case measure => simp [intOf]; omega
      · have ek : k = ins.length := by omega
        subst ek
        have z1 : ¬ (ins.length : Int) < (ins.length : Int) := by omega
        have x2 : wr.cell? ⟨go, ins.length, none⟩ = some (.slice (some ⟨gm, 0, none⟩) 1 1) := by rw [cell_of_row wr go _ _ _ _ hG.out]; simp
        have x3 : wr.cell? ⟨gm, 0, none⟩ = some (.int .i64 (-77)) := by rw [cell_of_row wr gm _ _ _ _ hG.mark]; rfl
        have j5 : (ins.length : Int) < (ins.length : Int) + 1 := by omega
        have j6 : (0 : Int) ≤ (ins.length : Int) := by omega
        clear hG hA hbr
        go_wp2
        go_ret
        exact ⟨rfl, by first | exact HBW.out | exact below_drewN HBW.out _⟩

end Go.Proofs.YtmndgoapkmhglaaGreat
