import Derived.Deep.RegionHeld3
import Derived.Test.YtecegaflhdgfaaaM32ExB
import Derived.Test.YtecegaflhdgfaaaM41ExR
/- the program's machine: value. -/
namespace Go.Proofs.Ytecegaflhdgfaaa
open Go.RowKit
attribute [local go_sem ↓] Go.wp_at_zero Go.wp_at_succ

/-- a register in a row. -/
theorem row_two {w : World} {b o : Nat} {l : List Int} (hb : b < w.heap.size) (hr : ∀ k (h : k < l.length), w.cell? ⟨b, o + k, none⟩ = some (.int .i64 l[k])) {x : Int} (hx : regOk l.length x = true) :
    ∃ k : Nat, x = (k : Int) ∧ (0 : Int) ≤ (k : Int) ∧ (k : Int) < (l.length : Int) ∧ ∀ o1 o2, ((w.alloc o1).alloc o2).cell? ⟨b, o + k, none⟩ = some (.int .i64 (atF l x)) := by
  unfold regOk at hx
  simp only [Bool.and_eq_true, decide_eq_true_eq] at hx
  obtain ⟨k, rfl⟩ : ∃ k : Nat, x = (k : Int) := ⟨x.toNat, by omega⟩
  refine ⟨k, rfl, by omega, by omega, fun o1 o2 => ?_⟩
  have h1 : Below w.heap.size w ((w.alloc o1).alloc o2) := ((Below.refl _ _).alloc (Nat.le_refl _) o1).alloc (by simp) o2
  rw [h1.cell (p := ⟨b, o + k, none⟩) hb, hr k (by omega)]
  unfold atF
  rw [if_neg (by omega), Int.toNat_natCast, List.getD_eq_getElem?_getD, List.getElem?_eq_getElem (by omega)]
  rfl

theorem lays_pair {k : Nat} (h5 : 5 ≤ k) (h12 : k ≤ 12) (a b c n : Int) (regs cells ins links : List Int) : laysF ⟨(k : Int), a, b, c⟩ n regs cells ins links = pairF k (atF regs a) (atF regs b) := by
  have : k = 5 ∨ k = 6 ∨ k = 7 ∨ k = 8 ∨ k = 9 ∨ k = 10 ∨ k = 11 ∨ k = 12 := by omega
  rcases this with rfl | rfl | rfl | rfl | rfl | rfl | rfl | rfl
  · rfl
  · rfl
  · rfl
  · exact pair_ap (o := [47]) (by decide) (fun h => by simp at h)
  · rfl
  · rfl
  · rfl
  · rfl

set_option maxHeartbeats 2000000 in
set_option maxRecDepth 100000 in
theorem mvalue_any (w : World) (o : OpF) (n : Int) (vr vc vi vl : Value) (regs cells ins links : List Int) (hk : opOk cells.length regs.length o = true) (hr : RowAt w vr regs) (hc : RowAt w vc cells) (hi : RowAt w vi ins) (hl : RowAt w vl links) :
    Calls Try.prog 76 #[.agg #[.int .i64 o.k, .int .i64 o.a, .int .i64 o.b, .int .i64 o.c], .agg #[.int .i64 n, vc, vi, vl], vr] w fun e w' => e = .returned (.int .i64 (laysF o n regs cells ins links)) ∧ Below w.heap.size w w' := by
  obtain ⟨k, a, b, c⟩ := o
  obtain ⟨p0, p14, pr⟩ := opOk_parts hk
  simp only at p0 p14 pr
  have HAL : Hid (∀ o1 o2, Below w.heap.size w ((w.alloc o1).alloc o2)) := hide (fun o1 o2 => ((Below.refl _ _).alloc (Nat.le_refl _) o1).alloc (by simp) o2)
  have HI := hide (fun o1 o2 z => melement_any ((w.alloc o1).alloc o2) vi ins (hi.below (HAL.out o1 o2)) z)
  have HL := hide (fun o1 o2 z => melement_any ((w.alloc o1).alloc o2) vl links (hl.below (HAL.out o1 o2)) z)
  have HN := hide (fun W x => rknot_any W x)
  have HCH := hide (fun W x y z => choose_any W x y z)
  obtain ⟨Ar, Cr, rfl, hmr, hcr⟩ := hr
  obtain ⟨Ac, Cc, rfl, hmc, hcc⟩ := hc
  obtain ⟨Ai, Ci, rfl, _, _⟩ := hi
  obtain ⟨Al, Cl, rfl, _, _⟩ := hl
  by_cases h0 : k = 0
  · subst h0
    have HF : Hid (laysF ⟨0, a, b, c⟩ n regs cells ins links = a) := hide rfl
    clear hk pr hcr hcc
    go_enter Try.func76, Try.ntmps76
    go_wp2
    go_ret
    exact ⟨by rw [HF.out]; rfl, HAL.out _ _⟩
  by_cases h1 : k = 1
  · subst h1
    have HF : Hid (laysF ⟨1, a, b, c⟩ n regs cells ins links = atF ins a) := hide rfl
    clear hk pr hcr hcc
    go_enter Try.func76, Try.ntmps76
    go_wp2_with fail
    refine (HI.out _ _ a).mono ?_
    rintro e w1 ⟨rfl, rfl⟩
    go_wp2
    go_ret
    exact ⟨by rw [HF.out]; rfl, HAL.out _ _⟩
  by_cases h2 : k = 2
  · subst h2
    have HF : Hid (laysF ⟨2, a, b, c⟩ n regs cells ins links = atF links a) := hide rfl
    clear hk pr hcr hcc
    go_enter Try.func76, Try.ntmps76
    go_wp2_with fail
    refine (HL.out _ _ a).mono ?_
    rintro e w1 ⟨rfl, rfl⟩
    go_wp2
    go_ret
    exact ⟨by rw [HF.out]; rfl, HAL.out _ _⟩
  by_cases h3 : k = 3
  · subst h3
    have HF : Hid (laysF ⟨3, a, b, c⟩ n regs cells ins links = atF cells a) := hide rfl
    have hca : regOk cells.length a = true := by
      unfold opOk at hk
      simp only [Bool.and_eq_true] at hk
      simpa using hk.1.2
    have hpos : 0 < cells.length := by unfold regOk at hca; simp only [Bool.and_eq_true, decide_eq_true_eq] at hca; omega
    obtain ⟨bc, oc, rfl, hbc, hrc⟩ := hcc hpos
    obtain ⟨ka, rfl, i1, i2, x1⟩ := row_two hbc hrc hca
    generalize atF cells (ka : Int) = z at HF x1
    clear hk pr hcr hcc hrc hca
    go_enter Try.func76, Try.ntmps76
    go_wp2
    go_ret
    exact ⟨by rw [HF.out]; rfl, HAL.out _ _⟩
  by_cases h4 : k = 4
  · subst h4
    have HF : Hid (laysF ⟨4, a, b, c⟩ n regs cells ins links = b2i (decide (n = 0))) := hide rfl
    clear hk pr hcr hcc
    go_enter Try.func76, Try.ntmps76
    go_wp2_with fail
    refine (HN.out _ n).mono ?_
    rintro e w1 ⟨rfl, rfl⟩
    go_wp2
    go_ret
    exact ⟨by rw [HF.out]; rfl, HAL.out _ _⟩
  have ha : regOk regs.length a = true := pr a (by
    unfold readsF opArgs
    rw [if_neg (by omega)]
    split
    · simp
    · split <;> simp)
  have hpos : 0 < regs.length := by unfold regOk at ha; simp only [Bool.and_eq_true, decide_eq_true_eq] at ha; omega
  obtain ⟨br, or, rfl, hbr, hrr⟩ := hcr hpos
  by_cases h13 : k = 13
  · subst h13
    have HF : Hid (laysF ⟨13, a, b, c⟩ n regs cells ins links = b2i (decide (atF regs a = 0))) := hide rfl
    obtain ⟨ka, rfl, i1, i2, x1⟩ := row_two hbr hrr ha
    generalize atF regs (ka : Int) = z at HF x1
    clear hk pr hcr hcc hrr ha
    go_enter Try.func76, Try.ntmps76
    go_wp2_with fail
    refine (HN.out _ z).mono ?_
    rintro e w1 ⟨rfl, rfl⟩
    go_wp2
    go_ret
    exact ⟨by rw [HF.out]; rfl, HAL.out _ _⟩
  have hb : regOk regs.length b = true := pr b (by
    unfold readsF opArgs
    rw [if_neg (by omega), if_neg h13]
    split <;> simp)
  by_cases h14 : k = 14
  · subst h14
    have hc : regOk regs.length c = true := pr c (by simp [readsF, opArgs])
    have HF : Hid (laysF ⟨14, a, b, c⟩ n regs cells ins links = choF (atF regs a) (atF regs b) (atF regs c)) := hide (by
      show (if atF regs a = 0 then atF regs c else atF regs b) = _
      unfold choF
      by_cases h : atF regs a = 0
      · rw [if_pos h, if_neg (by simpa using h)]
      · rw [if_neg h, if_pos h])
    obtain ⟨ka, rfl, i1, i2, x1⟩ := row_two hbr hrr ha
    obtain ⟨kb, rfl, i3, i4, x2⟩ := row_two hbr hrr hb
    obtain ⟨kc, rfl, i5, i6, x3⟩ := row_two hbr hrr hc
    generalize atF regs (ka : Int) = za at HF x1
    generalize atF regs (kb : Int) = zb at HF x2
    generalize atF regs (kc : Int) = zc at HF x3
    clear hk pr hcr hcc hrr ha hb hc
    go_enter Try.func76, Try.ntmps76
    go_wp2_with fail
    go_region_held3 (fun w' => w'.cell? ⟨w.heap.size, 1, none⟩ = some (.int .i64 (ka : Int)) ∧ w'.cell? ⟨w.heap.size, 2, none⟩ = some (.int .i64 (kb : Int)) ∧ w'.cell? ⟨w.heap.size, 3, none⟩ = some (.int .i64 (kc : Int)) ∧ w'.cell? ⟨br, or + ka, none⟩ = some (.int .i64 za) ∧ w'.cell? ⟨br, or + kb, none⟩ = some (.int .i64 zb) ∧ w'.cell? ⟨br, or + kc, none⟩ = some (.int .i64 zc)) (go_keep) ((go_at_call 110; refine (HCH.out _ za zb zc).mono ?_; rintro e w3 ⟨rfl, hw3⟩; subst hw3))
    rename_i hHeld
    clear hHeld
    go_wp2
    go_ret
    exact ⟨by rw [HF.out]; rfl, by first | exact below_drewN (HAL.out _ _) _ | exact (HAL.out _ _).drew⟩
  obtain ⟨m, rfl⟩ : ∃ m : Nat, k = (m : Int) := ⟨k.toNat, by omega⟩
  have HF : Hid (laysF ⟨(m : Int), a, b, c⟩ n regs cells ins links = pairF m (atF regs a) (atF regs b)) := hide (lays_pair (by omega) (by omega) a b c n regs cells ins links)
  have HP := hide (fun W x y => pair_any m W x y)
  have no : ∀ z : Int, (m : Int) ≠ z → ((m : Int) == z) = false := fun z h => by rw [beq_eq_false_iff_ne]; exact h
  have q0 := no 0 h0
  have q1 := no 1 h1
  have q2 := no 2 h2
  have q3 := no 3 h3
  have q4 := no 4 h4
  have q13 := no 13 h13
  have q14 := no 14 h14
  obtain ⟨ka, rfl, i1, i2, x1⟩ := row_two hbr hrr ha
  obtain ⟨kb, rfl, i3, i4, x2⟩ := row_two hbr hrr hb
  generalize atF regs (ka : Int) = za at HF x1
  generalize atF regs (kb : Int) = zb at HF x2
  clear hk pr hcr hcc hrr ha hb no h0 h1 h2 h3 h4 h13 h14
  go_enter Try.func76, Try.ntmps76
  go_wp2_with fail
  go_region_held3 (fun w' => w'.cell? ⟨w.heap.size, 0, none⟩ = some (.int .i64 (m : Int)) ∧ w'.cell? ⟨w.heap.size, 1, none⟩ = some (.int .i64 (ka : Int)) ∧ w'.cell? ⟨w.heap.size, 2, none⟩ = some (.int .i64 (kb : Int)) ∧ w'.cell? ⟨br, or + ka, none⟩ = some (.int .i64 za) ∧ w'.cell? ⟨br, or + kb, none⟩ = some (.int .i64 zb)) (go_keep) ((go_at_call 111; refine (HP.out _ za zb).mono ?_; rintro e w3 ⟨rfl, hw3⟩; subst hw3))
  rename_i hHeld
  clear hHeld
  go_wp2
  go_ret
  exact ⟨by rw [HF.out]; rfl, by first | exact below_drewN (HAL.out _ _) _ | exact (HAL.out _ _).drew⟩

end Go.Proofs.Ytecegaflhdgfaaa

/- the program's machine: formed. -/
namespace Go.Proofs.Ytecegaflhdgfaaa
open Go.RowKit
attribute [local go_sem ↓] Go.wp_at_zero Go.wp_at_succ

theorem formed_split (c : CdF) (h1 : c.ops.length ≤ 1500) (h2 : c.next.length ≤ 1500) (h3 : c.out.length ≤ 1500) (h4 : c.next.length = c.cells.length) : formedF c = (opsOk c.cells.length 0 c.ops && (c.next.all (regOk c.ops.length) && c.out.all (regOk c.ops.length))) := by
  unfold formedF
  rw [decide_eq_true h1, decide_eq_true h2, decide_eq_true h3, decide_eq_true h4.symm]
  simp [Bool.and_assoc]

set_option maxHeartbeats 4000000 in
set_option maxRecDepth 100000 in
theorem pformed_any (w : World) (vO vC vN vU : Value) (c : CdF) (h : CodeAt w vO vC vN vU c) :
    Calls Try.prog 75 #[.agg #[vO, vC, vN, vU]] w fun e w' => e = .returned (.bool (formedF c)) ∧ Below w.heap.size w w' := by
  have HH := hide h
  obtain ⟨Ao, Co, rfl, hmo, hco⟩ := h.ops
  obtain ⟨Ac, Cc, rfl, hmc, hcc⟩ := h.cells
  obtain ⟨An, Cn, rfl, hmn, hcn⟩ := h.next
  obtain ⟨Au, Cu, rfl, hmu, hcu⟩ := h.out
  obtain ⟨bx, hbx⟩ : ∃ bx, bx = w.alloc (.cells #[.slice Ao c.ops.length Co, .slice Ac c.cells.length Cc, .slice An c.next.length Cn, .slice Au c.out.length Cu] 60) := ⟨_, rfl⟩
  have HB0 : Hid (Below w.heap.size w bx) := hide (by rw [hbx]; exact (Below.refl _ _).alloc (Nat.le_refl _) _)
  have HSZ : Hid (w.heap.size < bx.heap.size) := hide (by rw [hbx]; simp)
  have HC : Hid (∀ W, Below bx.heap.size bx W → W.cell? ⟨w.heap.size, 0, none⟩ = some (.slice Ao c.ops.length Co) ∧ W.cell? ⟨w.heap.size, 1, none⟩ = some (.slice Ac c.cells.length Cc) ∧ W.cell? ⟨w.heap.size, 2, none⟩ = some (.slice An c.next.length Cn) ∧ W.cell? ⟨w.heap.size, 3, none⟩ = some (.slice Au c.out.length Cu)) := hide (fun W hW => by
    have hN : W.heap[w.heap.size]? = some (.cells #[.slice Ao c.ops.length Co, .slice Ac c.cells.length Cc, .slice An c.next.length Cn, .slice Au c.out.length Cu] 60) := (hW.block w.heap.size HSZ.out).trans (by rw [hbx]; exact heap_alloc_new w _)
    exact ⟨by rw [cell_of_row W _ 0 _ _ _ hN]; rfl, by rw [cell_of_row W _ 1 _ _ _ hN]; rfl, by rw [cell_of_row W _ 2 _ _ _ hN]; rfl, by rw [cell_of_row W _ 3 _ _ _ hN]; rfl⟩)
  have HCO := hide hco
  clear hco hcc hcn hcu h
  by_cases hhd : c.ops.length ≤ 1500 ∧ c.next.length ≤ 1500 ∧ c.out.length ≤ 1500 ∧ c.next.length = c.cells.length
  case neg =>
    have HF : Hid (formedF c = false) := hide (by
      unfold formedF
      by_cases a1 : c.ops.length ≤ 1500
      · by_cases a2 : c.next.length ≤ 1500
        · by_cases a3 : c.out.length ≤ 1500
          · by_cases a4 : c.cells.length = c.next.length
            · exact absurd ⟨a1, a2, a3, a4.symm⟩ hhd
            · rw [decide_eq_false a4]; simp
          · rw [decide_eq_false a3]; simp
        · rw [decide_eq_false a2]; simp
      · rw [decide_eq_false a1]; simp)
    have hcs : (c.ops.length : Int) > 1500 ∨ (¬ (c.ops.length : Int) > 1500 ∧ (c.next.length : Int) > 1500) ∨ (¬ (c.ops.length : Int) > 1500 ∧ ¬ (c.next.length : Int) > 1500 ∧ (c.out.length : Int) > 1500) ∨ (¬ (c.ops.length : Int) > 1500 ∧ ¬ (c.next.length : Int) > 1500 ∧ ¬ (c.out.length : Int) > 1500 ∧ ((c.next.length : Int) != (c.cells.length : Int)) = true) := by
      by_cases a1 : c.ops.length ≤ 1500
      · by_cases a2 : c.next.length ≤ 1500
        · by_cases a3 : c.out.length ≤ 1500
          · by_cases a4 : c.next.length = c.cells.length
            · exact absurd ⟨a1, a2, a3, a4⟩ hhd
            · exact .inr (.inr (.inr ⟨by omega, by omega, by omega, by rw [bne_iff_ne]; omega⟩))
          · exact .inr (.inr (.inl ⟨by omega, by omega, by omega⟩))
        · exact .inr (.inl ⟨by omega, by omega⟩)
      · exact .inl (by omega)
    clear hhd HC HCO
    rcases hcs with z1 | ⟨z1, z2⟩ | ⟨z1, z2, z3⟩ | ⟨z1, z2, z3, z4⟩
    all_goals
      go_enter Try.func75, Try.ntmps75
      go_wp2
      go_ret
      exact ⟨by rw [HF.out]; rfl, by first | exact (Below.refl _ _).alloc (Nat.le_refl _) _ | exact below_drewN ((Below.refl _ _).alloc (Nat.le_refl _) _) _⟩
  case pos =>
    obtain ⟨a1, a2, a3, a4⟩ := hhd
    have HFS := hide (formed_split c a1 a2 a3 a4)
    have y1 : ¬ (c.ops.length : Int) > 1500 := by omega
    have y2 : ¬ (c.next.length : Int) > 1500 := by omega
    have y3 : ¬ (c.out.length : Int) > 1500 := by omega
    have y4 : ((c.next.length : Int) != (c.cells.length : Int)) = false := by rw [a4]; simp
    have HOF := hide (fun W (o : OpF) i => opFormed_any W o i c.cells.length)
    have HA4 := hide a4
    clear a4
    go_enter Try.func75, Try.ntmps75
    go_wp2
    rw [← hbx]
    go_loopw [31] (fun vi wr => ∃ k : Nat, k ≤ c.ops.length ∧ vi = .int .i64 k ∧ Below bx.heap.size bx wr ∧ opsOk c.cells.length k (c.ops.drop k) = opsOk c.cells.length 0 c.ops) (fun vi _ => c.ops.length - (intOf vi).toNat)
    case atStart => exact ⟨0, Nat.zero_le _, rfl, Below.refl _ _, rfl⟩
    case round =>
      obtain ⟨k, hk, rfl, hbr, hrec⟩ := hrel
      obtain ⟨x0, x1, x2, x3⟩ := HC.out wr hbr
      have HBR := hide hbr
      have HRC := hide hrec
      have HBW := hide (HB0.out.trans (hbr.mono HB0.out.size))
      clear hrec
      by_cases hkl : k < c.ops.length
      · obtain ⟨b, o, rfl, hbl, hcell⟩ := HCO.out (by omega)
        obtain ⟨op, hop⟩ : ∃ op, op = c.ops[k]'hkl := ⟨_, rfl⟩
        obtain ⟨c0, c1, c2, c3⟩ := hcell k hkl
        rw [← hop] at c0 c1 c2 c3
        have d0 := (HBW.out.cell (p := ⟨b, o + k * 4, none⟩) hbl).trans c0
        have d1 := (HBW.out.cell (p := ⟨b, o + k * 4 + 1, none⟩) hbl).trans c1
        have d2 := (HBW.out.cell (p := ⟨b, o + k * 4 + 2, none⟩) hbl).trans c2
        have d3 := (HBW.out.cell (p := ⟨b, o + k * 4 + 3, none⟩) hbl).trans c3
        have hstep : opsOk c.cells.length 0 c.ops = (opOk c.cells.length k op && opsOk c.cells.length (k + 1) (c.ops.drop (k + 1))) := by
          rw [← HRC.out, List.drop_eq_getElem_cons hkl, ← hop]; rfl
        have HST := hide hstep
        have x1a : ∀ ob, (wr.alloc ob).cell? ⟨w.heap.size, 1, none⟩ = some (.slice Ac c.cells.length Cc) := fun ob => (HC.out _ (HBR.out.alloc HBR.out.size ob)).2.1
        have HAL : Hid (∀ ob, Below bx.heap.size bx (wr.alloc ob)) := hide (fun ob => HBR.out.alloc HBR.out.size ob)
        have HOP := hide (fun W => HOF.out W op k)
        obtain ⟨ok, hokk⟩ : ∃ ok, ok = opOk c.cells.length k op := ⟨_, rfl⟩
        rw [← hokk] at HST HOP
        obtain ⟨pk, pa, pb, pc⟩ := op
        simp only at d0 d1 d2 d3 HOP
        have j3 : (0 : Int) ≤ (k : Int) := by omega
        have j4 : (k : Int) < (c.ops.length : Int) := by omega
        clear hcell c0 c1 c2 c3 hstep HRC hbr hop hokk
        cases ok with
        | true =>
          go_wp2_with fail
          refine (HOP.out _).mono ?_
          rintro e w5 ⟨rfl, hb5⟩
          have HB5 : Hid (Below bx.heap.size bx w5) := hide ((HAL.out _).trans (hb5.mono (HAL.out _).size))
          clear hb5
          go_wp2
          go_roundw
          case rel => exact ⟨k + 1, by omega, by go_num, by first | exact HB5.out | exact below_drewN HB5.out _, by rw [HST.out]; rfl⟩
          case measure => simp [intOf]; omega
        | false =>
          have HF : Hid (formedF c = false) := hide (by rw [HFS.out, HST.out]; rfl)
          go_wp2_with fail
          refine (HOP.out _).mono ?_
          rintro e w5 ⟨rfl, hb5⟩
          have HB5 : Hid (Below w.heap.size w w5) := hide (HB0.out.trans (((HAL.out _).trans (hb5.mono (HAL.out _).size)).mono HB0.out.size))
          clear hb5
          go_wp2
          go_ret
          exact ⟨by rw [HF.out]; rfl, by first | exact HB5.out | exact below_drewN HB5.out _⟩
      · have ek : k = c.ops.length := by omega
        subst ek
        have z9 : ¬ (c.ops.length : Int) < (c.ops.length : Int) := by omega
        have hall := HRC.out
        rw [List.drop_length] at hall
        have HF2 : Hid (formedF c = (c.next.all (regOk c.ops.length) && c.out.all (regOk c.ops.length))) := hide (by rw [HFS.out, ← hall]; rfl)
        have HN := hide (allBelow_any wr _ c.next ((HH.out.below HBW.out).next) a2 c.ops.length)
        have HU := hide (allBelow_any wr _ c.out ((HH.out.below HBW.out).out) a3 c.ops.length)
        clear hall HRC HFS hbr
        obtain ⟨na, hna⟩ : ∃ na, na = c.next.all (regOk c.ops.length) := ⟨_, rfl⟩
        rw [← hna] at HF2 HN
        clear hna
        cases na with
        | true =>
          go_wp2_with fail
          refine HN.out.mono ?_
          rintro e w5 ⟨rfl, rfl⟩
          go_wp2_with fail
          refine HU.out.mono ?_
          rintro e w5 ⟨rfl, rfl⟩
          go_wp2
          go_ret
          exact ⟨by rw [HF2.out]; rfl, by first | exact HBW.out | exact below_drewN HBW.out _⟩
        | false =>
          go_wp2_with fail
          refine HN.out.mono ?_
          rintro e w5 ⟨rfl, rfl⟩
          go_wp2
          go_ret
          exact ⟨by rw [HF2.out]; rfl, by first | exact HBW.out | exact below_drewN HBW.out _⟩

end Go.Proofs.Ytecegaflhdgfaaa
