import Derived.Test.YtmndgoapkmhglaaA33ExA
/- Formed. -/
namespace Go.Proofs.Ytmndgoapkmhglaa
open Go.RowKit
attribute [local go_sem ↓] Go.wp_at_zero Go.wp_at_succ

/-- what has been looked at so far. -/
def headOk (c : CdF) : Bool := decide (c.ops.length ≤ 1500) && decide (c.next.length ≤ 1500) && decide (c.out.length ≤ 1500) && decide (c.cells.length = c.next.length)
theorem formed_head (c : CdF) : formedF c = (headOk c && opsOk c.cells.length 0 c.ops && c.next.all (regOk c.ops.length) && c.out.all (regOk c.ops.length)) := by
  unfold formedF headOk; rfl

theorem all_drop {p : Int → Bool} {l : List Int} {k : Nat} (hk : k < l.length) (h : (l.drop k).all p = l.all p) : (p l[k] = false → l.all p = false) ∧ (p l[k] = true → (l.drop (k + 1)).all p = l.all p) := by
  rw [List.drop_eq_getElem_cons hk, List.all_cons] at h
  refine ⟨fun e => by rw [← h, e]; rfl, fun e => by rw [← h, e]; rfl⟩

set_option maxHeartbeats 8000000 in
set_option maxRecDepth 100000 in
theorem rformed_any (w : World) (vO vC vN vU : Value) (c : CdF) (h : CodeAt w vO vC vN vU c) :
    Calls Try.prog 58 #[.agg #[vO, vC, vN, vU]] w fun e w' => e = .returned (.bool (formedF c)) ∧ Below w.heap.size w w' := by
  have HH := hide h
  obtain ⟨Ao, Co, rfl, hmo, hco⟩ := h.ops
  obtain ⟨Ac, Cc, rfl, hmc, hcc⟩ := h.cells
  obtain ⟨An, Cn, rfl, hmn, hcn⟩ := h.next
  obtain ⟨Au, Cu, rfl, hmu, hcu⟩ := h.out
  obtain ⟨bx, hbx⟩ : ∃ bx, bx = w.alloc (.cells #[.slice Ao c.ops.length Co, .slice Ac c.cells.length Cc, .slice An c.next.length Cn, .slice Au c.out.length Cu] 60) := ⟨_, rfl⟩
  have HB0 : Hid (Below w.heap.size w bx) := hide (by rw [hbx]; exact (Below.refl _ _).alloc (Nat.le_refl _) _)
  have HSZ : Hid (w.heap.size < bx.heap.size) := hide (by rw [hbx]; simp)
  have HC : Hid (∀ W, Below bx.heap.size bx W → W.cell? ⟨w.heap.size, 0, none⟩ = some (.slice Ao c.ops.length Co) ∧ W.cell? ⟨w.heap.size, 1, none⟩ = some (.slice Ac c.cells.length Cc) ∧ W.cell? ⟨w.heap.size, 2, none⟩ = some (.slice An c.next.length Cn) ∧ W.cell? ⟨w.heap.size, 3, none⟩ = some (.slice Au c.out.length Cu)) := hide (fun W hW => by
    have hN : W.heap[w.heap.size]? = some (.cells #[.slice Ao c.ops.length Co, .slice Ac c.cells.length Cc, .slice An c.next.length Cn, .slice Au c.out.length Cu] 60) := (hW.block w.heap.size HSZ.out).trans (by rw [hbx]; exact heap_alloc_new w _)
    exact ⟨by rw [cell_of_row W _ 0 _ _ _ hN]; rfl, by rw [cell_of_row W _ 1 _ _ _ hN]; rfl, by rw [cell_of_row W _ 2 _ _ _ hN]; rfl, by rw [cell_of_row W _ 3 _ _ _ hN]; rfl⟩)
  have HCO := hide hco
  have HCN := hide hcn
  have HCU := hide hcu
  have HFH := hide (formed_head c)
  clear hco hcc hcn hcu h
  by_cases hhd : headOk c = true
  case neg =>
    have hhf : headOk c = false := by simpa using hhd
    have HF : Hid (formedF c = false) := hide (by rw [HFH.out, hhf]; rfl)
    have hcs : c.ops.length > 1500 ∨ (¬ c.ops.length > 1500 ∧ c.next.length > 1500) ∨ (¬ c.ops.length > 1500 ∧ ¬ c.next.length > 1500 ∧ c.out.length > 1500) ∨ (¬ c.ops.length > 1500 ∧ ¬ c.next.length > 1500 ∧ ¬ c.out.length > 1500 ∧ c.cells.length ≠ c.next.length) := by
      unfold headOk at hhf
      by_cases a1 : c.ops.length ≤ 1500
      · by_cases a2 : c.next.length ≤ 1500
        · by_cases a3 : c.out.length ≤ 1500
          · by_cases a4 : c.cells.length = c.next.length
            · rw [decide_eq_true a1, decide_eq_true a2, decide_eq_true a3, decide_eq_true a4] at hhf; cases hhf
            · exact .inr (.inr (.inr ⟨by omega, by omega, by omega, a4⟩))
          · exact .inr (.inr (.inl ⟨by omega, by omega, by omega⟩))
        · exact .inr (.inl ⟨by omega, by omega⟩)
      · exact .inl (by omega)
    clear hhd hhf HFH
    rcases hcs with z1 | ⟨z1, z2⟩ | ⟨z1, z2, z3⟩ | ⟨z1, z2, z3, z4⟩
    · have y1 : (1500 : Int) < (c.ops.length : Int) := by omega
      go_enter Try.func58, Try.ntmps58
      go_wp2
      go_ret
      exact ⟨by rw [HF.out]; rfl, (Below.refl _ _).alloc (Nat.le_refl _) _⟩
    · have y1 : ¬ (1500 : Int) < (c.ops.length : Int) := by omega
      have y2 : (1500 : Int) < (c.next.length : Int) := by omega
      go_enter Try.func58, Try.ntmps58
      go_wp2
      go_ret
      exact ⟨by rw [HF.out]; rfl, (Below.refl _ _).alloc (Nat.le_refl _) _⟩
    · have y1 : ¬ (1500 : Int) < (c.ops.length : Int) := by omega
      have y2 : ¬ (1500 : Int) < (c.next.length : Int) := by omega
      have y3 : (1500 : Int) < (c.out.length : Int) := by omega
      go_enter Try.func58, Try.ntmps58
      go_wp2
      go_ret
      exact ⟨by rw [HF.out]; rfl, (Below.refl _ _).alloc (Nat.le_refl _) _⟩
    · have y1 : ¬ (1500 : Int) < (c.ops.length : Int) := by omega
      have y2 : ¬ (1500 : Int) < (c.next.length : Int) := by omega
      have y3 : ¬ (1500 : Int) < (c.out.length : Int) := by omega
      have y4 : ((c.cells.length : Int) != (c.next.length : Int)) = true := by rw [bne_iff_ne]; omega
      clear z4
      go_enter Try.func58, Try.ntmps58
      go_wp2
      go_ret
      exact ⟨by rw [HF.out]; rfl, (Below.refl _ _).alloc (Nat.le_refl _) _⟩
  case pos =>
    have hh2 := hhd
    unfold headOk at hh2
    simp only [Bool.and_eq_true, decide_eq_true_eq] at hh2
    obtain ⟨⟨⟨z1, z2⟩, z3⟩, z4⟩ := hh2
    rw [hhd, Bool.true_and] at HFH
    have y1 : ¬ (1500 : Int) < (c.ops.length : Int) := by omega
    have y2 : ¬ (1500 : Int) < (c.next.length : Int) := by omega
    have y3 : ¬ (1500 : Int) < (c.out.length : Int) := by omega
    have y4 : ((c.cells.length : Int) != (c.next.length : Int)) = false := by rw [z4]; simp
    have HZ4 := hide z4
    clear hhd z4
    go_enter Try.func58, Try.ntmps58
    go_wp2
    rw [← hbx]
    go_loopw [3] (fun vi wr => ∃ k : Nat, k ≤ c.ops.length ∧ vi = .int .i64 k ∧ Below bx.heap.size bx wr ∧ opsOk c.cells.length k (c.ops.drop k) = opsOk c.cells.length 0 c.ops) (fun vi _ => c.ops.length - (intOf vi).toNat)
    case atStart => exact ⟨0, Nat.zero_le _, rfl, Below.refl _ _, rfl⟩
    case round =>
      obtain ⟨k, hk, rfl, hbr, hrec⟩ := hrel
      obtain ⟨x0, x1, x2, x3⟩ := HC.out wr hbr
      have HBR := hide hbr
      have HRC := hide hrec
      have HBW := hide (HB0.out.trans (hbr.mono HB0.out.size))
      clear hrec
      by_cases hkl : k < c.ops.length
      · obtain ⟨b, o, rfl, hbl, hcell⟩ := HCO.out (by omega)
        obtain ⟨op, hop⟩ : ∃ op, op = c.ops[k]'hkl := ⟨_, rfl⟩
        obtain ⟨c0, c1, c2, c3⟩ := hcell k hkl
        rw [← hop] at c0 c1 c2 c3
        have d0 := (HBW.out.cell (p := ⟨b, o + k * 4, none⟩) hbl).trans c0
        have d1 := (HBW.out.cell (p := ⟨b, o + k * 4 + 1, none⟩) hbl).trans c1
        have d2 := (HBW.out.cell (p := ⟨b, o + k * 4 + 2, none⟩) hbl).trans c2
        have d3 := (HBW.out.cell (p := ⟨b, o + k * 4 + 3, none⟩) hbl).trans c3
        have hstep : opsOk c.cells.length 0 c.ops = (opOk c.cells.length k op && opsOk c.cells.length (k + 1) (c.ops.drop (k + 1))) := by
          rw [← HRC.out, List.drop_eq_getElem_cons hkl, ← hop]; rfl
        have HST := hide hstep
        obtain ⟨ok, oa, ob, oc⟩ := op
        simp only at d0 d1 d2 d3
        have j3 : (0 : Int) ≤ (k : Int) := by omega
        have j4 : (k : Int) < (c.ops.length : Int) := by omega
        clear hcell c0 c1 c2 c3 hstep HRC hbr hop
        have x1a : ∀ ob, (wr.alloc ob).cell? ⟨w.heap.size, 1, none⟩ = some (.slice Ac c.cells.length Cc) := fun ob => (HC.out _ (HBR.out.alloc HBR.out.size ob)).2.1
        have HAL : Hid (∀ ob, Below w.heap.size w (wr.alloc ob)) := hide (fun ob => HBW.out.alloc HBW.out.size ob)
        have hno : ∀ {P : Prop}, (opOk c.cells.length k ⟨ok, oa, ob, oc⟩ = false) → (formedF c = false → P) → P := fun hf hp => hp (by rw [HFH.out, HST.out, hf]; rfl)
        by_cases hneg : ok < 0
        · have HF : Hid (formedF c = false) := hide (by
            rw [HFH.out, HST.out, show opOk c.cells.length k ⟨ok, oa, ob, oc⟩ = false by unfold opOk; rw [decide_eq_false (by omega : ¬ (0 : Int) ≤ ok)]; rfl]; rfl)
          clear hno
          go_wp2
          go_ret
          exact ⟨by rw [HF.out]; rfl, HAL.out _⟩
        by_cases hbig : 14 < ok
        · have HF : Hid (formedF c = false) := hide (by
            rw [HFH.out, HST.out, show opOk c.cells.length k ⟨ok, oa, ob, oc⟩ = false by unfold opOk; rw [decide_eq_false (by omega : ¬ ok ≤ 14)]; simp]; rfl)
          clear hno
          go_wp2
          go_ret
          exact ⟨by rw [HF.out]; rfl, HAL.out _⟩
        by_cases hcell : ok = 3 ∧ (oa < 0 ∨ oa ≥ (c.cells.length : Int))
        · have HF : Hid (formedF c = false) := hide (by
            rw [HFH.out, HST.out, show opOk c.cells.length k ⟨ok, oa, ob, oc⟩ = false by
              unfold opOk regOk
              have h3 : ¬ ok ≠ 3 := fun h => h hcell.1
              rw [decide_eq_false h3]
              rcases hcell.2 with h | h
              · rw [decide_eq_false (by omega : ¬ (0 : Int) ≤ oa)]; simp
              · rw [decide_eq_false (by omega : ¬ oa < (c.cells.length : Int))]; simp]; rfl)
          obtain ⟨h3, h4⟩ := hcell
          have q3 : (ok == 3) = true := by rw [h3]; rfl
          have h5 : oa < 0 ∨ (¬ oa < 0 ∧ oa ≥ (c.cells.length : Int)) := by omega
          clear hno h3 h4
          rcases h5 with h5 | ⟨h5, h6⟩
          all_goals
            go_wp2
            go_ret
            exact ⟨by rw [HF.out]; rfl, HAL.out _⟩
        · have HOK : Hid (opOk c.cells.length k ⟨ok, oa, ob, oc⟩ = ((opArgs ⟨ok, oa, ob, oc⟩).take (readsF ok)).all (regOk k)) := hide (by
            unfold opOk
            rw [decide_eq_true (by omega : (0 : Int) ≤ ok), decide_eq_true (by omega : ok ≤ 14)]
            by_cases h3 : ok = 3
            · have h4 : 0 ≤ oa ∧ oa < (c.cells.length : Int) := by
                by_cases h5 : oa < 0
                · exact absurd ⟨h3, .inl h5⟩ hcell
                · by_cases h6 : oa ≥ (c.cells.length : Int)
                  · exact absurd ⟨h3, .inr h6⟩ hcell
                  · omega
              have h7 : regOk c.cells.length oa = true := by unfold regOk; rw [decide_eq_true h4.1, decide_eq_true h4.2]; rfl
              rw [h7]; simp
            · rw [decide_eq_true h3]; simp)
          have hrd : readsF ok ≤ 3 := by unfold readsF; split <;> (try split) <;> (try split) <;> omega
          have HRD := hide (fun W => rreads_any W ok)
          have hq : (ok == 3) = false ∨ ((ok == 3) = true ∧ ¬ oa < 0 ∧ ¬ oa ≥ (c.cells.length : Int)) := by
            by_cases h3 : ok = 3
            · right
              refine ⟨by rw [h3]; rfl, fun h => hcell ⟨h3, .inl h⟩, fun h => hcell ⟨h3, .inr h⟩⟩
            · left; rw [beq_eq_false_iff_ne]; exact h3
          obtain ⟨N, hN⟩ : ∃ N, N = readsF ok := ⟨_, rfl⟩
          rw [← hN] at HOK HRD hrd
          obtain ⟨wi, hwi⟩ : ∃ wi, wi = (wr.alloc (.cells #[.int .i64 ok, .int .i64 oa, .int .i64 ob, .int .i64 oc] 105)).alloc (.cells #[.int .i64 oa, .int .i64 ob, .int .i64 oc] 3) := ⟨_, rfl⟩
          have HWI : Hid (Below bx.heap.size bx wi) := hide (by rw [hwi]; exact (HBR.out.alloc HBR.out.size _).alloc (by have := HBR.out.size; simp; omega) _)
          have HWS : Hid (wr.heap.size + 1 < wi.heap.size) := hide (by rw [hwi]; simp)
          have HFC : Hid (wi.heap[wr.heap.size + 1]? = some (.cells #[.int .i64 oa, .int .i64 ob, .int .i64 oc] 3)) := hide (by rw [hwi]; have := heap_alloc_new (wr.alloc (.cells #[.int .i64 ok, .int .i64 oa, .int .i64 ob, .int .i64 oc] 105)) (.cells #[.int .i64 oa, .int .i64 ob, .int .i64 oc] 3); simpa using this)
          have HAG : Hid ((opArgs ⟨ok, oa, ob, oc⟩) = [oa, ob, oc]) := hide rfl
          clear hno hcell hN
          obtain ⟨fk, hfk⟩ : ∃ fk, fk = wr.heap.size + 1 := ⟨_, rfl⟩
          rw [← hfk] at HFC HWS
          rcases hq with q3 | ⟨q3, q4, q5⟩
          all_goals
            go_wp2_with fail
            refine (HRD.out _).mono ?_
            rintro e w5 ⟨rfl, rfl⟩
            go_wp2
            rw [← hwi, ← hfk]
            clear hwi hfk
            go_loopw [7] (fun vj wx => ∃ j : Nat, j ≤ N ∧ vj = .int .i64 j ∧ Below wi.heap.size wi wx ∧ ∀ j', j' < j → ∀ (h : j' < [oa, ob, oc].length), regOk k ([oa, ob, oc][j']'h) = true) (fun vj _ => N - (intOf vj).toNat)
            case atStart => exact ⟨0, Nat.zero_le _, rfl, by first | exact Below.refl _ _ | exact below_drewN (Below.refl _ _) _, fun j' h => by omega⟩
            case round =>
              obtain ⟨j, hj, rfl, hbj, hall⟩ := hrel
              have HBJ := hide hbj
              have HALL := hide hall
              clear hall
              by_cases hjn : j < N
              · have hj3 : j < [oa, ob, oc].length := by simp; omega
                have hbn : wr.heap[fk]? = some (.cells #[.int .i64 oa, .int .i64 ob, .int .i64 oc] 3) := (hbj.block fk HWS.out).trans HFC.out
                have y0 : wr.cell? ⟨fk, j, none⟩ = some (.int .i64 ([oa, ob, oc][j]'hj3)) := by
                  rw [cell_of_row wr fk j _ _ _ hbn]
                  have : j = 0 ∨ j = 1 ∨ j = 2 := by omega
                  rcases this with rfl | rfl | rfl <;> rfl
                have i1 : (0 : Int) ≤ (j : Int) := by omega
                have i2 : (j : Int) < (N : Int) := by omega
                have i3 : (j : Int) < 3 := by omega
                by_cases hreg : regOk k ([oa, ob, oc][j]'hj3) = true
                · have HN2 : Hid (∀ j', j' < j + 1 → ∀ (h : j' < [oa, ob, oc].length), regOk k ([oa, ob, oc][j']'h) = true) := hide (fun j' h1 h2 => by
                    by_cases e : j' = j
                    · subst e; exact hreg
                    · exact HALL.out j' (by omega) h2)
                  unfold regOk at hreg
                  simp only [Bool.and_eq_true, decide_eq_true_eq] at hreg
                  generalize [oa, ob, oc][j] = z at y0 hreg
                  have r1 : ¬ z < 0 := by omega
                  have r2 : ¬ z ≥ (k : Int) := by omega
                  clear hreg hbn HALL hbj
                  go_wp2
                  go_roundw
                  case rel => exact ⟨j + 1, by omega, by go_num, by first | exact HBJ.out | exact below_drewN HBJ.out _, HN2.out⟩
                  case measure => simp [intOf]; omega
                · have HF : Hid (formedF c = false) := hide (by
                    rw [HFH.out, HST.out, HOK.out, HAG.out, show ([oa, ob, oc].take N).all (regOk k) = false by
                      rw [List.all_eq_false]
                      exact ⟨[oa, ob, oc][j], List.mem_take_iff_getElem.2 ⟨j, by simp at hj3 ⊢; omega, rfl⟩, hreg⟩]; rfl)
                  have hcase : ([oa, ob, oc][j]'hj3) < 0 ∨ (¬ ([oa, ob, oc][j]'hj3) < 0 ∧ ([oa, ob, oc][j]'hj3) ≥ (k : Int)) := by
                    unfold regOk at hreg
                    simp only [Bool.and_eq_true, decide_eq_true_eq] at hreg
                    omega
                  have HWJ : Hid (Below w.heap.size w wr) := hide ((HB0.out.trans (HWI.out.mono HB0.out.size)).trans (hbj.mono (Nat.le_trans HB0.out.size HWI.out.size)))
                  generalize [oa, ob, oc][j] = z at y0 hcase
                  clear hreg hbn HALL hbj
                  rcases hcase with r1 | ⟨r1, r2⟩
                  all_goals
                    go_wp2
                    go_ret
                    exact ⟨by rw [HF.out]; rfl, by first | exact HWJ.out | exact below_drewN HWJ.out _⟩
              · have ej : j = N := by omega
                subst ej
                have z9 : ¬ (j : Int) < (j : Int) := by omega
                have HNX : Hid (opsOk c.cells.length (k + 1) (c.ops.drop (k + 1)) = opsOk c.cells.length 0 c.ops) := hide (by
                  rw [HST.out, HOK.out, HAG.out, show ([oa, ob, oc].take j).all (regOk k) = true by
                    rw [List.all_eq_true]
                    intro x hx
                    obtain ⟨i, hi, rfl⟩ := List.getElem_of_mem hx
                    rw [List.length_take] at hi
                    rw [List.getElem_take]
                    exact HALL.out i (by omega) (by omega)]; rfl)
                have HBK : Hid (Below bx.heap.size bx wr) := hide (HWI.out.trans (hbj.mono HWI.out.size))
                clear HALL hbj
                go_wp2
                go_roundw
                case rel => exact ⟨k + 1, by omega, by go_num, by first | exact HBK.out | exact below_drewN HBK.out _, HNX.out⟩
                case measure => simp [intOf]; omega
      · have ek : k = c.ops.length := by omega
        subst ek
        have z9 : ¬ (c.ops.length : Int) < (c.ops.length : Int) := by omega
        have hall := HRC.out
        rw [List.drop_length] at hall
        have HF2 : Hid (formedF c = (c.next.all (regOk c.ops.length) && c.out.all (regOk c.ops.length))) := hide (by rw [HFH.out, ← hall]; rfl)
        clear hall HRC HFH hbr
        go_wp2
        go_loopw [8] (fun vj wx => ∃ j : Nat, j ≤ c.next.length ∧ vj = .int .i64 j ∧ Below bx.heap.size bx wx ∧ (c.next.drop j).all (regOk c.ops.length) = c.next.all (regOk c.ops.length)) (fun vj _ => c.next.length - (intOf vj).toNat)
        case atStart => exact ⟨0, Nat.zero_le _, rfl, by first | exact HBR.out | exact below_drewN HBR.out _, rfl⟩
        case round =>
          clear x0 x1 x2 x3 HBR HBW
          obtain ⟨j, hj, rfl, hbr, hrec⟩ := hrel
          obtain ⟨x0, x1, x2, x3⟩ := HC.out wr hbr
          have HBR := hide hbr
          have HBW := hide (HB0.out.trans (hbr.mono HB0.out.size))
          by_cases hjl : j < c.next.length
          · obtain ⟨b, o, rfl, hbl, hcell⟩ := HCN.out (by omega)
            have d0 := (HBW.out.cell (p := ⟨b, o + j, none⟩) hbl).trans (hcell j hjl)
            obtain ⟨k1, k2⟩ := all_drop hjl hrec
            have i1 : (0 : Int) ≤ (j : Int) := by omega
            have i2 : (j : Int) < (c.next.length : Int) := by omega
            by_cases hreg : regOk c.ops.length c.next[j] = true
            · have HN2 := hide (k2 hreg)
              unfold regOk at hreg
              simp only [Bool.and_eq_true, decide_eq_true_eq] at hreg
              generalize c.next[j] = z at d0 hreg
              have r1 : ¬ z < 0 := by omega
              have r2 : ¬ z ≥ (c.ops.length : Int) := by omega
              clear hreg hcell hrec k1 k2 hbr
              go_wp2_with fail
              go_quiet (fail)
              go_wp2
              go_roundw
              case rel => exact ⟨j + 1, by omega, by go_num, by first | exact HBR.out | exact below_drewN HBR.out _, HN2.out⟩
              case measure => simp [intOf]; omega
            · have HF : Hid (formedF c = false) := hide (by rw [HF2.out, k1 (by simpa using hreg)]; rfl)
              have hcase : c.next[j] < 0 ∨ (¬ c.next[j] < 0 ∧ c.next[j] ≥ (c.ops.length : Int)) := by
                unfold regOk at hreg
                simp only [Bool.and_eq_true, decide_eq_true_eq] at hreg
                omega
              generalize c.next[j] = z at d0 hcase
              clear hreg hcell hrec k1 k2 hbr
              rcases hcase with r1 | ⟨r1, r2⟩
              all_goals
                go_wp2_with fail
                go_quiet (fail)
                go_wp2
                go_ret
                exact ⟨by rw [HF.out]; rfl, by first | exact HBW.out | exact below_drewN HBW.out _⟩
          · have ej : j = c.next.length := by omega
            subst ej
            have z8 : ¬ (c.next.length : Int) < (c.next.length : Int) := by omega
            rw [List.drop_length] at hrec
            have HF3 : Hid (formedF c = c.out.all (regOk c.ops.length)) := hide (by rw [HF2.out, ← hrec]; rfl)
            clear hrec HF2 hbr
            go_wp2
            go_loopw [9] (fun vj wx => ∃ j : Nat, j ≤ c.out.length ∧ vj = .int .i64 j ∧ Below bx.heap.size bx wx ∧ (c.out.drop j).all (regOk c.ops.length) = c.out.all (regOk c.ops.length)) (fun vj _ => c.out.length - (intOf vj).toNat)
            case atStart => exact ⟨0, Nat.zero_le _, rfl, by first | exact HBR.out | exact below_drewN HBR.out _, rfl⟩
            case round =>
              clear x0 x1 x2 x3 HBR HBW
              obtain ⟨j, hj, rfl, hbr, hrec⟩ := hrel
              obtain ⟨x0, x1, x2, x3⟩ := HC.out wr hbr
              have HBR := hide hbr
              have HBW := hide (HB0.out.trans (hbr.mono HB0.out.size))
              by_cases hjl : j < c.out.length
              · obtain ⟨b, o, rfl, hbl, hcell⟩ := HCU.out (by omega)
                have d0 := (HBW.out.cell (p := ⟨b, o + j, none⟩) hbl).trans (hcell j hjl)
                obtain ⟨k1, k2⟩ := all_drop hjl hrec
                have i1 : (0 : Int) ≤ (j : Int) := by omega
                have i2 : (j : Int) < (c.out.length : Int) := by omega
                by_cases hreg : regOk c.ops.length c.out[j] = true
                · have HN2 := hide (k2 hreg)
                  unfold regOk at hreg
                  simp only [Bool.and_eq_true, decide_eq_true_eq] at hreg
                  generalize c.out[j] = z at d0 hreg
                  have r1 : ¬ z < 0 := by omega
                  have r2 : ¬ z ≥ (c.ops.length : Int) := by omega
                  clear hreg hcell hrec k1 k2 hbr
                  go_wp2_with fail
                  go_quiet (fail)
                  go_wp2
                  go_roundw
                  case rel => exact ⟨j + 1, by omega, by go_num, by first | exact HBR.out | exact below_drewN HBR.out _, HN2.out⟩
                  case measure => simp [intOf]; omega
                · have HF : Hid (formedF c = false) := hide (by rw [HF3.out, k1 (by simpa using hreg)])
                  have hcase : c.out[j] < 0 ∨ (¬ c.out[j] < 0 ∧ c.out[j] ≥ (c.ops.length : Int)) := by
                    unfold regOk at hreg
                    simp only [Bool.and_eq_true, decide_eq_true_eq] at hreg
                    omega
                  generalize c.out[j] = z at d0 hcase
                  clear hreg hcell hrec k1 k2 hbr
                  rcases hcase with r1 | ⟨r1, r2⟩
                  all_goals
                    go_wp2_with fail
                    go_quiet (fail)
                    go_wp2
                    go_ret
                    exact ⟨by rw [HF.out]; rfl, by first | exact HBW.out | exact below_drewN HBW.out _⟩
              · have ej : j = c.out.length := by omega
                subst ej
                have z7 : ¬ (c.out.length : Int) < (c.out.length : Int) := by omega
                rw [List.drop_length] at hrec
                have HF : Hid (formedF c = true) := hide (by rw [HF3.out, ← hrec]; rfl)
                clear hrec HF3 hbr
                go_wp2
                go_ret
                exact ⟨by rw [HF.out]; rfl, HBW.out⟩

end Go.Proofs.Ytmndgoapkmhglaa
