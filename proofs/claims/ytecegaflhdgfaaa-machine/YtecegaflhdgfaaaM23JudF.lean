import Derived.Test.YtecegaflhdgfaaaM00Cut
import Derived.Test.YtecegaflhdgfaaaM22JudD
namespace Go.Proofs.Ytecegaflhdgfaaa
open Go.RowKit
attribute [local go_sem ↓] Go.wp_at_zero Go.wp_at_succ

/-- A SQUARE OF TRUTHS IN MEMORY: its rows' slices lie in block g, row i in block R i. -/
structure Mat (w : World) (g n : Nat) (R : Nat → Nat) (M : Mx) : Prop where
  outer : ∀ i, i < n → w.cell? ⟨g, i, none⟩ = some (.slice (some ⟨R i, 0, none⟩) n n)
  rows : ∀ i, i < n → w.rowIs (R i) 4 n (fun j => .bool (M i j))
  inj : ∀ i j, i < n → j < n → R i = R j → i = j
  ne : ∀ i, i < n → R i ≠ g

theorem Mat.congr {w : World} {g n : Nat} {R : Nat → Nat} {M M' : Mx} (h : Mat w g n R M) (e : agree n M M') : Mat w g n R M' :=
  ⟨h.outer, fun i hi => (h.rows i hi).congr (fun j hj => by rw [e i j hi hj]), h.inj, h.ne⟩
theorem Mat.cell {w : World} {g n : Nat} {R : Nat → Nat} {M : Mx} (h : Mat w g n R M) {i j : Nat} (hi : i < n) (hj : j < n) : w.cell? ⟨R i, j, none⟩ = some (.bool (M i j)) := (h.rows i hi).cell hj
theorem Mat.froz {w : World} {g n : Nat} {R : Nat → Nat} {M : Mx} (h : Mat w g n R M) {i : Nat} (hi : i < n) (j : Nat) : w.frozen? ⟨R i, j, none⟩ = false := (h.rows i hi).frozen j
theorem Mat.set {w : World} {g n : Nat} {R : Nat → Nat} {M : Mx} (h : Mat w g n R M) {a : Nat} (ha : a < n) (b : Nat) (v : Bool) : Mat (w.setCell ⟨R a, b, none⟩ (.bool v)) g n R (upd M a b v) := by
  refine ⟨fun i hi => ?_, fun i hi => ?_, h.inj, h.ne⟩
  · rw [← h.outer i hi]
    exact World.cell?_setCell_other _ _ _ _ (by intro e; exact h.ne a ha (congrArg Addr.block e))
  · by_cases e : i = a
    · subst e
      refine ((h.rows i hi).set b (.bool v)).congr (fun j _ => ?_)
      by_cases ej : j = b
      · subst ej; simp [upd]
      · simp [upd, ej]
    · refine ((h.rows i hi).setOther (a := ⟨R a, b, none⟩) (fun e2 => e (h.inj i a hi ha e2)) (.bool v)).congr (fun j _ => ?_)
      simp [upd, e]
/-- other blocks may turn. -/
theorem Mat.keep {w w' : World} {g n : Nat} {R : Nat → Nat} {M : Mx} (h : Mat w g n R M) (hg : w'.heap[g]? = w.heap[g]?) (hr : ∀ i, i < n → w'.heap[R i]? = w.heap[R i]?) : Mat w' g n R M :=
  ⟨fun i hi => (World.cell?_of_block (w := w) (a := ⟨g, i, none⟩) hg).trans (h.outer i hi), fun i hi => (h.rows i hi).of_block (hr i hi), h.inj, h.ne⟩

/-- the rows alone have turned. -/
structure RowsOnly (w w' : World) (n : Nat) (R : Nat → Nat) : Prop where
  os : w'.os = w.os
  tape : w'.tape = w.tape
  output : w'.output = w.output
  size : w'.heap.size = w.heap.size
  block : ∀ k, (∀ i, i < n → k ≠ R i) → w'.heap[k]? = w.heap[k]?
theorem RowsOnly.refl (w : World) (n : Nat) (R : Nat → Nat) : RowsOnly w w n R := ⟨rfl, rfl, rfl, rfl, fun _ _ => rfl⟩
theorem RowsOnly.set {w w' : World} {n : Nat} {R : Nat → Nat} (h : RowsOnly w w' n R) {a : Nat} (ha : a < n) (b : Nat) (v : Value) : RowsOnly w (w'.setCell ⟨R a, b, none⟩ v) n R :=
  ⟨h.os, h.tape, h.output, by simpa using h.size, fun k hk => (heap_setCell_other w' ⟨R a, b, none⟩ k v (hk a ha)).trans (h.block k hk)⟩

set_option maxHeartbeats 2000000 in
set_option maxRecDepth 100000 in
theorem follow_any (w : World) (g n cap : Nat) (R : Nat → Nat) (M : Mx) (h : Mat w g n R M) (hn : n ≤ 1501) :
    Calls Try.prog 117 #[.slice (some ⟨g, 0, none⟩) n cap] w fun e w' => e = .returned (.tuple #[]) ∧ Mat w' g n R (warsh M n) ∧ RowsOnly w w' n R := by
  have HM := hide h
  clear h
  go_enter Try.func117, Try.ntmps117
  go_wp2
  go_loopw [7] (fun i wr => ∃ k : Nat, k ≤ n ∧ i = .int .i64 k ∧ Mat wr g n R (warsh M k) ∧ RowsOnly w wr n R) (fun i _ => n - (intOf i).toNat)
  case atStart => exact ⟨0, Nat.zero_le _, rfl, HM.out, RowsOnly.refl _ _ _⟩
  case round =>
    obtain ⟨k, hk, rfl, hmat, hro⟩ := hrel
    by_cases hlt : k < n
    · have HW : Hid (warsh M (k + 1) = phase (warsh M k) k) := hide rfl
      generalize warsh M k = Mk at *
      have HMAT := hide hmat
      have HRO := hide hro
      clear hmat hro
      go_wp2
      go_loopw [12] (fun i wr => ∃ f : Nat, f ≤ n ∧ i = .int .i64 f ∧ Mat wr g n R (midM Mk k f 0) ∧ RowsOnly w wr n R) (fun i _ => n - (intOf i).toNat)
      case atStart => exact ⟨0, Nat.zero_le _, rfl, by rw [midM_zero]; exact HMAT.out, HRO.out⟩
      case round =>
        clear HMAT HRO
        obtain ⟨f, hf, rfl, hmat, hro⟩ := hrel
        by_cases hfl : f < n
        · have o1 := hmat.outer f hfl
          have o2 := hmat.outer k hlt
          have x1 := hmat.cell (i := f) (j := k) hfl hlt
          rw [midM_here Mk k f 0 k (by omega)] at x1
          have HMAT := hide hmat
          have HRO := hide hro
          have j1 : (0 : Int) ≤ (f : Int) := by omega
          have j2 : (f : Int) < (n : Int) := by omega
          have j3 : (0 : Int) ≤ (k : Int) := by omega
          have j4 : (k : Int) < (n : Int) := by omega
          clear hmat hro
          by_cases hb : Mk f k = true
          · go_wp2
            go_loopw [25] (fun i wr => ∃ m : Nat, m ≤ n ∧ i = .int .i64 m ∧ Mat wr g n R (midM Mk k f m) ∧ RowsOnly w wr n R) (fun i _ => n - (intOf i).toNat)
            case atStart => exact ⟨0, Nat.zero_le _, rfl, HMAT.out, HRO.out⟩
            case round =>
              clear HMAT HRO o1 o2 x1
              obtain ⟨m, hm, rfl, hmat, hro⟩ := hrel
              by_cases hml : m < n
              · have o1 := hmat.outer f hfl
                have o2 := hmat.outer k hlt
                have x2 := hmat.cell (i := k) (j := m) hlt hml
                rw [midM_between Mk k f m m (by omega)] at x2
                have x3 := hmat.cell (i := f) (j := m) hfl hml
                have f3 := hmat.froz hfl m
                have HMAT := hide hmat
                have HRO := hide hro
                have j5 : (0 : Int) ≤ (m : Int) := by omega
                have j6 : (m : Int) < (n : Int) := by omega
                clear hmat hro
                by_cases hc : Mk k m = true
                · go_wp2
                  go_roundw
                  case rel => exact ⟨m + 1, by omega, by go_num, by rw [← midM_set Mk k f m hb hc]; exact HMAT.out.set hfl m true, HRO.out.set hfl m _⟩
                  case measure => simp [intOf]; omega
                · have hc' : Mk k m = false := by simpa using hc
                  clear hc
                  go_wp2
                  go_roundw
                  case rel => exact ⟨m + 1, by omega, by go_num, by rw [← midM_skip Mk k f m hc']; exact HMAT.out, HRO.out⟩
                  case measure => simp [intOf]; omega
              · have HMAT := hide hmat
                have HRO := hide hro
                clear hmat hro
                go_wp2
                go_roundw
                case rel => exact ⟨f + 1, by omega, by go_num, HMAT.out.congr (midM_done Mk n k f m (by omega)), HRO.out⟩
                case measure => simp [intOf]; omega
          · have hb' : Mk f k = false := by simpa using hb
            clear hb
            go_wp2
            go_roundw
            case rel => exact ⟨f + 1, by omega, by go_num, HMAT.out.congr (midM_pass Mk n k f hb'), HRO.out⟩
            case measure => simp [intOf]; omega
        · have HMAT := hide hmat
          have HRO := hide hro
          clear hmat hro
          go_wp2
          go_roundw
          case rel => exact ⟨k + 1, by omega, by go_num, by rw [HW.out]; exact HMAT.out.congr (midM_all Mk n k f (by omega)), HRO.out⟩
          case measure => simp [intOf]; omega
    · have ek : k = n := by omega
      subst ek
      have HMAT := hide hmat
      have HRO := hide hro
      clear hmat hro
      go_wp2
      go_end0
      exact ⟨rfl, HMAT.out, HRO.out⟩

end Go.Proofs.Ytecegaflhdgfaaa

namespace Go.Proofs.Ytecegaflhdgfaaa
open Go.RowKit
attribute [local go_sem ↓] Go.wp_at_zero Go.wp_at_succ

theorem Try.infoBools : (Try.prog.info? 153).map (fun i => (i.zero, i.size, i.bytes)) = some (some (.slice none 0 0), 1, 24) := by kernel_rfl

theorem Mat.lt {w : World} {g n : Nat} {R : Nat → Nat} {M : Mx} (h : Mat w g n R M) (hn : 0 < n) : g < w.heap.size := World.block_lt_of_cell? w _ (h.outer 0 hn)
theorem Mat.alloc {w : World} {g n : Nat} {R : Nat → Nat} {M : Mx} (h : Mat w g n R M) (o : Obj) : Mat (w.alloc o) g n R M := by
  refine ⟨fun i hi => ?_, fun i hi => (h.rows i hi).alloc o, h.inj, h.ne⟩
  rw [← h.outer i hi]
  exact World.cell?_alloc_past _ _ _ (h.lt (by omega))
theorem Mat.drew {w : World} {g n : Nat} {R : Nat → Nat} {M : Mx} (h : Mat w g n R M) : Mat w.drew g n R M := ⟨h.outer, h.rows, h.inj, h.ne⟩
theorem Mat.drewN {w : World} {g n : Nat} {R : Nat → Nat} {M : Mx} (h : Mat w g n R M) (k : Nat) : Mat (w.drewN k) g n R M := h.keep rfl (fun _ _ => rfl)

set_option maxHeartbeats 1000000 in
set_option maxRecDepth 100000 in
theorem square_any (w : World) (n : Nat) (hn : n ≤ 1501) :
    Calls Try.prog 118 #[.int .i64 (n : Int)] w fun e w' => e = .returned (.slice (some ⟨w.heap.size, 0, none⟩) n n) ∧ Mat w' w.heap.size n (fun i => w.heap.size + 1 + i) noM ∧ Below w.heap.size w w' ∧ w'.heap.size = w.heap.size + 1 + n := by
  have hm1 := run_make_row' (P := Try.prog) 150 153 (.slice none 0 0) 24 Try.underlying150 Try.infoBools rfl .i64 .i64 n (by omega) (by omega)
  have hm2 := run_make_row' (P := Try.prog) 153 4 (.bool false) 1 Try.underlying153 Try.infoBool rfl .i64 .i64 n (by omega) (by omega)
  have HR0 := hide (World.rowIs_made w (.slice none 0 0) n 153)
  go_enter Try.func118, Try.ntmps118
  go_wp2
  go_loopw [9] (fun i wr => ∃ k : Nat, k ≤ n ∧ i = .int .i64 k ∧ wr.heap.size = w.heap.size + 1 + k ∧ Below w.heap.size w wr ∧
      wr.rowIs w.heap.size 153 n (fun i => if i < k then .slice (some ⟨w.heap.size + 1 + i, 0, none⟩) n n else .slice none 0 0) ∧ (∀ i, i < k → wr.rowIs (w.heap.size + 1 + i) 4 n (fun _ => .bool false))) (fun i _ => n - (intOf i).toNat)
  case atStart => exact ⟨0, Nat.zero_le _, rfl, by simp, (Below.refl _ _).alloc (Nat.le_refl _) _, HR0.out.congr (fun i _ => by simp), fun i hi => by omega⟩
  case round =>
    obtain ⟨k, hk, rfl, hsz, hbel, hout, hrows⟩ := hrel
    by_cases hlt : k < n
    · have j1 : (0 : Int) ≤ (k : Int) := by omega
      have j2 : (k : Int) < (n : Int) := by omega
      have lg : w.heap.size < wr.heap.size := by omega
      have x0 : ∀ o, (wr.alloc o).cell? ⟨w.heap.size, k, none⟩ = some (.slice none 0 0) := fun o => (World.cell?_alloc_past _ _ _ lg).trans ((hout.cell hlt).trans (by simp))
      have f0 : ∀ o, (wr.alloc o).frozen? ⟨w.heap.size, k, none⟩ = false := fun o => (World.frozen?_alloc_past _ _ _ lg).trans (hout.frozen k)
      have HSZ := hide hsz
      have HOUT := hide hout
      have HROWS := hide hrows
      clear hsz hout hrows
      go_wp2
      go_roundw
      case rel =>
        have e1 : wr.heap.size = w.heap.size + 1 + k := HSZ.out
        refine ⟨k + 1, by omega, by go_num, by simp; omega, ?_, ?_, ?_⟩
        · first | exact (hbel.alloc (by omega) _).setCell (Nat.le_refl _) _ | exact (hbel.setCell (Nat.le_refl _) _).alloc (by simp; omega) _
        · have h1 := (HOUT.out.set k (.slice (some ⟨wr.heap.size, 0, none⟩) n n)).alloc (.cells (madeCells #[.bool false] n) 4)
          refine World.rowIs.congr ?_ (f := (fun j => if j = k then .slice (some ⟨wr.heap.size, 0, none⟩) n n else if j < k then .slice (some ⟨w.heap.size + 1 + j, 0, none⟩) n n else .slice none 0 0)) (fun i hi => ?_)
          · exact h1
          · by_cases e : i = k
            · subst e; rw [if_pos rfl, if_pos (by omega), e1]
            · rw [if_neg e]
              by_cases h2 : i < k
              · rw [if_pos h2, if_pos (by omega)]
              · rw [if_neg h2, if_neg (by omega)]
        · intro i hi
          by_cases e : i = k
          · subst e
            have h2 := World.rowIs_made (wr.setCell ⟨w.heap.size, i, none⟩ (.slice (some ⟨wr.heap.size, 0, none⟩) n n)) (.bool false) n 4
            simp only [World.size_setCell] at h2
            rw [← e1]
            exact h2
          · exact ((HROWS.out i (by omega)).setOther (a := ⟨w.heap.size, k, none⟩) (by show w.heap.size + 1 + i ≠ w.heap.size; omega) _).alloc _
      case measure => simp [intOf]; omega
    · have ek : k = n := by omega
      subst ek
      have HM : Hid (Mat wr w.heap.size k (fun i => w.heap.size + 1 + i) noM) := hide ⟨fun i hi => (hout.cell hi).trans (by simp [hi]), fun i hi => hrows i hi, fun i j _ _ e => by omega, fun i _ => by omega⟩
      have HSZ := hide hsz
      clear hsz hout hrows
      go_wp2
      go_ret
      exact ⟨rfl, HM.out, hbel, HSZ.out⟩

end Go.Proofs.Ytecegaflhdgfaaa
