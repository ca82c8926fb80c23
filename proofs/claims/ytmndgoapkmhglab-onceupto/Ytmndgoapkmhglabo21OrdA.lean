import Derived.Test.Ytmndgoapkmhglabo02BoxC
import Derived.Test.Ytmndgoapkmhglabo20JudD
namespace Go.Proofs.Ytmndgoapkmhglab
open Go.RowKit
attribute [local go_sem ↓] Go.wp_at_zero Go.wp_at_succ
structure Mat (w : World) (g n : Nat) (R : Nat → Nat) (M : Mx) : Prop where
  outer : ∀ i, i < n → w.cell? ⟨g, i, none⟩ = some (.slice (some ⟨R i, 0, none⟩) n n)
  rows : ∀ i, i < n → w.rowIs (R i) 4 n (fun j => .bool (M i j))
  inj : ∀ i j, i < n → j < n → R i = R j → i = j
  ne : ∀ i, i < n → R i ≠ g
theorem Mat.congr {w : World} {g n : Nat} {R : Nat → Nat} {M M' : Mx} (h : Mat w g n R M) (e : agree n M M') : Mat w g n R M' :=
  ⟨h.outer, fun i hi => (h.rows i hi).congr (fun j hj => by rw [e i j hi hj]), h.inj, h.ne⟩
theorem Mat.cell {w : World} {g n : Nat} {R : Nat → Nat} {M : Mx} (h : Mat w g n R M) {i j : Nat} (hi : i < n) (hj : j < n) : w.cell? ⟨R i, j, none⟩ = some (.bool (M i j)) := (h.rows i hi).cell hj
theorem Mat.froz {w : World} {g n : Nat} {R : Nat → Nat} {M : Mx} (h : Mat w g n R M) {i : Nat} (hi : i < n) (j : Nat) : w.frozen? ⟨R i, j, none⟩ = false := (h.rows i hi).frozen j
theorem Mat.set {w : World} {g n : Nat} {R : Nat → Nat} {M : Mx} (h : Mat w g n R M) {a : Nat} (ha : a < n) (b : Nat) (v : Bool) : Mat (w.setCell ⟨R a, b, none⟩ (.bool v)) g n R (upd M a b v) := by
  refine ⟨fun i hi => ?_, fun i hi => ?_, h.inj, h.ne⟩
  · rw [← h.outer i hi]
    exact World.cell?_setCell_other _ _ _ _ (by intro e; exact h.ne a ha (congrArg Addr.block e))
  · by_cases e : i = a
    · subst e
      refine ((h.rows i hi).set b (.bool v)).congr (fun j _ => ?_)
      by_cases ej : j = b
      · subst ej; simp [upd]
      · simp [upd, ej]
    · refine ((h.rows i hi).setOther (a := ⟨R a, b, none⟩) (fun e2 => e (h.inj i a hi ha e2)) (.bool v)).congr (fun j _ => ?_)
      simp [upd, e]
theorem Mat.keep {w w' : World} {g n : Nat} {R : Nat → Nat} {M : Mx} (h : Mat w g n R M) (hg : w'.heap[g]? = w.heap[g]?) (hr : ∀ i, i < n → w'.heap[R i]? = w.heap[R i]?) : Mat w' g n R M :=
  ⟨fun i hi => (World.cell?_of_block (w := w) (a := ⟨g, i, none⟩) hg).trans (h.outer i hi), fun i hi => (h.rows i hi).of_block (hr i hi), h.inj, h.ne⟩
structure RowsOnly (w w' : World) (n : Nat) (R : Nat → Nat) : Prop where
  os : w'.os = w.os
  tape : w'.tape = w.tape
  output : w'.output = w.output
  size : w'.heap.size = w.heap.size
  block : ∀ k, (∀ i, i < n → k ≠ R i) → w'.heap[k]? = w.heap[k]?
theorem RowsOnly.refl (w : World) (n : Nat) (R : Nat → Nat) : RowsOnly w w n R := ⟨rfl, rfl, rfl, rfl, fun _ _ => rfl⟩
theorem RowsOnly.set {w w' : World} {n : Nat} {R : Nat → Nat} (h : RowsOnly w w' n R) {a : Nat} (ha : a < n) (b : Nat) (v : Value) : RowsOnly w (w'.setCell ⟨R a, b, none⟩ v) n R :=
  ⟨h.os, h.tape, h.output, by simpa using h.size, fun k hk => (heap_setCell_other w' ⟨R a, b, none⟩ k v (hk a ha)).trans (h.block k hk)⟩
set_option maxHeartbeats 2000000 in
set_option maxRecDepth 100000 in
theorem follow_any (w : World) (g n cap : Nat) (R : Nat → Nat) (M : Mx) (h : Mat w g n R M) (hn : n ≤ 1501) :
    Calls Try.prog 113 #[.slice (some ⟨g, 0, none⟩) n cap] w fun e w' => e = .returned (.tuple #[]) ∧ Mat w' g n R (warsh M n) ∧ RowsOnly w w' n R := by
  have HM := hide h
  clear h
  go_enter Try.func113, Try.ntmps113
  go_wp2
  go_loopw [7] (fun i wr => ∃ k : Nat, k ≤ n ∧ i = .int .i64 k ∧ Mat wr g n R (warsh M k) ∧ RowsOnly w wr n R) (fun i _ => n - (intOf i).toNat)
  case atStart => exact ⟨0, Nat.zero_le _, rfl, HM.out, RowsOnly.refl _ _ _⟩
  case round =>
    obtain ⟨k, hk, rfl, hmat, hro⟩ := hrel
    by_cases hlt : k < n
    · have HW : Hid (warsh M (k + 1) = phase (warsh M k) k) := hide rfl
      generalize warsh M k = Mk at *
      have HMAT := hide hmat
      have HRO := hide hro
      clear hmat hro
      go_wp2
      go_loopw [12] (fun i wr => ∃ f : Nat, f ≤ n ∧ i = .int .i64 f ∧ Mat wr g n R (midM Mk k f 0) ∧ RowsOnly w wr n R) (fun i _ => n - (intOf i).toNat)
      case atStart => exact ⟨0, Nat.zero_le _, rfl, by rw [midM_zero]; exact HMAT.out, HRO.out⟩
      case round =>
        clear HMAT HRO
        obtain ⟨f, hf, rfl, hmat, hro⟩ := hrel
        by_cases hfl : f < n
        · have o1 := hmat.outer f hfl
          have o2 := hmat.outer k hlt
          have x1 := hmat.cell (i := f) (j := k) hfl hlt
          rw [midM_here Mk k f 0 k (by omega)] at x1
          have HMAT := hide hmat
          have HRO := hide hro
          have j1 : (0 : Int) ≤ (f : Int) := by omega
          have j2 : (f : Int) < (n : Int) := by omega
          have j3 : (0 : Int) ≤ (k : Int) := by omega
          have j4 : (k : Int) < (n : Int) := by omega
          clear hmat hro
          by_cases hb : Mk f k = true
          · go_wp2
            go_loopw [25] (fun i wr => ∃ m : Nat, m ≤ n ∧ i = .int .i64 m ∧ Mat wr g n R (midM Mk k f m) ∧ RowsOnly w wr n R) (fun i _ => n - (intOf i).toNat)
            case atStart => exact ⟨0, Nat.zero_le _, rfl, HMAT.out, HRO.out⟩
            case round =>
              clear HMAT HRO o1 o2 x1
              obtain ⟨m, hm, rfl, hmat, hro⟩ := hrel
              by_cases hml : m < n
              · have o1 := hmat.outer f hfl
                have o2 := hmat.outer k hlt
                have x2 := hmat.cell (i := k) (j := m) hlt hml
                rw [midM_between Mk k f m m (by omega)] at x2
                have x3 := hmat.cell (i := f) (j := m) hfl hml
                have f3 := hmat.froz hfl m
                have HMAT := hide hmat
                have HRO := hide hro
                have j5 : (0 : Int) ≤ (m : Int) := by omega
                have j6 : (m : Int) < (n : Int) := by omega
                clear hmat hro
                by_cases hc : Mk k m = true
                · go_wp2
                  go_roundw
                  case rel => exact ⟨m + 1, by omega, by go_num, by rw [← midM_set Mk k f m hb hc]; exact HMAT.out.set hfl m true, HRO.out.set hfl m _⟩
                  case measure => simp [intOf]; omega
                · have hc' : Mk k m = false := by simpa using hc
                  clear hc
                  go_wp2
                  go_roundw
                  case rel => exact ⟨m + 1, by omega, by go_num, by rw [← midM_skip Mk k f m hc']; exact HMAT.out, HRO.out⟩
                  case measure => simp [intOf]; omega
              · have HMAT := hide hmat
                have HRO := hide hro
                clear hmat hro
                go_wp2
                go_roundw
                case rel => exact ⟨f + 1, by omega, by go_num, HMAT.out.congr (midM_done Mk n k f m (by omega)), HRO.out⟩
                case measure => simp [intOf]; omega
          · have hb' : Mk f k = false := by simpa using hb
            clear hb
            go_wp2
            go_roundw
            case rel => exact ⟨f + 1, by omega, by go_num, HMAT.out.congr (midM_pass Mk n k f hb'), HRO.out⟩
            case measure => simp [intOf]; omega
        · have HMAT := hide hmat
          have HRO := hide hro
          clear hmat hro
          go_wp2
          go_roundw
          case rel => exact ⟨k + 1, by omega, by go_num, by rw [HW.out]; exact HMAT.out.congr (midM_all Mk n k f (by omega)), HRO.out⟩
          case measure => simp [intOf]; omega
    · have ek : k = n := by omega
      subst ek
      have HMAT := hide hmat
      have HRO := hide hro
      clear hmat hro
      go_wp2
      go_end0
      exact ⟨rfl, HMAT.out, HRO.out⟩
theorem Try.infoBools : (Try.prog.info? 113).map (fun i => (i.zero, i.size, i.bytes)) = some (some (.slice none 0 0), 1, 24) := by kernel_rfl
theorem Mat.lt {w : World} {g n : Nat} {R : Nat → Nat} {M : Mx} (h : Mat w g n R M) (hn : 0 < n) : g < w.heap.size := World.block_lt_of_cell? w _ (h.outer 0 hn)
theorem Mat.alloc {w : World} {g n : Nat} {R : Nat → Nat} {M : Mx} (h : Mat w g n R M) (o : Obj) : Mat (w.alloc o) g n R M := by
  refine ⟨fun i hi => ?_, fun i hi => (h.rows i hi).alloc o, h.inj, h.ne⟩
  rw [← h.outer i hi]
  exact World.cell?_alloc_past _ _ _ (h.lt (by omega))
theorem RowsOnly.below {w w' : World} {B n : Nat} {R : Nat → Nat} (h : RowsOnly w w' n R) (hR : ∀ i, i < n → B ≤ R i) : Below B w w' :=
  ⟨h.os, h.tape, h.output, by rw [h.size]; exact Nat.le_refl _, fun k hk => h.block k (fun i hi => by have := hR i hi; omega)⟩
structure HMat (w : World) (g n k : Nat) (R : Nat → Nat) (M : Mx) : Prop where
  outer : w.rowIs g 113 n (fun i => if i < k then .slice (some ⟨R i, 0, none⟩) n n else .slice none 0 0)
  rows : ∀ i, i < k → w.rowIs (R i) 4 n (fun j => .bool (M i j))
  inj : ∀ i j, i < k → j < k → R i = R j → i = j
  gt : ∀ i, i < k → g < R i
  le : k ≤ n
theorem HMat.alloc {w : World} {g n k : Nat} {R : Nat → Nat} {M : Mx} (h : HMat w g n k R M) (o : Obj) : HMat (w.alloc o) g n k R M :=
  ⟨h.outer.alloc o, fun i hi => (h.rows i hi).alloc o, h.inj, h.gt, h.le⟩
theorem HMat.drewN {w : World} {g n k : Nat} {R : Nat → Nat} {M : Mx} (h : HMat w g n k R M) (m : Nat) : HMat (w.drewN m) g n k R M :=
  ⟨h.outer.of_block rfl, fun i hi => (h.rows i hi).of_block rfl, h.inj, h.gt, h.le⟩
theorem HMat.drew {w : World} {g n k : Nat} {R : Nat → Nat} {M : Mx} (h : HMat w g n k R M) : HMat w.drew g n k R M :=
  ⟨h.outer.of_block rfl, fun i hi => (h.rows i hi).of_block rfl, h.inj, h.gt, h.le⟩
theorem HMat.mat {w : World} {g n : Nat} {R : Nat → Nat} {M : Mx} (h : HMat w g n n R M) : Mat w g n R M :=
  ⟨fun i hi => (h.outer.cell hi).trans (by simp [hi]), h.rows, h.inj, fun i hi => by have := h.gt i hi; omega⟩
theorem HMat.lt {w : World} {g n k : Nat} {R : Nat → Nat} {M : Mx} (h : HMat w g n k R M) : g < w.heap.size := World.rowIs.lt h.outer
theorem HMat.slice {w : World} {g n k : Nat} {R : Nat → Nat} {M : Mx} (h : HMat w g n k R M) {i : Nat} (hi : i < k) : w.cell? ⟨g, i, none⟩ = some (.slice (some ⟨R i, 0, none⟩) n n) := (h.outer.cell (Nat.lt_of_lt_of_le hi h.le)).trans (by simp [hi])
theorem HMat.set {w : World} {g n k : Nat} {R : Nat → Nat} {M : Mx} (h : HMat w g n k R M) {a : Nat} (ha : a < k) (b : Nat) (v : Bool) : HMat (w.setCell ⟨R a, b, none⟩ (.bool v)) g n k R (upd M a b v) := by
  refine ⟨h.outer.setOther (a := ⟨R a, b, none⟩) (fun e => by have e' : g = R a := e; have := h.gt a ha; omega) _, fun i hi => ?_, h.inj, h.gt, h.le⟩
  by_cases e : i = a
  · subst e
    refine ((h.rows i hi).set b (.bool v)).congr (fun j _ => ?_)
    by_cases ej : j = b
    · subst ej; simp [upd]
    · simp [upd, ej]
  · refine ((h.rows i hi).setOther (a := ⟨R a, b, none⟩) (fun e2 => e (h.inj i a hi ha e2)) (.bool v)).congr (fun j _ => ?_)
    simp [upd, e]
theorem HMat.push {w w' : World} {g n k r : Nat} {R : Nat → Nat} {M : Mx} (h : HMat w g n k R M) (hk : k < n) (hr : w.heap.size ≤ r)
    (hg : w'.rowIs g 113 n (fun i => if i = k then .slice (some ⟨r, 0, none⟩) n n else if i < k then .slice (some ⟨R i, 0, none⟩) n n else .slice none 0 0))
    (ho : ∀ b, b < w.heap.size → b ≠ g → w'.heap[b]? = w.heap[b]?) (hn : w'.rowIs r 4 n (fun _ => .bool false)) (hM : ∀ j, M k j = false) :
    HMat w' g n (k + 1) (fun i => if i = k then r else R i) M := by
  have hlt : ∀ i, i < k → R i < w.heap.size := fun i hi => World.rowIs.lt (h.rows i hi)
  refine ⟨hg.congr (fun i hi => ?_), fun i hi => ?_, fun i j hi hj e => ?_, fun i hi => ?_, hk⟩
  · by_cases e : i = k
    · subst e; simp
    · by_cases h2 : i < k
      · rw [if_neg e, if_pos h2, if_pos (by omega), if_neg e]
      · rw [if_neg e, if_neg h2, if_neg (by omega)]
  · by_cases e : i = k
    · subst e
      simp only [if_true]
      exact hn.congr (fun j _ => by rw [hM j])
    · simp only [if_neg e]
      exact (h.rows i (by omega)).of_block (ho _ (hlt i (by omega)) (by have := h.gt i (by omega); omega))
  · by_cases e1 : i = k <;> by_cases e2 : j = k
    · omega
    · simp only [if_pos e1, if_neg e2] at e; have := hlt j (by omega); omega
    · simp only [if_neg e1, if_pos e2] at e; have := hlt i (by omega); omega
    · simp only [if_neg e1, if_neg e2] at e; exact h.inj i j (by omega) (by omega) e
  · by_cases e : i = k
    · simp only [if_pos e]; have := h.lt; omega
    · simp only [if_neg e]; exact h.gt i (by omega)
theorem kindAt_eq {ds : List Dc} {b : Nat} (h : b < ds.length) : kindAt ds (b : Int) = ds[b].kind := by
  unfold kindAt
  rw [Int.toNat_natCast, List.getD_eq_getElem?_getD, List.getElem?_eq_getElem h]; rfl
end Go.Proofs.Ytmndgoapkmhglab
