import Derived.Test.YtghomdecppfonaaDoorM13JudE
namespace Go.Proofs.YtghomdecppfonaaDoor
open Go.RowKit
attribute [local go_sem ↓] Go.wp_at_zero Go.wp_at_succ

theorem Tryd.infoBools : (Tryd.prog.info? 87).map (fun i => (i.zero, i.size, i.bytes)) = some (some (.slice none 0 0), 1, 24) := by kernel_rfl

theorem Mat.lt {w : World} {g n : Nat} {R : Nat → Nat} {M : Mx} (h : Mat w g n R M) (hn : 0 < n) : g < w.heap.size := World.block_lt_of_cell? w _ (h.outer 0 hn)
theorem Mat.alloc {w : World} {g n : Nat} {R : Nat → Nat} {M : Mx} (h : Mat w g n R M) (o : Obj) : Mat (w.alloc o) g n R M := by
  refine ⟨fun i hi => ?_, fun i hi => (h.rows i hi).alloc o, h.inj, h.ne⟩
  rw [← h.outer i hi]
  exact World.cell?_alloc_past _ _ _ (h.lt (by omega))
theorem Mat.drew {w : World} {g n : Nat} {R : Nat → Nat} {M : Mx} (h : Mat w g n R M) : Mat w.drew g n R M := ⟨h.outer, h.rows, h.inj, h.ne⟩
theorem Mat.drewN {w : World} {g n : Nat} {R : Nat → Nat} {M : Mx} (h : Mat w g n R M) (k : Nat) : Mat (w.drewN k) g n R M := h.keep rfl (fun _ _ => rfl)

set_option maxHeartbeats 1000000 in
set_option maxRecDepth 100000 in
theorem square_any (w : World) (n : Nat) (hn : n ≤ 1501) :
    Calls Tryd.prog 56 #[.int .i64 (n : Int)] w fun e w' => e = .returned (.slice (some ⟨w.heap.size, 0, none⟩) n n) ∧ Mat w' w.heap.size n (fun i => w.heap.size + 1 + i) noM ∧ Below w.heap.size w w' ∧ w'.heap.size = w.heap.size + 1 + n := by
  have hm1 := run_make_row' (P := Tryd.prog) 84 87 (.slice none 0 0) 24 Tryd.underlying84 Tryd.infoBools rfl .i64 .i64 n (by omega) (by omega)
  have hm2 := run_make_row' (P := Tryd.prog) 87 4 (.bool false) 1 Tryd.underlying87 Tryd.infoBool rfl .i64 .i64 n (by omega) (by omega)
  have HR0 := hide (World.rowIs_made w (.slice none 0 0) n 87)
  go_enter Tryd.func56, Tryd.ntmps56
  go_wp2
  go_loopw [9] (fun i wr => ∃ k : Nat, k ≤ n ∧ i = .int .i64 k ∧ wr.heap.size = w.heap.size + 1 + k ∧ Below w.heap.size w wr ∧
      wr.rowIs w.heap.size 87 n (fun i => if i < k then .slice (some ⟨w.heap.size + 1 + i, 0, none⟩) n n else .slice none 0 0) ∧ (∀ i, i < k → wr.rowIs (w.heap.size + 1 + i) 4 n (fun _ => .bool false))) (fun i _ => n - (intOf i).toNat)
  case atStart => exact ⟨0, Nat.zero_le _, rfl, by simp, (Below.refl _ _).alloc (Nat.le_refl _) _, HR0.out.congr (fun i _ => by simp), fun i hi => by omega⟩
  case round =>
    obtain ⟨k, hk, rfl, hsz, hbel, hout, hrows⟩ := hrel
    by_cases hlt : k < n
    · have j1 : (0 : Int) ≤ (k : Int) := by omega
      have j2 : (k : Int) < (n : Int) := by omega
      have lg : w.heap.size < wr.heap.size := by omega
      have x0 : ∀ o, (wr.alloc o).cell? ⟨w.heap.size, k, none⟩ = some (.slice none 0 0) := fun o => (World.cell?_alloc_past _ _ _ lg).trans ((hout.cell hlt).trans (by simp))
      have f0 : ∀ o, (wr.alloc o).frozen? ⟨w.heap.size, k, none⟩ = false := fun o => (World.frozen?_alloc_past _ _ _ lg).trans (hout.frozen k)
      have HSZ := hide hsz
      have HOUT := hide hout
      have HROWS := hide hrows
      clear hsz hout hrows
      go_wp2
      go_roundw
      case rel =>
        have e1 : wr.heap.size = w.heap.size + 1 + k := HSZ.out
        refine ⟨k + 1, by omega, by go_num, by simp; omega, ?_, ?_, ?_⟩
        · first | exact (hbel.alloc (by omega) _).setCell (Nat.le_refl _) _ | exact (hbel.setCell (Nat.le_refl _) _).alloc (by simp; omega) _
        · have h1 := (HOUT.out.set k (.slice (some ⟨wr.heap.size, 0, none⟩) n n)).alloc (.cells (madeCells #[.bool false] n) 4)
          refine World.rowIs.congr ?_ (f := (fun j => if j = k then .slice (some ⟨wr.heap.size, 0, none⟩) n n else if j < k then .slice (some ⟨w.heap.size + 1 + j, 0, none⟩) n n else .slice none 0 0)) (fun i hi => ?_)
          · exact h1
          · by_cases e : i = k
            · subst e; rw [if_pos rfl, if_pos (by omega), e1]
            · rw [if_neg e]
              by_cases h2 : i < k
              · rw [if_pos h2, if_pos (by omega)]
              · rw [if_neg h2, if_neg (by omega)]
        · intro i hi
          by_cases e : i = k
          · subst e
            have h2 := World.rowIs_made (wr.setCell ⟨w.heap.size, i, none⟩ (.slice (some ⟨wr.heap.size, 0, none⟩) n n)) (.bool false) n 4
            simp only [World.size_setCell] at h2
            rw [← e1]
            exact h2
          · exact ((HROWS.out i (by omega)).setOther (a := ⟨w.heap.size, k, none⟩) (by show w.heap.size + 1 + i ≠ w.heap.size; omega) _).alloc _
      case measure => simp [intOf]; omega
    · have ek : k = n := by omega
      subst ek
      have HM : Hid (Mat wr w.heap.size k (fun i => w.heap.size + 1 + i) noM) := hide ⟨fun i hi => (hout.cell hi).trans (by simp [hi]), fun i hi => hrows i hi, fun i j _ _ e => by omega, fun i _ => by omega⟩
      have HSZ := hide hsz
      clear hsz hout hrows
      go_wp2
      go_ret
      exact ⟨rfl, HM.out, hbel, HSZ.out⟩

end Go.Proofs.YtghomdecppfonaaDoor

namespace Go.Proofs.YtghomdecppfonaaDoor
open Go.RowKit
attribute [local go_sem ↓] Go.wp_at_zero Go.wp_at_succ

theorem RowsOnly.below {w w' : World} {B n : Nat} {R : Nat → Nat} (h : RowsOnly w w' n R) (hR : ∀ i, i < n → B ≤ R i) : Below B w w' :=
  ⟨h.os, h.tape, h.output, by rw [h.size]; exact Nat.le_refl _, fun k hk => h.block k (fun i hi => by have := hR i hi; omega)⟩

/-- a square whose first k rows are made. -/
structure HMat (w : World) (g n k : Nat) (R : Nat → Nat) (M : Mx) : Prop where
  outer : w.rowIs g 87 n (fun i => if i < k then .slice (some ⟨R i, 0, none⟩) n n else .slice none 0 0)
  rows : ∀ i, i < k → w.rowIs (R i) 4 n (fun j => .bool (M i j))
  inj : ∀ i j, i < k → j < k → R i = R j → i = j
  gt : ∀ i, i < k → g < R i
  le : k ≤ n

theorem HMat.alloc {w : World} {g n k : Nat} {R : Nat → Nat} {M : Mx} (h : HMat w g n k R M) (o : Obj) : HMat (w.alloc o) g n k R M :=
  ⟨h.outer.alloc o, fun i hi => (h.rows i hi).alloc o, h.inj, h.gt, h.le⟩
theorem HMat.drewN {w : World} {g n k : Nat} {R : Nat → Nat} {M : Mx} (h : HMat w g n k R M) (m : Nat) : HMat (w.drewN m) g n k R M :=
  ⟨h.outer.of_block rfl, fun i hi => (h.rows i hi).of_block rfl, h.inj, h.gt, h.le⟩
theorem HMat.drew {w : World} {g n k : Nat} {R : Nat → Nat} {M : Mx} (h : HMat w g n k R M) : HMat w.drew g n k R M :=
  ⟨h.outer.of_block rfl, fun i hi => (h.rows i hi).of_block rfl, h.inj, h.gt, h.le⟩
theorem HMat.mat {w : World} {g n : Nat} {R : Nat → Nat} {M : Mx} (h : HMat w g n n R M) : Mat w g n R M :=
  ⟨fun i hi => (h.outer.cell hi).trans (by simp [hi]), h.rows, h.inj, fun i hi => by have := h.gt i hi; omega⟩
theorem HMat.lt {w : World} {g n k : Nat} {R : Nat → Nat} {M : Mx} (h : HMat w g n k R M) : g < w.heap.size := World.rowIs.lt h.outer
theorem HMat.slice {w : World} {g n k : Nat} {R : Nat → Nat} {M : Mx} (h : HMat w g n k R M) {i : Nat} (hi : i < k) : w.cell? ⟨g, i, none⟩ = some (.slice (some ⟨R i, 0, none⟩) n n) := (h.outer.cell (Nat.lt_of_lt_of_le hi h.le)).trans (by simp [hi])
theorem HMat.set {w : World} {g n k : Nat} {R : Nat → Nat} {M : Mx} (h : HMat w g n k R M) {a : Nat} (ha : a < k) (b : Nat) (v : Bool) : HMat (w.setCell ⟨R a, b, none⟩ (.bool v)) g n k R (upd M a b v) := by
  refine ⟨h.outer.setOther (a := ⟨R a, b, none⟩) (fun e => by have e' : g = R a := e; have := h.gt a ha; omega) _, fun i hi => ?_, h.inj, h.gt, h.le⟩
  by_cases e : i = a
  · subst e
    refine ((h.rows i hi).set b (.bool v)).congr (fun j _ => ?_)
    by_cases ej : j = b
    · subst ej; simp [upd]
    · simp [upd, ej]
  · refine ((h.rows i hi).setOther (a := ⟨R a, b, none⟩) (fun e2 => e (h.inj i a hi ha e2)) (.bool v)).congr (fun j _ => ?_)
    simp [upd, e]
/-- one more row. -/
theorem HMat.push {w w' : World} {g n k r : Nat} {R : Nat → Nat} {M : Mx} (h : HMat w g n k R M) (hk : k < n) (hr : w.heap.size ≤ r)
    (hg : w'.rowIs g 87 n (fun i => if i = k then .slice (some ⟨r, 0, none⟩) n n else if i < k then .slice (some ⟨R i, 0, none⟩) n n else .slice none 0 0))
    (ho : ∀ b, b < w.heap.size → b ≠ g → w'.heap[b]? = w.heap[b]?) (hn : w'.rowIs r 4 n (fun _ => .bool false)) (hM : ∀ j, M k j = false) :
    HMat w' g n (k + 1) (fun i => if i = k then r else R i) M := by
  have hlt : ∀ i, i < k → R i < w.heap.size := fun i hi => World.rowIs.lt (h.rows i hi)
  refine ⟨hg.congr (fun i hi => ?_), fun i hi => ?_, fun i j hi hj e => ?_, fun i hi => ?_, hk⟩
  · by_cases e : i = k
    · subst e; simp
    · by_cases h2 : i < k
      · rw [if_neg e, if_pos h2, if_pos (by omega), if_neg e]
      · rw [if_neg e, if_neg h2, if_neg (by omega)]
  · by_cases e : i = k
    · subst e
      simp only [if_true]
      exact hn.congr (fun j _ => by rw [hM j])
    · simp only [if_neg e]
      exact (h.rows i (by omega)).of_block (ho _ (hlt i (by omega)) (by have := h.gt i (by omega); omega))
  · by_cases e1 : i = k <;> by_cases e2 : j = k
    · omega
    · simp only [if_pos e1, if_neg e2] at e; have := hlt j (by omega); omega
    · simp only [if_neg e1, if_pos e2] at e; have := hlt i (by omega); omega
    · simp only [if_neg e1, if_neg e2] at e; exact h.inj i j (by omega) (by omega) e
  · by_cases e : i = k
    · simp only [if_pos e]; have := h.lt; omega
    · simp only [if_neg e]; exact h.gt i (by omega)

theorem markSeg_row (ds : List Dc) (i : Nat) : ∀ (l : List Nd) (M : Mx) (a b : Nat), a ≠ i → markSeg ds i l M a b = M a b := by
  intro l
  induction l with
  | nil => intro M a b _; rfl
  | cons n l ih =>
    intro M a b h
    simp only [markSeg]
    rw [ih _ a b h]
    split
    · unfold upd; rw [if_neg (fun e => h e.1)]
    · rfl
theorem kindAt_eq {ds : List Dc} {b : Nat} (h : b < ds.length) : kindAt ds (b : Int) = ds[b].kind := by
  unfold kindAt
  rw [Int.toNat_natCast, List.getD_eq_getElem?_getD, List.getElem?_eq_getElem h]; rfl

end Go.Proofs.YtghomdecppfonaaDoor
