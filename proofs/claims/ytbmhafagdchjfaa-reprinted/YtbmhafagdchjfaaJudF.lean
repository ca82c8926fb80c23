import Derived.Test.YtbmhafagdchjfaaJudE
namespace Go.Proofs.Ytbmhafagdchjfaa
open Go.RowKit
attribute [local go_sem ↓] Go.wp_at_zero Go.wp_at_succ

theorem Try.infoBools : (Try.prog.info? 102).map (fun i => (i.zero, i.size, i.bytes)) = some (some (.slice none 0 0), 1, 24) := by kernel_rfl

theorem Mat.lt {w : World} {g n : Nat} {R : Nat → Nat} {M : Mx} (h : Mat w g n R M) (hn : 0 < n) : g < w.heap.size := World.block_lt_of_cell? w _ (h.outer 0 hn)
theorem Mat.alloc {w : World} {g n : Nat} {R : Nat → Nat} {M : Mx} (h : Mat w g n R M) (o : Obj) : Mat (w.alloc o) g n R M := by
  refine ⟨fun i hi => ?_, fun i hi => (h.rows i hi).alloc o, h.inj, h.ne⟩
  rw [← h.outer i hi]
  exact World.cell?_alloc_past _ _ _ (h.lt (by omega))
theorem Mat.drew {w : World} {g n : Nat} {R : Nat → Nat} {M : Mx} (h : Mat w g n R M) : Mat w.drew g n R M := ⟨h.outer, h.rows, h.inj, h.ne⟩
theorem Mat.drewN {w : World} {g n : Nat} {R : Nat → Nat} {M : Mx} (h : Mat w g n R M) (k : Nat) : Mat (w.drewN k) g n R M := h.keep rfl (fun _ _ => rfl)

set_option maxHeartbeats 1000000 in
set_option maxRecDepth 100000 in
theorem square_any (w : World) (n : Nat) (hn : n ≤ 1501) :
    Calls Try.prog 69 #[.int .i64 (n : Int)] w fun e w' => e = .returned (.slice (some ⟨w.heap.size, 0, none⟩) n n) ∧ Mat w' w.heap.size n (fun i => w.heap.size + 1 + i) noM ∧ Below w.heap.size w w' ∧ w'.heap.size = w.heap.size + 1 + n := by
  have hm1 := run_make_row' (P := Try.prog) 99 102 (.slice none 0 0) 24 Try.underlying99 Try.infoBools rfl .i64 .i64 n (by omega) (by omega)
  have hm2 := run_make_row' (P := Try.prog) 102 4 (.bool false) 1 Try.underlying102 Try.infoBool rfl .i64 .i64 n (by omega) (by omega)
  have HR0 := hide (World.rowIs_made w (.slice none 0 0) n 102)
  go_enter Try.func69, Try.ntmps69
  go_wp2
  go_loopw [9] (fun i wr => ∃ k : Nat, k ≤ n ∧ i = .int .i64 k ∧ wr.heap.size = w.heap.size + 1 + k ∧ Below w.heap.size w wr ∧
      wr.rowIs w.heap.size 102 n (fun i => if i < k then .slice (some ⟨w.heap.size + 1 + i, 0, none⟩) n n else .slice none 0 0) ∧ (∀ i, i < k → wr.rowIs (w.heap.size + 1 + i) 4 n (fun _ => .bool false))) (fun i _ => n - (intOf i).toNat)
  case atStart => exact ⟨0, Nat.zero_le _, rfl, by simp, (Below.refl _ _).alloc (Nat.le_refl _) _, HR0.out.congr (fun i _ => by simp), fun i hi => by omega⟩
  case round =>
    obtain ⟨k, hk, rfl, hsz, hbel, hout, hrows⟩ := hrel
    by_cases hlt : k < n
    · have j1 : (0 : Int) ≤ (k : Int) := by omega
      have j2 : (k : Int) < (n : Int) := by omega
      have lg : w.heap.size < wr.heap.size := by omega
      have x0 : ∀ o, (wr.alloc o).cell? ⟨w.heap.size, k, none⟩ = some (.slice none 0 0) := fun o => (World.cell?_alloc_past _ _ _ lg).trans ((hout.cell hlt).trans (by simp))
      have f0 : ∀ o, (wr.alloc o).frozen? ⟨w.heap.size, k, none⟩ = false := fun o => (World.frozen?_alloc_past _ _ _ lg).trans (hout.frozen k)
      have HSZ := hide hsz
      have HOUT := hide hout
      have HROWS := hide hrows
      clear hsz hout hrows
      go_wp2
      go_roundw
      case rel =>
        have e1 : wr.heap.size = w.heap.size + 1 + k := HSZ.out
        refine ⟨k + 1, by omega, by go_num, by simp; omega, ?_, ?_, ?_⟩
        · first | exact (hbel.alloc (by omega) _).setCell (Nat.le_refl _) _ | exact (hbel.setCell (Nat.le_refl _) _).alloc (by simp; omega) _
        · have h1 := (HOUT.out.set k (.slice (some ⟨wr.heap.size, 0, none⟩) n n)).alloc (.cells (madeCells #[.bool false] n) 4)
          refine World.rowIs.congr ?_ (f := (fun j => if j = k then .slice (some ⟨wr.heap.size, 0, none⟩) n n else if j < k then .slice (some ⟨w.heap.size + 1 + j, 0, none⟩) n n else .slice none 0 0)) (fun i hi => ?_)
          · exact h1
          · by_cases e : i = k
            · subst e; rw [if_pos rfl, if_pos (by omega), e1]
            · rw [if_neg e]
              by_cases h2 : i < k
              · rw [if_pos h2, if_pos (by omega)]
              · rw [if_neg h2, if_neg (by omega)]
        · intro i hi
          by_cases e : i = k
          · subst e
            have h2 := World.rowIs_made (wr.setCell ⟨w.heap.size, i, none⟩ (.slice (some ⟨wr.heap.size, 0, none⟩) n n)) (.bool false) n 4
            simp only [World.size_setCell] at h2
            rw [← e1]
            exact h2
          · exact ((HROWS.out i (by omega)).setOther (a := ⟨w.heap.size, k, none⟩) (by show w.heap.size + 1 + i ≠ w.heap.size; omega) _).alloc _
      case measure => simp [intOf]; omega
    · have ek : k = n := by omega
      subst ek
      have HM : Hid (Mat wr w.heap.size k (fun i => w.heap.size + 1 + i) noM) := hide ⟨fun i hi => (hout.cell hi).trans (by simp [hi]), fun i hi => hrows i hi, fun i j _ _ e => by omega, fun i _ => by omega⟩
      have HSZ := hide hsz
      clear hsz hout hrows
      go_wp2
      go_ret
      exact ⟨rfl, HM.out, hbel, HSZ.out⟩

end Go.Proofs.Ytbmhafagdchjfaa
