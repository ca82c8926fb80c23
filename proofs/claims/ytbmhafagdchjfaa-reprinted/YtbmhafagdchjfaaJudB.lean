import Derived.Test.YtbmhafagdchjfaaJudA
namespace Go.Proofs.Ytbmhafagdchjfaa
open Go.RowKit
attribute [local go_sem ↓] Go.wp_at_zero Go.wp_at_succ

set_option maxHeartbeats 1000000 in
set_option maxRecDepth 100000 in
theorem fits_any (w : World) (q : Nat) (ds : List Dc) (ns : List Nd) (vd vn : Value) (h : ProgAt w q ds ns vd vn) (n : Nd) (truth : Bool) (hk : n.kind ≤ 6) (hd : n.kind = 2 → 0 ≤ n.decl ∧ n.decl < (ds.length : Int)) :
    Calls Try.prog 67 #[.pointer (some ⟨q, 0, none⟩), n.val, .bool truth] w fun e w' => e = .returned (.bool (fitsF ds n truth)) ∧ Below w.heap.size w w' := by
  have hc : n.kind = 0 ∨ n.kind = 1 ∨ n.kind = 2 ∨ n.kind = 3 ∨ n.kind = 4 ∨ n.kind = 5 ∨ n.kind = 6 := by omega
  clear hk
  rcases hc with hk | hk | hk | hk | hk | hk | hk
  · have HF : Hid (fitsF ds n truth = !truth) := hide (by unfold fitsF; rw [if_pos hk])
    have q0 : ((n.kind : Int) == 0) = true := by rw [hk]; rfl
    clear hk hd h
    go_enter Try.func67, Try.ntmps67
    go_wp2
    go_ret
    exact ⟨by rw [HF.out]; rfl, (Below.refl _ _).alloc (Nat.le_refl _) _⟩
  · have HF : Hid (fitsF ds n truth = truth) := hide (by unfold fitsF; rw [if_neg (by omega), if_pos (.inl hk)])
    have q0 : ((n.kind : Int) == 0) = false := by rw [hk]; rfl
    have q1 : ((n.kind : Int) == 1) = true := by rw [hk]; rfl
    clear hk hd h
    go_enter Try.func67, Try.ntmps67
    go_wp2
    go_ret
    exact ⟨by rw [HF.out]; rfl, (Below.refl _ _).alloc (Nat.le_refl _) _⟩
  · obtain ⟨hd1, hd2⟩ := hd hk
    obtain ⟨d, hdd⟩ : ∃ d : Nat, n.decl = (d : Int) := ⟨n.decl.toNat, by omega⟩
    have hdl : d < ds.length := by omega
    obtain ⟨a, ha⟩ : ∃ a, a = ds[d]'hdl := ⟨_, rfl⟩
    have hka : kindAt ds n.decl = a.kind := by unfold kindAt; rw [hdd, ha]; simp [hdl]
    have HF : Hid (fitsF ds n truth = (truth == (a.kind == 2))) := hide (by unfold fitsF; rw [if_neg (by omega), if_neg (by omega), if_pos hk, hka])
    have q0 : ((n.kind : Int) == 0) = false := by rw [hk]; rfl
    have q1 : ((n.kind : Int) == 1) = false := by rw [hk]; rfl
    have q3 : ((n.kind : Int) == 3) = false := by rw [hk]; rfl
    have q2 : ((n.kind : Int) == 2) = true := by rw [hk]; rfl
    have c0 : ∀ o, (w.alloc o).cell? ⟨q, 0, none⟩ = some vd := fun o => (World.cell?_alloc_past _ _ _ h.lt).trans h.c0
    obtain ⟨av, cap, rfl, hsh⟩ := own_shape h.decls
    obtain ⟨g, rfl, _, hg2⟩ := hsh (by omega)
    have x0 : ∀ o, (w.alloc o).cell? ⟨g, d * 7, none⟩ = some (.int .i64 (a.kind : Int)) := fun o => (dc_later h.decls ((Below.refl _ _).alloc (Nat.le_refl _) o) hg2 hdl a ha).1
    have j1 : (0 : Int) ≤ (d : Int) := by omega
    have j2 : (d : Int) < (ds.length : Int) := by omega
    obtain ⟨nk, np, nv, nn, nde, no, na, nb, nc, ndl, nbh⟩ := n
    simp only at hdd hk q0 q1 q2 q3
    subst hdd
    have hkk : ((a.kind : Int) == 2) = (a.kind == 2) := by
      by_cases e : a.kind = 2
      · rw [e]; rfl
      · have e1 : ((a.kind : Int) == 2) = false := by rw [beq_eq_false_iff_ne]; omega
        have e2 : (a.kind == 2) = false := by simpa using e
        rw [e1, e2]
    clear hk hd h hd1 hd2 ha hka hsh
    go_enter Try.func67, Try.ntmps67
    go_wp2_with fail
    go_quiet (fail)
    go_wp2
    go_ret
    exact ⟨by rw [HF.out]; rfl, below_drewN ((Below.refl _ _).alloc (Nat.le_refl _) _) _⟩
  · have HF : Hid (fitsF ds n truth = truth) := hide (by unfold fitsF; rw [if_neg (by omega), if_pos (.inr hk)])
    have q0 : ((n.kind : Int) == 0) = false := by rw [hk]; rfl
    have q1 : ((n.kind : Int) == 1) = false := by rw [hk]; rfl
    have q3 : ((n.kind : Int) == 3) = true := by rw [hk]; rfl
    clear hk hd h
    go_enter Try.func67, Try.ntmps67
    go_wp2
    go_ret
    exact ⟨by rw [HF.out]; rfl, (Below.refl _ _).alloc (Nat.le_refl _) _⟩
  · have HF : Hid (fitsF ds n truth = true) := hide (by unfold fitsF; rw [if_neg (by omega), if_neg (by omega), if_neg (by omega), if_neg (by omega)])
    have q0 : ((n.kind : Int) == 0) = false := by rw [hk]; rfl
    have q1 : ((n.kind : Int) == 1) = false := by rw [hk]; rfl
    have q3 : ((n.kind : Int) == 3) = false := by rw [hk]; rfl
    have q2 : ((n.kind : Int) == 2) = false := by rw [hk]; rfl
    have q6 : ((n.kind : Int) == 6) = false := by rw [hk]; rfl
    clear hk hd h
    go_enter Try.func67, Try.ntmps67
    go_wp2
    go_ret
    exact ⟨by rw [HF.out]; rfl, (Below.refl _ _).alloc (Nat.le_refl _) _⟩
  · have HF : Hid (fitsF ds n truth = true) := hide (by unfold fitsF; rw [if_neg (by omega), if_neg (by omega), if_neg (by omega), if_neg (by omega)])
    have q0 : ((n.kind : Int) == 0) = false := by rw [hk]; rfl
    have q1 : ((n.kind : Int) == 1) = false := by rw [hk]; rfl
    have q3 : ((n.kind : Int) == 3) = false := by rw [hk]; rfl
    have q2 : ((n.kind : Int) == 2) = false := by rw [hk]; rfl
    have q6 : ((n.kind : Int) == 6) = false := by rw [hk]; rfl
    clear hk hd h
    go_enter Try.func67, Try.ntmps67
    go_wp2
    go_ret
    exact ⟨by rw [HF.out]; rfl, (Below.refl _ _).alloc (Nat.le_refl _) _⟩
  · have HF : Hid (fitsF ds n truth = (truth == makesT n.op)) := hide (by unfold fitsF; rw [if_neg (by omega), if_neg (by omega), if_neg (by omega), if_pos hk])
    have q0 : ((n.kind : Int) == 0) = false := by rw [hk]; rfl
    have q1 : ((n.kind : Int) == 1) = false := by rw [hk]; rfl
    have q3 : ((n.kind : Int) == 3) = false := by rw [hk]; rfl
    have q2 : ((n.kind : Int) == 2) = false := by rw [hk]; rfl
    have q6 : ((n.kind : Int) == 6) = true := by rw [hk]; rfl
    clear hk hd h
    go_enter Try.func67, Try.ntmps67
    go_wp2_with (go_at_call 88; refine (makesTruth_any _ _).mono ?_; rintro e w' ⟨rfl, rfl⟩)
    go_ret
    exact ⟨by rw [HF.out]; rfl, (Below.refl _ _).alloc (Nat.le_refl _) _⟩

end Go.Proofs.Ytbmhafagdchjfaa
