import Derived.Test.YtmndgoapkmhglaaDoorM00Cut
import Derived.Test.YtmndgoapkmhglaaDoorM28ParO
namespace Go.Proofs.YtmndgoapkmhglaaDoor
open Go.RowKit
attribute [local go_sem ↓] Go.wp_at_zero Go.wp_at_succ
attribute [local go_sem] Tryd.fieldTok0 Tryd.fieldTok1 Tryd.fieldTok2

/-- A PROGRAM IN MEMORY, behind a pointer. -/
structure ProgAt (w : World) (q : Nat) (ds : List Dc) (ns : List Nd) (vd vn : Value) : Prop where
  lt : q < w.heap.size
  c0 : w.cell? ⟨q, 0, none⟩ = some vd
  c1 : w.cell? ⟨q, 1, none⟩ = some vn
  decls : w.ownsRow 0 96 7 vd ds.length (dcCells ds)
  nodes : w.ownsRow 0 93 11 vn ns.length (ndCells ns)

theorem ProgAt.below {w w' : World} {q : Nat} {ds : List Dc} {ns : List Nd} {vd vn : Value} (h : ProgAt w q ds ns vd vn) (hb : Below w.heap.size w w') : ProgAt w' q ds ns vd vn :=
  ⟨Nat.lt_of_lt_of_le h.lt hb.size, (hb.cell h.lt).trans h.c0, (hb.cell h.lt).trans h.c1, bel_own h.decls hb, bel_own h.nodes hb⟩

def optVal (o : Option Nat) : Value := .tuple #[.int .i64 ((o.getD 0 : Nat) : Int), .bool o.isSome]
theorem opt_some {o : Option Nat} {a : Nat} (h : o = some a) : Ending.returned (.tuple #[.int .i64 (a : Int), .bool true]) = .returned (optVal o) := by rw [h]; rfl
theorem opt_none {o : Option Nat} (h : o = none) : Ending.returned (.tuple #[.int .i64 0, .bool false]) = .returned (optVal o) := by rw [h]; rfl

theorem drop_at {α : Type} (l : List α) (k : Nat) (h : k < l.length) : l.drop k = (l[k]'h) :: l.drop (k + 1) := List.drop_eq_getElem_cons h

/-- the cells of declaration k, in a later world. -/
theorem dc_later {w wr : World} {g cap : Nat} {l : List Dc} (h : w.ownsRow 0 96 7 (.slice (some ⟨g, 0, none⟩) l.length cap) l.length (dcCells l)) (hb : Below w.heap.size w wr) (hg : g < w.heap.size) {k : Nat} (hk : k < l.length) (a : Dc) (ha : a = l[k]'hk) :
    wr.cell? ⟨g, k * 7, none⟩ = some (.int .i64 (a.kind : Int)) ∧ wr.cell? ⟨g, k * 7 + 1, none⟩ = some (.int .i64 (a.number : Int)) ∧ wr.cell? ⟨g, k * 7 + 2, none⟩ = some (.string a.name) ∧ wr.cell? ⟨g, k * 7 + 3, none⟩ = some (.int .i64 (a.pos : Int)) ∧
    wr.cell? ⟨g, k * 7 + 4, none⟩ = some (.int .i64 (a.place : Int)) ∧ wr.cell? ⟨g, k * 7 + 5, none⟩ = some (.int .i64 (a.root : Int)) ∧ wr.cell? ⟨g, k * 7 + 6, none⟩ = some (.int .i64 (a.fin : Int)) := by
  have hcs := dcAt_cells h hk
  rw [← ha] at hcs
  have hcr : ∀ j, j < 7 → wr.cell? ⟨g, k * 7 + j, none⟩ = a.cells[j]? := fun j hj => (hb.cell (p := ⟨g, k * 7 + j, none⟩) hg).trans (hcs j hj)
  exact ⟨hcr 0 (by omega), hcr 1 (by omega), hcr 2 (by omega), hcr 3 (by omega), hcr 4 (by omega), hcr 5 (by omega), hcr 6 (by omega)⟩

theorem nd_later {w wr : World} {g cap : Nat} {l : List Nd} (h : w.ownsRow 0 93 11 (.slice (some ⟨g, 0, none⟩) l.length cap) l.length (ndCells l)) (hb : Below w.heap.size w wr) (hg : g < w.heap.size) {k : Nat} (hk : k < l.length) (a : Nd) (ha : a = l[k]'hk) :
    wr.cell? ⟨g, k * 11, none⟩ = some (.int .i64 (a.kind : Int)) ∧ wr.cell? ⟨g, k * 11 + 1, none⟩ = some (.int .i64 (a.pos : Int)) ∧ wr.cell? ⟨g, k * 11 + 2, none⟩ = some (.int .i64 (a.value : Int)) ∧ wr.cell? ⟨g, k * 11 + 3, none⟩ = some (.string a.name) ∧
    wr.cell? ⟨g, k * 11 + 4, none⟩ = some (.int .i64 a.decl) ∧ wr.cell? ⟨g, k * 11 + 5, none⟩ = some (.int .i64 (a.op : Int)) ∧ wr.cell? ⟨g, k * 11 + 6, none⟩ = some (.int .i64 (a.a : Int)) ∧ wr.cell? ⟨g, k * 11 + 7, none⟩ = some (.int .i64 (a.b : Int)) ∧
    wr.cell? ⟨g, k * 11 + 8, none⟩ = some (.int .i64 (a.c : Int)) ∧ wr.cell? ⟨g, k * 11 + 9, none⟩ = some (.bool a.delayed) ∧ wr.cell? ⟨g, k * 11 + 10, none⟩ = some (.bool a.behind) := by
  have hcs := ndAt_cells h hk
  rw [← ha] at hcs
  have hcr : ∀ j, j < 11 → wr.cell? ⟨g, k * 11 + j, none⟩ = a.cells[j]? := fun j hj => (hb.cell (p := ⟨g, k * 11 + j, none⟩) hg).trans (hcs j hj)
  exact ⟨hcr 0 (by omega), hcr 1 (by omega), hcr 2 (by omega), hcr 3 (by omega), hcr 4 (by omega), hcr 5 (by omega), hcr 6 (by omega), hcr 7 (by omega), hcr 8 (by omega), hcr 9 (by omega), hcr 10 (by omega)⟩

set_option maxHeartbeats 1000000 in
set_option maxRecDepth 100000 in
theorem tooMany_any (w : World) (q : Nat) (ds : List Dc) (ns : List Nd) (vd vn : Value) (h : ProgAt w q ds ns vd vn) (hdl : ds.length ≤ 1501) :
    Calls Tryd.prog 29 #[.pointer (some ⟨q, 0, none⟩)] w fun e w' => e = .returned (optVal (tooManyF ds)) ∧ Below w.heap.size w w' := by
  have c0 := h.c0
  obtain ⟨av, cap, rfl, hsh⟩ := own_shape h.decls
  have HO := hide h.decls
  have HSH := hide hsh
  clear h hsh
  go_enter Tryd.func29, Tryd.ntmps29
  go_wp2
  go_loopw [12] (fun i wr => ∃ k : Nat, k ≤ ds.length ∧ i = .int .i64 k ∧ Below w.heap.size w wr ∧ tooManyF (ds.drop k) = tooManyF ds) (fun i _ => ds.length - (intOf i).toNat)
  case atStart => exact ⟨0, Nat.zero_le _, rfl, Below.refl _ _, rfl⟩
  case round =>
    obtain ⟨k, hk, rfl, hbel, hrec⟩ := hrel
    by_cases hlt : k < ds.length
    · obtain ⟨g, rfl, _, hg2⟩ := HSH.out (by omega)
      rw [drop_at ds k hlt] at hrec
      obtain ⟨a, ha⟩ : ∃ a, a = ds[k]'hlt := ⟨_, rfl⟩
      rw [← ha] at hrec
      obtain ⟨x0, x1, x2, x3, x4, x5, x6⟩ := dc_later HO.out hbel hg2 hlt a ha
      have j1 : (0 : Int) ≤ (k : Int) := by omega
      have j2 : (k : Int) < (ds.length : Int) := by omega
      simp only [tooManyF] at hrec
      have HREC := hide hrec
      clear ha hrec c0
      by_cases hkd : a.kind = 0
      · have q0 : ((a.kind : Int) == 0) = true := by rw [hkd]; rfl
        have HM : Hid (most a = 4) := hide (by unfold most; rw [if_pos hkd])
        clear hkd
        by_cases hn : 4 ≤ a.number
        · have q1 : (4 : Int) ≤ (a.number : Int) := by omega
          go_wp2
          go_ret2
          exact ⟨opt_some (by rw [← HREC.out, HM.out, if_pos hn]), hbel.alloc hbel.size _⟩
        · have q1 : ¬ (4 : Int) ≤ (a.number : Int) := by omega
          go_wp2
          go_roundw
          case rel => exact ⟨k + 1, by omega, by go_num, hbel.alloc hbel.size _, by rw [← HREC.out, HM.out, if_neg hn]⟩
          case measure => simp [intOf]; omega
      · have q0 : ((a.kind : Int) == 0) = false := by rw [beq_eq_false_iff_ne]; omega
        have HM : Hid (most a = 12) := hide (by unfold most; rw [if_neg hkd])
        clear hkd
        by_cases hn : 12 ≤ a.number
        · have q1 : (12 : Int) ≤ (a.number : Int) := by omega
          go_wp2
          go_ret2
          exact ⟨opt_some (by rw [← HREC.out, HM.out, if_pos hn]), hbel.alloc hbel.size _⟩
        · have q1 : ¬ (12 : Int) ≤ (a.number : Int) := by omega
          go_wp2
          go_roundw
          case rel => exact ⟨k + 1, by omega, by go_num, hbel.alloc hbel.size _, by rw [← HREC.out, HM.out, if_neg hn]⟩
          case measure => simp [intOf]; omega
    · have HF : Hid (tooManyF ds = none) := hide (by rw [← hrec, List.drop_of_length_le (by omega)]; rfl)
      clear hrec
      go_wp2
      go_ret2
      exact ⟨opt_none HF.out, hbel⟩

set_option maxHeartbeats 400000 in
theorem takesTruths_any (op : Nat) (w : World) : Calls Tryd.prog 52 #[.int .i64 (op : Int)] w fun e w' => e = .returned (.bool (takesT op)) ∧ w = w' := by
  by_cases h1 : op = 11
  · have HF : Hid (takesT op = true) := hide (by rw [h1]; rfl)
    have q1 : ((op : Int) == 11) = true := by rw [h1]; rfl
    clear h1
    go_enter Tryd.func52, Tryd.ntmps52
    go_wp2
    go_ret
    exact ⟨by rw [HF.out]; rfl, rfl⟩
  · have q1 : ((op : Int) == 11) = false := by rw [beq_eq_false_iff_ne]; omega
    by_cases h2 : op = 12
    · have HF : Hid (takesT op = true) := hide (by rw [h2]; rfl)
      have q2 : ((op : Int) == 12) = true := by rw [h2]; rfl
      clear h1 h2
      go_enter Tryd.func52, Tryd.ntmps52
      go_wp2
      go_ret
      exact ⟨by rw [HF.out]; rfl, rfl⟩
    · have HF : Hid (takesT op = false) := hide (by simp [takesT, h1, h2])
      have q2 : ((op : Int) == 12) = false := by rw [beq_eq_false_iff_ne]; omega
      clear h1 h2
      go_enter Tryd.func52, Tryd.ntmps52
      go_wp2
      go_ret
      exact ⟨by rw [HF.out]; rfl, rfl⟩

set_option maxHeartbeats 400000 in
theorem makesTruth_any (op : Nat) (w : World) : Calls Tryd.prog 73 #[.int .i64 (op : Int)] w fun e w' => e = .returned (.bool (makesT op)) ∧ w = w' := by
  by_cases h1 : op = 9
  · have HF : Hid (makesT op = true) := hide (by rw [h1]; rfl)
    have q1 : ((op : Int) == 9) = true := by rw [h1]; rfl
    clear h1
    go_enter Tryd.func73, Tryd.ntmps73
    go_wp2
    go_ret
    exact ⟨by rw [HF.out]; rfl, rfl⟩
  · have q1 : ((op : Int) == 9) = false := by rw [beq_eq_false_iff_ne]; omega
    by_cases h2 : op = 10
    · have HF : Hid (makesT op = true) := hide (by rw [h2]; rfl)
      have q2 : ((op : Int) == 10) = true := by rw [h2]; rfl
      clear h1 h2
      go_enter Tryd.func73, Tryd.ntmps73
      go_wp2
      go_ret
      exact ⟨by rw [HF.out]; rfl, rfl⟩
    · have HF : Hid (makesT op = takesT op) := hide (by simp [makesT, h1, h2])
      have q2 : ((op : Int) == 10) = false := by rw [beq_eq_false_iff_ne]; omega
      clear h1 h2
      go_enter Tryd.func73, Tryd.ntmps73
      go_wp2_with (go_at_call 52; refine (takesTruths_any _ _).mono ?_; rintro e w' ⟨rfl, rfl⟩)
      go_ret
      exact ⟨by rw [HF.out]; rfl, rfl⟩

end Go.Proofs.YtmndgoapkmhglaaDoor

namespace Go.Proofs.YtmndgoapkmhglaaDoor
open Go.RowKit
attribute [local go_sem ↓] Go.wp_at_zero Go.wp_at_succ

set_option maxHeartbeats 1000000 in
set_option maxRecDepth 100000 in
theorem fits_any (w : World) (q : Nat) (ds : List Dc) (ns : List Nd) (vd vn : Value) (h : ProgAt w q ds ns vd vn) (n : Nd) (truth : Bool) (hk : n.kind ≤ 6) (hd : n.kind = 2 → 0 ≤ n.decl ∧ n.decl < (ds.length : Int)) :
    Calls Tryd.prog 51 #[.pointer (some ⟨q, 0, none⟩), n.val, .bool truth] w fun e w' => e = .returned (.bool (fitsF ds n truth)) ∧ Below w.heap.size w w' := by
  have hc : n.kind = 0 ∨ n.kind = 1 ∨ n.kind = 2 ∨ n.kind = 3 ∨ n.kind = 4 ∨ n.kind = 5 ∨ n.kind = 6 := by omega
  clear hk
  rcases hc with hk | hk | hk | hk | hk | hk | hk
  · have HF : Hid (fitsF ds n truth = !truth) := hide (by unfold fitsF; rw [if_pos hk])
    have q0 : ((n.kind : Int) == 0) = true := by rw [hk]; rfl
    clear hk hd h
    go_enter Tryd.func51, Tryd.ntmps51
    go_wp2
    go_ret
    exact ⟨by rw [HF.out]; rfl, (Below.refl _ _).alloc (Nat.le_refl _) _⟩
  · have HF : Hid (fitsF ds n truth = truth) := hide (by unfold fitsF; rw [if_neg (by omega), if_pos (.inl hk)])
    have q0 : ((n.kind : Int) == 0) = false := by rw [hk]; rfl
    have q1 : ((n.kind : Int) == 1) = true := by rw [hk]; rfl
    clear hk hd h
    go_enter Tryd.func51, Tryd.ntmps51
    go_wp2
    go_ret
    exact ⟨by rw [HF.out]; rfl, (Below.refl _ _).alloc (Nat.le_refl _) _⟩
  · obtain ⟨hd1, hd2⟩ := hd hk
    obtain ⟨d, hdd⟩ : ∃ d : Nat, n.decl = (d : Int) := ⟨n.decl.toNat, by omega⟩
    have hdl : d < ds.length := by omega
    obtain ⟨a, ha⟩ : ∃ a, a = ds[d]'hdl := ⟨_, rfl⟩
    have hka : kindAt ds n.decl = a.kind := by unfold kindAt; rw [hdd, ha]; simp [hdl]
    have HF : Hid (fitsF ds n truth = (truth == (a.kind == 2))) := hide (by unfold fitsF; rw [if_neg (by omega), if_neg (by omega), if_pos hk, hka])
    have q0 : ((n.kind : Int) == 0) = false := by rw [hk]; rfl
    have q1 : ((n.kind : Int) == 1) = false := by rw [hk]; rfl
    have q3 : ((n.kind : Int) == 3) = false := by rw [hk]; rfl
    have q2 : ((n.kind : Int) == 2) = true := by rw [hk]; rfl
    have c0 : ∀ o, (w.alloc o).cell? ⟨q, 0, none⟩ = some vd := fun o => (World.cell?_alloc_past _ _ _ h.lt).trans h.c0
    obtain ⟨av, cap, rfl, hsh⟩ := own_shape h.decls
    obtain ⟨g, rfl, _, hg2⟩ := hsh (by omega)
    have x0 : ∀ o, (w.alloc o).cell? ⟨g, d * 7, none⟩ = some (.int .i64 (a.kind : Int)) := fun o => (dc_later h.decls ((Below.refl _ _).alloc (Nat.le_refl _) o) hg2 hdl a ha).1
    have j1 : (0 : Int) ≤ (d : Int) := by omega
    have j2 : (d : Int) < (ds.length : Int) := by omega
    obtain ⟨nk, np, nv, nn, nde, no, na, nb, nc, ndl, nbh⟩ := n
    simp only at hdd hk q0 q1 q2 q3
    subst hdd
    have hkk : ((a.kind : Int) == 2) = (a.kind == 2) := by
      by_cases e : a.kind = 2
      · rw [e]; rfl
      · have e1 : ((a.kind : Int) == 2) = false := by rw [beq_eq_false_iff_ne]; omega
        have e2 : (a.kind == 2) = false := by simpa using e
        rw [e1, e2]
    clear hk hd h hd1 hd2 ha hka hsh
    go_enter Tryd.func51, Tryd.ntmps51
    go_wp2_with fail
    go_quiet (fail)
    go_wp2
    go_ret
    exact ⟨by rw [HF.out]; rfl, below_drewN ((Below.refl _ _).alloc (Nat.le_refl _) _) _⟩
  · have HF : Hid (fitsF ds n truth = truth) := hide (by unfold fitsF; rw [if_neg (by omega), if_pos (.inr hk)])
    have q0 : ((n.kind : Int) == 0) = false := by rw [hk]; rfl
    have q1 : ((n.kind : Int) == 1) = false := by rw [hk]; rfl
    have q3 : ((n.kind : Int) == 3) = true := by rw [hk]; rfl
    clear hk hd h
    go_enter Tryd.func51, Tryd.ntmps51
    go_wp2
    go_ret
    exact ⟨by rw [HF.out]; rfl, (Below.refl _ _).alloc (Nat.le_refl _) _⟩
  · have HF : Hid (fitsF ds n truth = true) := hide (by unfold fitsF; rw [if_neg (by omega), if_neg (by omega), if_neg (by omega), if_neg (by omega)])
    have q0 : ((n.kind : Int) == 0) = false := by rw [hk]; rfl
    have q1 : ((n.kind : Int) == 1) = false := by rw [hk]; rfl
    have q3 : ((n.kind : Int) == 3) = false := by rw [hk]; rfl
    have q2 : ((n.kind : Int) == 2) = false := by rw [hk]; rfl
    have q6 : ((n.kind : Int) == 6) = false := by rw [hk]; rfl
    clear hk hd h
    go_enter Tryd.func51, Tryd.ntmps51
    go_wp2
    go_ret
    exact ⟨by rw [HF.out]; rfl, (Below.refl _ _).alloc (Nat.le_refl _) _⟩
  · have HF : Hid (fitsF ds n truth = true) := hide (by unfold fitsF; rw [if_neg (by omega), if_neg (by omega), if_neg (by omega), if_neg (by omega)])
    have q0 : ((n.kind : Int) == 0) = false := by rw [hk]; rfl
    have q1 : ((n.kind : Int) == 1) = false := by rw [hk]; rfl
    have q3 : ((n.kind : Int) == 3) = false := by rw [hk]; rfl
    have q2 : ((n.kind : Int) == 2) = false := by rw [hk]; rfl
    have q6 : ((n.kind : Int) == 6) = false := by rw [hk]; rfl
    clear hk hd h
    go_enter Tryd.func51, Tryd.ntmps51
    go_wp2
    go_ret
    exact ⟨by rw [HF.out]; rfl, (Below.refl _ _).alloc (Nat.le_refl _) _⟩
  · have HF : Hid (fitsF ds n truth = (truth == makesT n.op)) := hide (by unfold fitsF; rw [if_neg (by omega), if_neg (by omega), if_neg (by omega), if_pos hk])
    have q0 : ((n.kind : Int) == 0) = false := by rw [hk]; rfl
    have q1 : ((n.kind : Int) == 1) = false := by rw [hk]; rfl
    have q3 : ((n.kind : Int) == 3) = false := by rw [hk]; rfl
    have q2 : ((n.kind : Int) == 2) = false := by rw [hk]; rfl
    have q6 : ((n.kind : Int) == 6) = true := by rw [hk]; rfl
    clear hk hd h
    go_enter Tryd.func51, Tryd.ntmps51
    go_wp2_with (go_at_call 73; refine (makesTruth_any _ _).mono ?_; rintro e w' ⟨rfl, rfl⟩)
    go_ret
    exact ⟨by rw [HF.out]; rfl, (Below.refl _ _).alloc (Nat.le_refl _) _⟩

end Go.Proofs.YtmndgoapkmhglaaDoor
