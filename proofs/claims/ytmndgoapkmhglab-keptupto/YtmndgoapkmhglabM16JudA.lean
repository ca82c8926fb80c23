import Derived.Test.YtmndgoapkmhglabM02IntC
import Derived.Test.YtmndgoapkmhglabM15ParO
namespace Go.Proofs.Ytmndgoapkmhglab
open Go.RowKit
attribute [local go_sem ↓] Go.wp_at_zero Go.wp_at_succ
attribute [local go_sem] Try.fieldTok0 Try.fieldTok1 Try.fieldTok2

/-- A PROGRAM IN MEMORY, behind a pointer. -/
structure ProgAt (w : World) (q : Nat) (ds : List Dc) (ns : List Nd) (vd vn : Value) : Prop where
  lt : q < w.heap.size
  c0 : w.cell? ⟨q, 0, none⟩ = some vd
  c1 : w.cell? ⟨q, 1, none⟩ = some vn
  decls : w.ownsRow 0 126 7 vd ds.length (dcCells ds)
  nodes : w.ownsRow 0 171 11 vn ns.length (ndCells ns)

theorem ProgAt.below {w w' : World} {q : Nat} {ds : List Dc} {ns : List Nd} {vd vn : Value} (h : ProgAt w q ds ns vd vn) (hb : Below w.heap.size w w') : ProgAt w' q ds ns vd vn :=
  ⟨Nat.lt_of_lt_of_le h.lt hb.size, (hb.cell h.lt).trans h.c0, (hb.cell h.lt).trans h.c1, bel_own h.decls hb, bel_own h.nodes hb⟩

def optVal (o : Option Nat) : Value := .tuple #[.int .i64 ((o.getD 0 : Nat) : Int), .bool o.isSome]
theorem opt_some {o : Option Nat} {a : Nat} (h : o = some a) : Ending.returned (.tuple #[.int .i64 (a : Int), .bool true]) = .returned (optVal o) := by rw [h]; rfl
theorem opt_none {o : Option Nat} (h : o = none) : Ending.returned (.tuple #[.int .i64 0, .bool false]) = .returned (optVal o) := by rw [h]; rfl

theorem drop_at {α : Type} (l : List α) (k : Nat) (h : k < l.length) : l.drop k = (l[k]'h) :: l.drop (k + 1) := List.drop_eq_getElem_cons h

/-- the cells of declaration k, in a later world. -/
theorem dc_later {w wr : World} {g cap : Nat} {l : List Dc} (h : w.ownsRow 0 126 7 (.slice (some ⟨g, 0, none⟩) l.length cap) l.length (dcCells l)) (hb : Below w.heap.size w wr) (hg : g < w.heap.size) {k : Nat} (hk : k < l.length) (a : Dc) (ha : a = l[k]'hk) :
    wr.cell? ⟨g, k * 7, none⟩ = some (.int .i64 (a.kind : Int)) ∧ wr.cell? ⟨g, k * 7 + 1, none⟩ = some (.int .i64 (a.number : Int)) ∧ wr.cell? ⟨g, k * 7 + 2, none⟩ = some (.string a.name) ∧ wr.cell? ⟨g, k * 7 + 3, none⟩ = some (.int .i64 (a.pos : Int)) ∧
    wr.cell? ⟨g, k * 7 + 4, none⟩ = some (.int .i64 (a.place : Int)) ∧ wr.cell? ⟨g, k * 7 + 5, none⟩ = some (.int .i64 (a.root : Int)) ∧ wr.cell? ⟨g, k * 7 + 6, none⟩ = some (.int .i64 (a.fin : Int)) := by
  have hcs := dcAt_cells h hk
  rw [← ha] at hcs
  have hcr : ∀ j, j < 7 → wr.cell? ⟨g, k * 7 + j, none⟩ = a.cells[j]? := fun j hj => (hb.cell (p := ⟨g, k * 7 + j, none⟩) hg).trans (hcs j hj)
  exact ⟨hcr 0 (by omega), hcr 1 (by omega), hcr 2 (by omega), hcr 3 (by omega), hcr 4 (by omega), hcr 5 (by omega), hcr 6 (by omega)⟩

theorem nd_later {w wr : World} {g cap : Nat} {l : List Nd} (h : w.ownsRow 0 171 11 (.slice (some ⟨g, 0, none⟩) l.length cap) l.length (ndCells l)) (hb : Below w.heap.size w wr) (hg : g < w.heap.size) {k : Nat} (hk : k < l.length) (a : Nd) (ha : a = l[k]'hk) :
    wr.cell? ⟨g, k * 11, none⟩ = some (.int .i64 (a.kind : Int)) ∧ wr.cell? ⟨g, k * 11 + 1, none⟩ = some (.int .i64 (a.pos : Int)) ∧ wr.cell? ⟨g, k * 11 + 2, none⟩ = some (.int .i64 (a.value : Int)) ∧ wr.cell? ⟨g, k * 11 + 3, none⟩ = some (.string a.name) ∧
    wr.cell? ⟨g, k * 11 + 4, none⟩ = some (.int .i64 a.decl) ∧ wr.cell? ⟨g, k * 11 + 5, none⟩ = some (.int .i64 (a.op : Int)) ∧ wr.cell? ⟨g, k * 11 + 6, none⟩ = some (.int .i64 (a.a : Int)) ∧ wr.cell? ⟨g, k * 11 + 7, none⟩ = some (.int .i64 (a.b : Int)) ∧
    wr.cell? ⟨g, k * 11 + 8, none⟩ = some (.int .i64 (a.c : Int)) ∧ wr.cell? ⟨g, k * 11 + 9, none⟩ = some (.bool a.delayed) ∧ wr.cell? ⟨g, k * 11 + 10, none⟩ = some (.bool a.behind) := by
  have hcs := ndAt_cells h hk
  rw [← ha] at hcs
  have hcr : ∀ j, j < 11 → wr.cell? ⟨g, k * 11 + j, none⟩ = a.cells[j]? := fun j hj => (hb.cell (p := ⟨g, k * 11 + j, none⟩) hg).trans (hcs j hj)
  exact ⟨hcr 0 (by omega), hcr 1 (by omega), hcr 2 (by omega), hcr 3 (by omega), hcr 4 (by omega), hcr 5 (by omega), hcr 6 (by omega), hcr 7 (by omega), hcr 8 (by omega), hcr 9 (by omega), hcr 10 (by omega)⟩

set_option maxHeartbeats 1000000 in
set_option maxRecDepth 100000 in
theorem tooMany_any (w : World) (q : Nat) (ds : List Dc) (ns : List Nd) (vd vn : Value) (h : ProgAt w q ds ns vd vn) (hdl : ds.length ≤ 1501) :
    Calls Try.prog 82 #[.pointer (some ⟨q, 0, none⟩)] w fun e w' => e = .returned (optVal (tooManyF ds)) ∧ Below w.heap.size w w' := by
  have c0 := h.c0
  obtain ⟨av, cap, rfl, hsh⟩ := own_shape h.decls
  have HO := hide h.decls
  have HSH := hide hsh
  clear h hsh
  go_enter Try.func82, Try.ntmps82
  go_wp2
  go_loopw [12] (fun i wr => ∃ k : Nat, k ≤ ds.length ∧ i = .int .i64 k ∧ Below w.heap.size w wr ∧ tooManyF (ds.drop k) = tooManyF ds) (fun i _ => ds.length - (intOf i).toNat)
  case atStart => exact ⟨0, Nat.zero_le _, rfl, Below.refl _ _, rfl⟩
  case round =>
    obtain ⟨k, hk, rfl, hbel, hrec⟩ := hrel
    by_cases hlt : k < ds.length
    · obtain ⟨g, rfl, _, hg2⟩ := HSH.out (by omega)
      rw [drop_at ds k hlt] at hrec
      obtain ⟨a, ha⟩ : ∃ a, a = ds[k]'hlt := ⟨_, rfl⟩
      rw [← ha] at hrec
      obtain ⟨x0, x1, x2, x3, x4, x5, x6⟩ := dc_later HO.out hbel hg2 hlt a ha
      have j1 : (0 : Int) ≤ (k : Int) := by omega
      have j2 : (k : Int) < (ds.length : Int) := by omega
      simp only [tooManyF] at hrec
      have HREC := hide hrec
      clear ha hrec c0
      by_cases hkd : a.kind = 0
      · have q0 : ((a.kind : Int) == 0) = true := by rw [hkd]; rfl
        have HM : Hid (most a = 4) := hide (by unfold most; rw [if_pos hkd])
        clear hkd
        by_cases hn : 4 ≤ a.number
        · have q1 : (4 : Int) ≤ (a.number : Int) := by omega
          go_wp2
          go_ret2
          exact ⟨opt_some (by rw [← HREC.out, HM.out, if_pos hn]), hbel.alloc hbel.size _⟩
        · have q1 : ¬ (4 : Int) ≤ (a.number : Int) := by omega
          go_wp2
          go_roundw
          case rel => exact ⟨k + 1, by omega, by go_num, hbel.alloc hbel.size _, by rw [← HREC.out, HM.out, if_neg hn]⟩
          case measure => simp [intOf]; omega
      · have q0 : ((a.kind : Int) == 0) = false := by rw [beq_eq_false_iff_ne]; omega
        have HM : Hid (most a = 12) := hide (by unfold most; rw [if_neg hkd])
        clear hkd
        by_cases hn : 12 ≤ a.number
        · have q1 : (12 : Int) ≤ (a.number : Int) := by omega
          go_wp2
          go_ret2
          exact ⟨opt_some (by rw [← HREC.out, HM.out, if_pos hn]), hbel.alloc hbel.size _⟩
        · have q1 : ¬ (12 : Int) ≤ (a.number : Int) := by omega
          go_wp2
          go_roundw
          case rel => exact ⟨k + 1, by omega, by go_num, hbel.alloc hbel.size _, by rw [← HREC.out, HM.out, if_neg hn]⟩
          case measure => simp [intOf]; omega
    · have HF : Hid (tooManyF ds = none) := hide (by rw [← hrec, List.drop_of_length_le (by omega)]; rfl)
      clear hrec
      go_wp2
      go_ret2
      exact ⟨opt_none HF.out, hbel⟩

set_option maxHeartbeats 400000 in
theorem takesTruths_any (op : Nat) (w : World) : Calls Try.prog 112 #[.int .i64 (op : Int)] w fun e w' => e = .returned (.bool (takesT op)) ∧ w = w' := by
  by_cases h1 : op = 11
  · have HF : Hid (takesT op = true) := hide (by rw [h1]; rfl)
    have q1 : ((op : Int) == 11) = true := by rw [h1]; rfl
    clear h1
    go_enter Try.func112, Try.ntmps112
    go_wp2
    go_ret
    exact ⟨by rw [HF.out]; rfl, rfl⟩
  · have q1 : ((op : Int) == 11) = false := by rw [beq_eq_false_iff_ne]; omega
    by_cases h2 : op = 12
    · have HF : Hid (takesT op = true) := hide (by rw [h2]; rfl)
      have q2 : ((op : Int) == 12) = true := by rw [h2]; rfl
      clear h1 h2
      go_enter Try.func112, Try.ntmps112
      go_wp2
      go_ret
      exact ⟨by rw [HF.out]; rfl, rfl⟩
    · have HF : Hid (takesT op = false) := hide (by simp [takesT, h1, h2])
      have q2 : ((op : Int) == 12) = false := by rw [beq_eq_false_iff_ne]; omega
      clear h1 h2
      go_enter Try.func112, Try.ntmps112
      go_wp2
      go_ret
      exact ⟨by rw [HF.out]; rfl, rfl⟩

set_option maxHeartbeats 400000 in
theorem makesTruth_any (op : Nat) (w : World) : Calls Try.prog 132 #[.int .i64 (op : Int)] w fun e w' => e = .returned (.bool (makesT op)) ∧ w = w' := by
  by_cases h1 : op = 9
  · have HF : Hid (makesT op = true) := hide (by rw [h1]; rfl)
    have q1 : ((op : Int) == 9) = true := by rw [h1]; rfl
    clear h1
    go_enter Try.func132, Try.ntmps132
    go_wp2
    go_ret
    exact ⟨by rw [HF.out]; rfl, rfl⟩
  · have q1 : ((op : Int) == 9) = false := by rw [beq_eq_false_iff_ne]; omega
    by_cases h2 : op = 10
    · have HF : Hid (makesT op = true) := hide (by rw [h2]; rfl)
      have q2 : ((op : Int) == 10) = true := by rw [h2]; rfl
      clear h1 h2
      go_enter Try.func132, Try.ntmps132
      go_wp2
      go_ret
      exact ⟨by rw [HF.out]; rfl, rfl⟩
    · have HF : Hid (makesT op = takesT op) := hide (by simp [makesT, h1, h2])
      have q2 : ((op : Int) == 10) = false := by rw [beq_eq_false_iff_ne]; omega
      clear h1 h2
      go_enter Try.func132, Try.ntmps132
      go_wp2_with (go_at_call 112; refine (takesTruths_any _ _).mono ?_; rintro e w' ⟨rfl, rfl⟩)
      go_ret
      exact ⟨by rw [HF.out]; rfl, rfl⟩

end Go.Proofs.Ytmndgoapkmhglab
