import Derived.Test.Ytmndgoapkmhglabo06Dec
import Derived.Test.Ytmndgoapkmhglabo24PyB
import Derived.Test.Ytmndgoapkmhglabo28JudM
namespace Go.Proofs.Ytmndgoapkmhglab
open Go.RowKit
attribute [local go_sem ↓] Go.wp_at_zero Go.wp_at_succ
def RowAt (w : World) (v : Value) (zs : List Int) : Prop :=
  ∃ (A : Option Addr) (C : Nat), v = .slice A zs.length C ∧ zs.length ≤ 35184372088832 ∧ (0 < zs.length → ∃ b o, A = some ⟨b, o, none⟩ ∧ b < w.heap.size ∧ ∀ c, (h : c < zs.length) → w.cell? ⟨b, o + c, none⟩ = some (.int .i64 zs[c]))
def LsAt (w : World) (v : Value) (ins : List (List Int)) : Prop :=
  ∃ (A : Option Addr) (C : Nat), v = .slice A ins.length C ∧ ins.length ≤ 8796093022208 ∧ (0 < ins.length → ∃ b o, A = some ⟨b, o, none⟩ ∧ b < w.heap.size ∧ ∀ r, (h : r < ins.length) → ∃ x, w.cell? ⟨b, o + r, none⟩ = some x ∧ RowAt w x ins[r])
theorem RowAt.below {w w' : World} {v : Value} {zs : List Int} (h : RowAt w v zs) (hb : Below w.heap.size w w') : RowAt w' v zs := by
  obtain ⟨A, C, hv, hm, hc⟩ := h
  refine ⟨A, C, hv, hm, fun hp => ?_⟩
  obtain ⟨b, o, h1, h2, h3⟩ := hc hp
  exact ⟨b, o, h1, Nat.lt_of_lt_of_le h2 hb.size, fun c hc => (hb.cell (p := ⟨b, o + c, none⟩) h2).trans (h3 c hc)⟩
theorem LsAt.below {w w' : World} {v : Value} {ins : List (List Int)} (h : LsAt w v ins) (hb : Below w.heap.size w w') : LsAt w' v ins := by
  obtain ⟨A, C, hv, hm, hc⟩ := h
  refine ⟨A, C, hv, hm, fun hp => ?_⟩
  obtain ⟨b, o, h1, h2, h3⟩ := hc hp
  refine ⟨b, o, h1, Nat.lt_of_lt_of_le h2 hb.size, fun r hr => ?_⟩
  obtain ⟨x, hx, hr⟩ := h3 r hr
  exact ⟨x, (hb.cell (p := ⟨b, o + r, none⟩) h2).trans hx, hr.below hb⟩
structure MatI (w : World) (g m n : Nat) (R : Nat → Nat) (F : Nat → Nat → Int) : Prop where
  outer : ∀ i, i < m → w.cell? ⟨g, i, none⟩ = some (.slice (some ⟨R i, 0, none⟩) n n)
  rows : ∀ i, i < m → w.rowIs (R i) 3 n (fun j => .int .i64 (F i j))
  inj : ∀ i j, i < m → j < m → R i = R j → i = j
  ne : ∀ i, i < m → R i ≠ g
theorem MatI.congr {w : World} {g m n : Nat} {R : Nat → Nat} {F F' : Nat → Nat → Int} (h : MatI w g m n R F) (e : ∀ i j, i < m → j < n → F i j = F' i j) : MatI w g m n R F' :=
  ⟨h.outer, fun i hi => (h.rows i hi).congr (fun j hj => by rw [e i j hi hj]), h.inj, h.ne⟩
theorem MatI.cell {w : World} {g m n : Nat} {R : Nat → Nat} {F : Nat → Nat → Int} (h : MatI w g m n R F) {i j : Nat} (hi : i < m) (hj : j < n) : w.cell? ⟨R i, j, none⟩ = some (.int .i64 (F i j)) := (h.rows i hi).cell hj
theorem MatI.froz {w : World} {g m n : Nat} {R : Nat → Nat} {F : Nat → Nat → Int} (h : MatI w g m n R F) {i : Nat} (hi : i < m) (j : Nat) : w.frozen? ⟨R i, j, none⟩ = false := (h.rows i hi).frozen j
theorem MatI.set {w : World} {g m n : Nat} {R : Nat → Nat} {F : Nat → Nat → Int} (h : MatI w g m n R F) {a : Nat} (ha : a < m) (b : Nat) (v : Int) : MatI (w.setCell ⟨R a, b, none⟩ (.int .i64 v)) g m n R (fun i k => if i = a ∧ k = b then v else F i k) := by
  refine ⟨fun i hi => ?_, fun i hi => ?_, h.inj, h.ne⟩
  · rw [← h.outer i hi]
    exact World.cell?_setCell_other _ _ _ _ (by intro e; exact h.ne a ha (congrArg Addr.block e))
  · by_cases e : i = a
    · subst e
      refine ((h.rows i hi).set b (.int .i64 v)).congr (fun j _ => ?_)
      by_cases ej : j = b
      · subst ej; simp
      · simp [ej]
    · refine ((h.rows i hi).setOther (a := ⟨R a, b, none⟩) (fun e2 => e (h.inj i a hi ha e2)) (.int .i64 v)).congr (fun j _ => ?_)
      simp [e]
theorem MatI.keep {w w' : World} {g m n : Nat} {R : Nat → Nat} {F : Nat → Nat → Int} (h : MatI w g m n R F) (hg : w'.heap[g]? = w.heap[g]?) (hr : ∀ i, i < m → w'.heap[R i]? = w.heap[R i]?) : MatI w' g m n R F :=
  ⟨fun i hi => (World.cell?_of_block (w := w) (a := ⟨g, i, none⟩) hg).trans (h.outer i hi), fun i hi => (h.rows i hi).of_block (hr i hi), h.inj, h.ne⟩
theorem MatI.lt {w : World} {g m n : Nat} {R : Nat → Nat} {F : Nat → Nat → Int} (h : MatI w g m n R F) (hm : 0 < m) : g < w.heap.size := World.block_lt_of_cell? _ _ (h.outer 0 hm)
theorem MatI.below {w w' : World} {g m n : Nat} {R : Nat → Nat} {F : Nat → Nat → Int} (h : MatI w g m n R F) (hb : Below w.heap.size w w') : MatI w' g m n R F :=
  ⟨fun i hi => (hb.cell (p := ⟨g, i, none⟩) (h.lt (by omega))).trans (h.outer i hi), fun i hi => (h.rows i hi).of_block (hb.block _ (World.rowIs.lt (h.rows i hi))), h.inj, h.ne⟩
end Go.Proofs.Ytmndgoapkmhglab
namespace Go.Proofs.Ytmndgoapkmhglab
open Go.RowKit
def iCells (l : List Int) : List Value := l.map fun x => Value.int .i64 x
theorem iCells_get (l : List Int) (j : Nat) : (iCells l)[j]? = l[j]?.map fun x => Value.int .i64 x := by simp [iCells]
theorem Try.infoIntsE : (Try.prog.info? 38).map (fun i => (i.zero, i.size, i.bytes)) = some (some (.slice none 0 0), 1, 24) := by kernel_rfl
structure ArgL (w : World) (A : Option Addr) (C : Nat) (ins : List (List Int)) (AS : Nat → Option Addr) (CS : Nat → Nat) : Prop where
  few : ins.length ≤ 5864062014805
  nil : A = none → ins = []
  out : 0 < ins.length → ∃ b o, A = some ⟨b, o, none⟩ ∧ b < w.heap.size ∧ ∀ r, (h : r < ins.length) → w.cell? ⟨b, o + r, none⟩ = some (.slice (AS r) ins[r].length (CS r))
  row : ∀ r, (h : r < ins.length) → RowAt w (.slice (AS r) ins[r].length (CS r)) ins[r] ∧ (AS r = none → ins[r] = []) ∧ ins[r].length ≤ 17592186044416
  cap : ∀ r, (h : r < ins.length) → ins[r].length ≤ CS r
theorem ArgL.ls {w : World} {A : Option Addr} {C : Nat} {ins : List (List Int)} {AS : Nat → Option Addr} {CS : Nat → Nat} (h : ArgL w A C ins AS CS) : LsAt w (.slice A ins.length C) ins := by
  refine ⟨A, C, rfl, by have := h.few; omega, fun hp => ?_⟩
  obtain ⟨b, o, h1, h2, h3⟩ := h.out hp
  exact ⟨b, o, h1, h2, fun r hr => ⟨_, h3 r hr, (h.row r hr).1⟩⟩
structure Outs (B : Nat) (w : World) (v : Value) (m n : Nat) (F : Nat → Nat → Int) : Prop where
  mat : ∃ (a : Option Addr) (g cap : Nat) (R : Nat → Nat), v = .slice a m cap ∧ (0 < m → a = some ⟨g, 0, none⟩) ∧ MatI w g m n R F ∧ (∀ i, i < m → B ≤ R i) ∧ B ≤ g
theorem own_row {B : Nat} {w : World} {v : Value} {n : Nat} {xs : List Int} (h : w.ownsRow B 3 1 v n (iCells xs)) (hn : n ≤ 1000) (hl : xs.length = n) : RowAt w v xs := by
  rcases h.2 with ⟨rfl, h0⟩ | ⟨g, cap, cur, rfl, hb, hg, h1, h2, h3, h4⟩
  · exact ⟨none, 0, by rw [hl, h0], by omega, fun hp => by omega⟩
  · refine ⟨_, _, by rw [hl], by omega, fun hp => ⟨g, 0, rfl, (Array.getElem?_eq_some_iff.1 hg).1, fun c hc => ?_⟩⟩
    rw [Nat.zero_add, h.cellAt c (by omega), iCells_get, List.getElem?_eq_getElem hc]; rfl
end Go.Proofs.Ytmndgoapkmhglab
