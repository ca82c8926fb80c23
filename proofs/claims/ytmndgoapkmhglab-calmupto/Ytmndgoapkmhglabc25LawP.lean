import Derived.Test.Ytmndgoapkmhglabc14RefF
import Derived.Test.Ytmndgoapkmhglabc15RefHa
import Derived.Test.Ytmndgoapkmhglabc24JudM
/- Lists of numbers as they lie; rows of numbers of one's own. -/
namespace Go.Proofs.Ytmndgoapkmhglab
open Go.RowKit
attribute [local go_sem ↓] Go.wp_at_zero Go.wp_at_succ

/-- numbers, as they lie. -/
def RowAt (w : World) (v : Value) (zs : List Int) : Prop :=
  ∃ (A : Option Addr) (C : Nat), v = .slice A zs.length C ∧ zs.length ≤ 35184372088832 ∧ (0 < zs.length → ∃ b o, A = some ⟨b, o, none⟩ ∧ b < w.heap.size ∧ ∀ c, (h : c < zs.length) → w.cell? ⟨b, o + c, none⟩ = some (.int .i64 zs[c]))
/-- lists of numbers, as they lie. -/
def LsAt (w : World) (v : Value) (ins : List (List Int)) : Prop :=
  ∃ (A : Option Addr) (C : Nat), v = .slice A ins.length C ∧ ins.length ≤ 8796093022208 ∧ (0 < ins.length → ∃ b o, A = some ⟨b, o, none⟩ ∧ b < w.heap.size ∧ ∀ r, (h : r < ins.length) → ∃ x, w.cell? ⟨b, o + r, none⟩ = some x ∧ RowAt w x ins[r])

theorem RowAt.below {w w' : World} {v : Value} {zs : List Int} (h : RowAt w v zs) (hb : Below w.heap.size w w') : RowAt w' v zs := by
  obtain ⟨A, C, hv, hm, hc⟩ := h
  refine ⟨A, C, hv, hm, fun hp => ?_⟩
  obtain ⟨b, o, h1, h2, h3⟩ := hc hp
  exact ⟨b, o, h1, Nat.lt_of_lt_of_le h2 hb.size, fun c hc => (hb.cell (p := ⟨b, o + c, none⟩) h2).trans (h3 c hc)⟩
theorem LsAt.below {w w' : World} {v : Value} {ins : List (List Int)} (h : LsAt w v ins) (hb : Below w.heap.size w w') : LsAt w' v ins := by
  obtain ⟨A, C, hv, hm, hc⟩ := h
  refine ⟨A, C, hv, hm, fun hp => ?_⟩
  obtain ⟨b, o, h1, h2, h3⟩ := hc hp
  refine ⟨b, o, h1, Nat.lt_of_lt_of_le h2 hb.size, fun r hr => ?_⟩
  obtain ⟨x, hx, hr⟩ := h3 r hr
  exact ⟨x, (hb.cell (p := ⟨b, o + r, none⟩) h2).trans hx, hr.below hb⟩

/-- rows of numbers of one's own: m of them, of n numbers each. -/
structure MatI (w : World) (g m n : Nat) (R : Nat → Nat) (F : Nat → Nat → Int) : Prop where
  outer : ∀ i, i < m → w.cell? ⟨g, i, none⟩ = some (.slice (some ⟨R i, 0, none⟩) n n)
  rows : ∀ i, i < m → w.rowIs (R i) 3 n (fun j => .int .i64 (F i j))
  inj : ∀ i j, i < m → j < m → R i = R j → i = j
  ne : ∀ i, i < m → R i ≠ g

theorem MatI.congr {w : World} {g m n : Nat} {R : Nat → Nat} {F F' : Nat → Nat → Int} (h : MatI w g m n R F) (e : ∀ i j, i < m → j < n → F i j = F' i j) : MatI w g m n R F' :=
  ⟨h.outer, fun i hi => (h.rows i hi).congr (fun j hj => by rw [e i j hi hj]), h.inj, h.ne⟩
theorem MatI.cell {w : World} {g m n : Nat} {R : Nat → Nat} {F : Nat → Nat → Int} (h : MatI w g m n R F) {i j : Nat} (hi : i < m) (hj : j < n) : w.cell? ⟨R i, j, none⟩ = some (.int .i64 (F i j)) := (h.rows i hi).cell hj
theorem MatI.froz {w : World} {g m n : Nat} {R : Nat → Nat} {F : Nat → Nat → Int} (h : MatI w g m n R F) {i : Nat} (hi : i < m) (j : Nat) : w.frozen? ⟨R i, j, none⟩ = false := (h.rows i hi).frozen j
theorem MatI.set {w : World} {g m n : Nat} {R : Nat → Nat} {F : Nat → Nat → Int} (h : MatI w g m n R F) {a : Nat} (ha : a < m) (b : Nat) (v : Int) : MatI (w.setCell ⟨R a, b, none⟩ (.int .i64 v)) g m n R (fun i k => if i = a ∧ k = b then v else F i k) := by
  refine ⟨fun i hi => ?_, fun i hi => ?_, h.inj, h.ne⟩
  · rw [← h.outer i hi]
    exact World.cell?_setCell_other _ _ _ _ (by intro e; exact h.ne a ha (congrArg Addr.block e))
  · by_cases e : i = a
    · subst e
      refine ((h.rows i hi).set b (.int .i64 v)).congr (fun j _ => ?_)
      by_cases ej : j = b
      · subst ej; simp
      · simp [ej]
    · refine ((h.rows i hi).setOther (a := ⟨R a, b, none⟩) (fun e2 => e (h.inj i a hi ha e2)) (.int .i64 v)).congr (fun j _ => ?_)
      simp [e]
/-- other blocks may turn. -/
theorem MatI.keep {w w' : World} {g m n : Nat} {R : Nat → Nat} {F : Nat → Nat → Int} (h : MatI w g m n R F) (hg : w'.heap[g]? = w.heap[g]?) (hr : ∀ i, i < m → w'.heap[R i]? = w.heap[R i]?) : MatI w' g m n R F :=
  ⟨fun i hi => (World.cell?_of_block (w := w) (a := ⟨g, i, none⟩) hg).trans (h.outer i hi), fun i hi => (h.rows i hi).of_block (hr i hi), h.inj, h.ne⟩
theorem MatI.lt {w : World} {g m n : Nat} {R : Nat → Nat} {F : Nat → Nat → Int} (h : MatI w g m n R F) (hm : 0 < m) : g < w.heap.size := World.block_lt_of_cell? _ _ (h.outer 0 hm)
theorem MatI.below {w w' : World} {g m n : Nat} {R : Nat → Nat} {F : Nat → Nat → Int} (h : MatI w g m n R F) (hb : Below w.heap.size w w') : MatI w' g m n R F :=
  ⟨fun i hi => (hb.cell (p := ⟨g, i, none⟩) (h.lt (by omega))).trans (h.outer i hi), fun i hi => (h.rows i hi).of_block (hb.block _ (World.rowIs.lt (h.rows i hi))), h.inj, h.ne⟩

end Go.Proofs.Ytmndgoapkmhglab

/- what stands for itself, of lists and streams as they lie; what a program's Streams must hand over. -/
namespace Go.Proofs.Ytmndgoapkmhglab
open Go.RowKit

theorem row_eq {xs ys : List Int} (hl : xs.length = ys.length) (h : ∀ j, (hx : j < xs.length) → (hy : j < ys.length) → xs[j] = ys[j]) : (xs == ys) = true := by
  rw [beq_iff_eq]
  exact List.ext_getElem hl h
theorem row_ne {xs ys : List Int} {j : Nat} (hx : j < xs.length) (hy : j < ys.length) (h : xs[j] ≠ ys[j]) : (xs == ys) = false := by
  rw [beq_eq_false_iff_ne]
  rintro rfl
  exact h rfl


/-- numbers as cells. -/
def iCells (l : List Int) : List Value := l.map fun x => Value.int .i64 x
theorem iCells_len (l : List Int) : (iCells l).length = l.length := by simp [iCells]
theorem iCells_get (l : List Int) (j : Nat) : (iCells l)[j]? = l[j]?.map fun x => Value.int .i64 x := by simp [iCells]

theorem Try.infoIntsE : (Try.prog.info? 38).map (fun i => (i.zero, i.size, i.bytes)) = some (some (.slice none 0 0), 1, 24) := by kernel_rfl

/-- an argument's lists, as they came in: each with its address (nil or not). -/
structure ArgL (w : World) (A : Option Addr) (C : Nat) (ins : List (List Int)) (AS : Nat → Option Addr) (CS : Nat → Nat) : Prop where
  few : ins.length ≤ 5864062014805
  nil : A = none → ins = []
  out : 0 < ins.length → ∃ b o, A = some ⟨b, o, none⟩ ∧ b < w.heap.size ∧ ∀ r, (h : r < ins.length) → w.cell? ⟨b, o + r, none⟩ = some (.slice (AS r) ins[r].length (CS r))
  row : ∀ r, (h : r < ins.length) → RowAt w (.slice (AS r) ins[r].length (CS r)) ins[r] ∧ (AS r = none → ins[r] = []) ∧ ins[r].length ≤ 17592186044416
  cap : ∀ r, (h : r < ins.length) → ins[r].length ≤ CS r

theorem ArgL.below {w w' : World} {A : Option Addr} {C : Nat} {ins : List (List Int)} {AS : Nat → Option Addr} {CS : Nat → Nat} (h : ArgL w A C ins AS CS) (hb : Below w.heap.size w w') : ArgL w' A C ins AS CS := by
  refine ⟨h.few, h.nil, fun hp => ?_, fun r hr => ⟨(h.row r hr).1.below hb, (h.row r hr).2⟩, h.cap⟩
  obtain ⟨b, o, h1, h2, h3⟩ := h.out hp
  exact ⟨b, o, h1, Nat.lt_of_lt_of_le h2 hb.size, fun r hr => (hb.cell (p := ⟨b, o + r, none⟩) h2).trans (h3 r hr)⟩
theorem ArgL.ls {w : World} {A : Option Addr} {C : Nat} {ins : List (List Int)} {AS : Nat → Option Addr} {CS : Nat → Nat} (h : ArgL w A C ins AS CS) : LsAt w (.slice A ins.length C) ins := by
  refine ⟨A, C, rfl, by have := h.few; omega, fun hp => ?_⟩
  obtain ⟨b, o, h1, h2, h3⟩ := h.out hp
  exact ⟨b, o, h1, h2, fun r hr => ⟨_, h3 r hr, (h.row r hr).1⟩⟩

/-- a row of n values. -/
def rowF (F : Nat → Nat → Int) (i n : Nat) : List Int := (List.range n).map (F i)
theorem rowF_len (F : Nat → Nat → Int) (i n : Nat) : (rowF F i n).length = n := by simp [rowF]

/-- rows that came out, each its owner's. -/
structure OwnRows (B : Nat) (w : World) (v : Value) (m n : Nat) (F : Nat → Nat → Int) (g : Nat) (RV : Nat → Value) : Prop where
  shape : ∃ (a : Option Addr) (cap : Nat), v = .slice a m cap ∧ (0 < m → a = some ⟨g, 0, none⟩)
  outer : ∀ i, i < m → w.cell? ⟨g, i, none⟩ = some (RV i)
  rows : ∀ i, i < m → w.ownsRow B 3 1 (RV i) n (iCells (rowF F i n))
  apart : ∀ i j, i < m → j < m → i ≠ j → ∀ b, (RV i).ownBlock = some b → (RV j).ownBlock ≠ some b
  ne : ∀ i, i < m → (RV i).ownBlock ≠ some g

/-- what the document's own answer to Streams is. -/
def strR (s : ByteArray) (n : Int) : Nat := if (textF s).1 ≠ 0 then (textF s).1 else if n < 0 ∨ 200 < n then 10 else 0
/-- rows that came out: each its own. -/
structure Outs (B : Nat) (w : World) (v : Value) (m n : Nat) (F : Nat → Nat → Int) : Prop where
  mat : ∃ (a : Option Addr) (g cap : Nat) (R : Nat → Nat), v = .slice a m cap ∧ (0 < m → a = some ⟨g, 0, none⟩) ∧ MatI w g m n R F ∧ (∀ i, i < m → B ≤ R i) ∧ B ≤ g

theorem Outs.own {B : Nat} {w : World} {v : Value} {m n : Nat} {F : Nat → Nat → Int} (h : Outs B w v m n F) (hn : n ≤ 1000) : ∃ g RV, OwnRows B w v m n F g RV := by
  obtain ⟨a, g, cap, R, h1, h2, h3, h4, h5⟩ := h.mat
  refine ⟨g, fun i => .slice (some ⟨R i, 0, none⟩) n n, ⟨a, cap, h1, h2⟩, h3.outer, fun i hi => ?_, fun i j hi hj hne b hb hb' => ?_, fun i hi hb => ?_⟩
  · obtain ⟨c, hc1, hc2, hc3⟩ := h3.rows i hi
    refine ⟨by rw [iCells_len, rowF_len]; omega, .inr ⟨R i, n, c, rfl, h4 i hi, hc1, Nat.le_refl _, by unfold maxLen; omega, by omega, ?_⟩⟩
    apply List.ext_getElem?
    intro j
    rw [List.getElem?_take, iCells_get]
    by_cases hj : j < n
    · rw [if_pos (by omega), Array.getElem?_toList, hc3 j hj]
      simp [rowF, hj]
    · rw [if_neg (by omega), List.getElem?_eq_none (by rw [rowF_len]; omega)]; rfl
  · simp only [Value.ownBlock, Option.some.injEq] at hb hb'
    exact hne (h3.inj i j hi hj (by omega))
  · simp only [Value.ownBlock, Option.some.injEq] at hb
    exact h3.ne i hi hb

/-- a row of the document's own answer, read. -/
theorem Outs.row {B : Nat} {w : World} {v : Value} {m n : Nat} {F : Nat → Nat → Int} (h : Outs B w v m n F) (hn : n ≤ 1000) : ∃ (a : Option Addr) (g cap : Nat) (R : Nat → Nat), v = .slice a m cap ∧ (0 < m → a = some ⟨g, 0, none⟩) ∧ (0 < m → B ≤ g ∧ g < w.heap.size) ∧ (∀ i, i < m → B ≤ R i ∧ R i < w.heap.size) ∧
    ∀ w', (∀ b, B ≤ b → b < w.heap.size → w'.heap[b]? = w.heap[b]?) → w.heap.size ≤ w'.heap.size → ∀ i, i < m → w'.cell? ⟨g, i, none⟩ = some (.slice (some ⟨R i, 0, none⟩) n n) ∧ RowAt w' (.slice (some ⟨R i, 0, none⟩) n n) (rowF F i n) := by
  obtain ⟨a, g, cap, R, h1, h2, h3, h4, h5⟩ := h.mat
  refine ⟨a, g, cap, R, h1, h2, fun hp => ⟨h5, h3.lt hp⟩, fun i hi => ⟨h4 i hi, World.rowIs.lt (h3.rows i hi)⟩, fun w' hk hs i hi => ⟨?_, _, _, by rw [rowF_len], by rw [rowF_len]; omega, fun hp => ⟨R i, 0, rfl, Nat.lt_of_lt_of_le (World.rowIs.lt (h3.rows i hi)) hs, fun c hc => ?_⟩⟩⟩
  · exact (World.cell?_of_block (w := w) (a := ⟨g, i, none⟩) (hk g h5 (h3.lt (by omega)))).trans (h3.outer i hi)
  · rw [rowF_len] at hc
    have h6 : w'.rowIs (R i) 3 n (fun j => .int .i64 (F i j)) := (h3.rows i hi).of_block (hk _ (h4 i hi) (World.rowIs.lt (h3.rows i hi)))
    rw [Nat.zero_add, h6.cell hc]
    simp [rowF]

theorem own_row {B : Nat} {w : World} {v : Value} {n : Nat} {xs : List Int} (h : w.ownsRow B 3 1 v n (iCells xs)) (hn : n ≤ 1000) (hl : xs.length = n) : RowAt w v xs := by
  rcases h.2 with ⟨rfl, h0⟩ | ⟨g, cap, cur, rfl, hb, hg, h1, h2, h3, h4⟩
  · exact ⟨none, 0, by rw [hl, h0], by omega, fun hp => by omega⟩
  · refine ⟨_, _, by rw [hl], by omega, fun hp => ⟨g, 0, rfl, (Array.getElem?_eq_some_iff.1 hg).1, fun c hc => ?_⟩⟩
    rw [Nat.zero_add, h.cellAt c (by omega), iCells_get, List.getElem?_eq_getElem hc]; rfl
theorem own_of {B : Nat} {w w' : World} {e : TypeId} {size n : Nat} {v : Value} {xs : List Value} (h : w.ownsRow B e size v n xs) (hk : ∀ b, v.ownBlock = some b → w'.heap[b]? = w.heap[b]?) : w'.ownsRow B e size v n xs := by
  refine ⟨h.1, ?_⟩
  rcases h.2 with h0 | ⟨g, cap, cur, rfl, hb, hg, h1⟩
  · exact .inl h0
  · exact .inr ⟨g, cap, cur, rfl, hb, (hk g rfl).trans hg, h1⟩

/-- what a program's Streams answers. -/
def StrQ (s : ByteArray) (ins : List (List Int)) (n : Int) (B : Nat) (w' : World) (v : Value) : Prop :=
  if strR s n = 0 then ∀ L, RGood s L → Right (toks s) L → ∃ g RV, OwnRows B w' v (eqL L).length n.toNat (sol (toks s) L ins) g RV else ∃ a cap, v = .slice a 0 cap


end Go.Proofs.Ytmndgoapkmhglab
