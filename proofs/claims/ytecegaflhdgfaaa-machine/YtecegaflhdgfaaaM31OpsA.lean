import Derived.Test.YtecegaflhdgfaaaM12ScanA
import Derived.Test.YtecegaflhdgfaaaM29TabBn
import Derived.Test.YtecegaflhdgfaaaM30StrC
/- what stands for itself, of lists and streams as they lie; what a program's Streams must hand over. -/
namespace Go.Proofs.Ytecegaflhdgfaaa
open Go.RowKit

theorem row_eq {xs ys : List Int} (hl : xs.length = ys.length) (h : ∀ j, (hx : j < xs.length) → (hy : j < ys.length) → xs[j] = ys[j]) : (xs == ys) = true := by
  rw [beq_iff_eq]
  exact List.ext_getElem hl h
theorem row_ne {xs ys : List Int} {j : Nat} (hx : j < xs.length) (hy : j < ys.length) (h : xs[j] ≠ ys[j]) : (xs == ys) = false := by
  rw [beq_eq_false_iff_ne]
  rintro rfl
  exact h rfl


/-- numbers as cells. -/
def iCells (l : List Int) : List Value := l.map fun x => Value.int .i64 x
theorem iCells_len (l : List Int) : (iCells l).length = l.length := by simp [iCells]
theorem iCells_get (l : List Int) (j : Nat) : (iCells l)[j]? = l[j]?.map fun x => Value.int .i64 x := by simp [iCells]

theorem Try.infoIntsE : (Try.prog.info? 48).map (fun i => (i.zero, i.size, i.bytes)) = some (some (.slice none 0 0), 1, 24) := by kernel_rfl

/-- an argument's lists, as they came in: each with its address (nil or not). -/
structure ArgL (w : World) (A : Option Addr) (C : Nat) (ins : List (List Int)) (AS : Nat → Option Addr) (CS : Nat → Nat) : Prop where
  few : ins.length ≤ 5864062014805
  nil : A = none → ins = []
  out : 0 < ins.length → ∃ b o, A = some ⟨b, o, none⟩ ∧ b < w.heap.size ∧ ∀ r, (h : r < ins.length) → w.cell? ⟨b, o + r, none⟩ = some (.slice (AS r) ins[r].length (CS r))
  row : ∀ r, (h : r < ins.length) → RowAt w (.slice (AS r) ins[r].length (CS r)) ins[r] ∧ (AS r = none → ins[r] = []) ∧ ins[r].length ≤ 17592186044416
  cap : ∀ r, (h : r < ins.length) → ins[r].length ≤ CS r

theorem ArgL.below {w w' : World} {A : Option Addr} {C : Nat} {ins : List (List Int)} {AS : Nat → Option Addr} {CS : Nat → Nat} (h : ArgL w A C ins AS CS) (hb : Below w.heap.size w w') : ArgL w' A C ins AS CS := by
  refine ⟨h.few, h.nil, fun hp => ?_, fun r hr => ⟨(h.row r hr).1.below hb, (h.row r hr).2⟩, h.cap⟩
  obtain ⟨b, o, h1, h2, h3⟩ := h.out hp
  exact ⟨b, o, h1, Nat.lt_of_lt_of_le h2 hb.size, fun r hr => (hb.cell (p := ⟨b, o + r, none⟩) h2).trans (h3 r hr)⟩
theorem ArgL.ls {w : World} {A : Option Addr} {C : Nat} {ins : List (List Int)} {AS : Nat → Option Addr} {CS : Nat → Nat} (h : ArgL w A C ins AS CS) : LsAt w (.slice A ins.length C) ins := by
  refine ⟨A, C, rfl, by have := h.few; omega, fun hp => ?_⟩
  obtain ⟨b, o, h1, h2, h3⟩ := h.out hp
  exact ⟨b, o, h1, h2, fun r hr => ⟨_, h3 r hr, (h.row r hr).1⟩⟩

/-- a row of n values. -/
def rowF (F : Nat → Nat → Int) (i n : Nat) : List Int := (List.range n).map (F i)
theorem rowF_len (F : Nat → Nat → Int) (i n : Nat) : (rowF F i n).length = n := by simp [rowF]

/-- rows that came out, each its owner's. -/
structure OwnRows (B : Nat) (w : World) (v : Value) (m n : Nat) (F : Nat → Nat → Int) (g : Nat) (RV : Nat → Value) : Prop where
  shape : ∃ (a : Option Addr) (cap : Nat), v = .slice a m cap ∧ (0 < m → a = some ⟨g, 0, none⟩)
  outer : ∀ i, i < m → w.cell? ⟨g, i, none⟩ = some (RV i)
  rows : ∀ i, i < m → w.ownsRow B 3 1 (RV i) n (iCells (rowF F i n))
  apart : ∀ i j, i < m → j < m → i ≠ j → ∀ b, (RV i).ownBlock = some b → (RV j).ownBlock ≠ some b
  ne : ∀ i, i < m → (RV i).ownBlock ≠ some g

/-- what the document's own answer to Streams is. -/
def strR (s : ByteArray) (n : Int) : Nat := if (textF s).1 ≠ 0 then (textF s).1 else if n < 0 ∨ 200 < n then 10 else 0
/-- rows that came out: each its own. -/
structure Outs (B : Nat) (w : World) (v : Value) (m n : Nat) (F : Nat → Nat → Int) : Prop where
  mat : ∃ (a : Option Addr) (g cap : Nat) (R : Nat → Nat), v = .slice a m cap ∧ (0 < m → a = some ⟨g, 0, none⟩) ∧ MatI w g m n R F ∧ (∀ i, i < m → B ≤ R i) ∧ B ≤ g

theorem Outs.own {B : Nat} {w : World} {v : Value} {m n : Nat} {F : Nat → Nat → Int} (h : Outs B w v m n F) (hn : n ≤ 1000) : ∃ g RV, OwnRows B w v m n F g RV := by
  obtain ⟨a, g, cap, R, h1, h2, h3, h4, h5⟩ := h.mat
  refine ⟨g, fun i => .slice (some ⟨R i, 0, none⟩) n n, ⟨a, cap, h1, h2⟩, h3.outer, fun i hi => ?_, fun i j hi hj hne b hb hb' => ?_, fun i hi hb => ?_⟩
  · obtain ⟨c, hc1, hc2, hc3⟩ := h3.rows i hi
    refine ⟨by rw [iCells_len, rowF_len]; omega, .inr ⟨R i, n, c, rfl, h4 i hi, hc1, Nat.le_refl _, by unfold maxLen; omega, by omega, ?_⟩⟩
    apply List.ext_getElem?
    intro j
    rw [List.getElem?_take, iCells_get]
    by_cases hj : j < n
    · rw [if_pos (by omega), Array.getElem?_toList, hc3 j hj]
      simp [rowF, hj]
    · rw [if_neg (by omega), List.getElem?_eq_none (by rw [rowF_len]; omega)]; rfl
  · simp only [Value.ownBlock, Option.some.injEq] at hb hb'
    exact hne (h3.inj i j hi hj (by omega))
  · simp only [Value.ownBlock, Option.some.injEq] at hb
    exact h3.ne i hi hb

/-- a row of the document's own answer, read. -/
theorem Outs.row {B : Nat} {w : World} {v : Value} {m n : Nat} {F : Nat → Nat → Int} (h : Outs B w v m n F) (hn : n ≤ 1000) : ∃ (a : Option Addr) (g cap : Nat) (R : Nat → Nat), v = .slice a m cap ∧ (0 < m → a = some ⟨g, 0, none⟩) ∧ (0 < m → B ≤ g ∧ g < w.heap.size) ∧ (∀ i, i < m → B ≤ R i ∧ R i < w.heap.size) ∧
    ∀ w', (∀ b, B ≤ b → b < w.heap.size → w'.heap[b]? = w.heap[b]?) → w.heap.size ≤ w'.heap.size → ∀ i, i < m → w'.cell? ⟨g, i, none⟩ = some (.slice (some ⟨R i, 0, none⟩) n n) ∧ RowAt w' (.slice (some ⟨R i, 0, none⟩) n n) (rowF F i n) := by
  obtain ⟨a, g, cap, R, h1, h2, h3, h4, h5⟩ := h.mat
  refine ⟨a, g, cap, R, h1, h2, fun hp => ⟨h5, h3.lt hp⟩, fun i hi => ⟨h4 i hi, World.rowIs.lt (h3.rows i hi)⟩, fun w' hk hs i hi => ⟨?_, _, _, by rw [rowF_len], by rw [rowF_len]; omega, fun hp => ⟨R i, 0, rfl, Nat.lt_of_lt_of_le (World.rowIs.lt (h3.rows i hi)) hs, fun c hc => ?_⟩⟩⟩
  · exact (World.cell?_of_block (w := w) (a := ⟨g, i, none⟩) (hk g h5 (h3.lt (by omega)))).trans (h3.outer i hi)
  · rw [rowF_len] at hc
    have h6 : w'.rowIs (R i) 3 n (fun j => .int .i64 (F i j)) := (h3.rows i hi).of_block (hk _ (h4 i hi) (World.rowIs.lt (h3.rows i hi)))
    rw [Nat.zero_add, h6.cell hc]
    simp [rowF]

theorem own_row {B : Nat} {w : World} {v : Value} {n : Nat} {xs : List Int} (h : w.ownsRow B 3 1 v n (iCells xs)) (hn : n ≤ 1000) (hl : xs.length = n) : RowAt w v xs := by
  rcases h.2 with ⟨rfl, h0⟩ | ⟨g, cap, cur, rfl, hb, hg, h1, h2, h3, h4⟩
  · exact ⟨none, 0, by rw [hl, h0], by omega, fun hp => by omega⟩
  · refine ⟨_, _, by rw [hl], by omega, fun hp => ⟨g, 0, rfl, (Array.getElem?_eq_some_iff.1 hg).1, fun c hc => ?_⟩⟩
    rw [Nat.zero_add, h.cellAt c (by omega), iCells_get, List.getElem?_eq_getElem hc]; rfl
theorem own_of {B : Nat} {w w' : World} {e : TypeId} {size n : Nat} {v : Value} {xs : List Value} (h : w.ownsRow B e size v n xs) (hk : ∀ b, v.ownBlock = some b → w'.heap[b]? = w.heap[b]?) : w'.ownsRow B e size v n xs := by
  refine ⟨h.1, ?_⟩
  rcases h.2 with h0 | ⟨g, cap, cur, rfl, hb, hg, h1⟩
  · exact .inl h0
  · exact .inr ⟨g, cap, cur, rfl, hb, (hk g rfl).trans hg, h1⟩

/-- what a program's Streams answers. -/
def StrQ (s : ByteArray) (ins : List (List Int)) (n : Int) (B : Nat) (w' : World) (v : Value) : Prop :=
  if strR s n = 0 then ∀ L, RGood s L → Right (toks s) L → ∃ g RV, OwnRows B w' v (eqL L).length n.toNat (sol (toks s) L ins) g RV else ∃ a cap, v = .slice a 0 cap


end Go.Proofs.Ytecegaflhdgfaaa

/- operations, and acts, as they lie. -/
namespace Go.Proofs.Ytecegaflhdgfaaa
open Go.RowKit

/-- operations, as they lie. -/
def OpsAt (w : World) (v : Value) (ops : List OpF) : Prop :=
  ∃ (A : Option Addr) (C : Nat), v = .slice A ops.length C ∧ ops.length ≤ 4398046511104 ∧ (0 < ops.length → ∃ b o, A = some ⟨b, o, none⟩ ∧ b < w.heap.size ∧ ∀ i, (h : i < ops.length) →
    w.cell? ⟨b, o + i * 4, none⟩ = some (.int .i64 ops[i].k) ∧ w.cell? ⟨b, o + i * 4 + 1, none⟩ = some (.int .i64 ops[i].a) ∧ w.cell? ⟨b, o + i * 4 + 2, none⟩ = some (.int .i64 ops[i].b) ∧ w.cell? ⟨b, o + i * 4 + 3, none⟩ = some (.int .i64 ops[i].c))
theorem OpsAt.below {w w' : World} {v : Value} {ops : List OpF} (h : OpsAt w v ops) (hb : Below w.heap.size w w') : OpsAt w' v ops := by
  obtain ⟨A, C, hv, hm, hc⟩ := h
  refine ⟨A, C, hv, hm, fun hp => ?_⟩
  obtain ⟨b, o, h1, h2, h3⟩ := hc hp
  refine ⟨b, o, h1, Nat.lt_of_lt_of_le h2 hb.size, fun i hi => ?_⟩
  obtain ⟨k0, k1, k2, k3⟩ := h3 i hi
  exact ⟨(hb.cell (p := ⟨b, o + i * 4, none⟩) h2).trans k0, (hb.cell (p := ⟨b, o + i * 4 + 1, none⟩) h2).trans k1, (hb.cell (p := ⟨b, o + i * 4 + 2, none⟩) h2).trans k2, (hb.cell (p := ⟨b, o + i * 4 + 3, none⟩) h2).trans k3⟩

end Go.Proofs.Ytecegaflhdgfaaa
