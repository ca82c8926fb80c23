import Derived.Test.YtecegaflhdgfaaaM30StrC
import Derived.Test.YtecegaflhdgfaaaM37LawN
/- what a program's Exec must hand over; plain parts of the statement on it. -/
namespace Go.Proofs.Ytecegaflhdgfaaa
open Go.RowKit

/-- what Exec answers: two lists, each its owner's. -/
structure ExQ (r : Nat × List Int × List Int) (B : Nat) (w : World) (vo vn : Value) : Prop where
  out : w.ownsRow B 3 1 vo r.2.1.length (iCells r.2.1)
  next : w.ownsRow B 3 1 vn r.2.2.length (iCells r.2.2)
  apart : ∀ b, vo.ownBlock = some b → vn.ownBlock ≠ some b

theorem below_grown {B : Nat} {w w' : World} {r : Option Nat} (h : w.grownBy w' r) (hr : ∀ b, r = some b → B ≤ b) (hB : B ≤ w.heap.size) : Below B w w' :=
  ⟨h.os, h.tape, h.output, h.size, fun b hb => h.block b (by omega) (fun e => by have := hr b e.symm; omega)⟩

theorem box_at {w W b : World} {cs : Array Value} {t : TypeId} (he : b = w.alloc (.cells cs t)) (hW : Below b.heap.size b W) : W.heap[w.heap.size]? = some (.cells cs t (0, 0)) := by
  subst he
  exact (hW.block _ (by simp)).trans (heap_alloc_new _ _)

/-- numbers that are handed in. -/
structure ArgR (w : World) (A : Option Addr) (C : Nat) (xs : List Int) : Prop where
  row : RowAt w (.slice A xs.length C) xs
  nil : A = none → xs = []
  few : xs.length ≤ 17592186044416
theorem ArgR.below {w w' : World} {A : Option Addr} {C : Nat} {xs : List Int} (h : ArgR w A C xs) (hb : Below w.heap.size w w') : ArgR w' A C xs := ⟨h.row.below hb, h.nil, h.few⟩

/-- both answers, and what becomes of them. -/
structure Exs (w4 w5 w6 : World) (r : Nat × List Int × List Int) (vo vn va vb : Value) : Prop where
  q : ExQ r w4.heap.size w5 vo vn
  a : w6.ownsRow w5.heap.size 3 1 va r.2.1.length (iCells r.2.1)
  b : w6.ownsRow w5.heap.size 3 1 vb r.2.2.length (iCells r.2.2)
  bel : Below w5.heap.size w5 w6
  lo : r.2.1.length ≤ 1500
  ln : r.2.2.length ≤ 1500

theorem below_own {w w' : World} {B : Nat} {e : TypeId} {size n : Nat} {v : Value} {xs : List Value} (h : w.ownsRow B e size v n xs) (hb : Below w.heap.size w w') : w'.ownsRow B e size v n xs :=
  own_of h (fun b hbk => hb.block b (h.lt b hbk).2)

/-- what is walked of the first list. -/
theorem Exs.first {w4 w5 w6 : World} {r : Nat × List Int × List Int} {vo vn va vb : Value} (h : Exs w4 w5 w6 r vo vn va vb) : RowAt w6 vo r.2.1 ∧ RowAt w6 va r.2.1 := by
  have lo := h.lo
  exact ⟨own_rowN (below_own h.q.out h.bel) (by omega) rfl, own_rowN h.a (by omega) rfl⟩
/-- what is walked of the second list when the first one is written full. -/
theorem Exs.second {w4 w5 w6 w7 w8 : World} {r : Nat × List Int × List Int} {vo vn va vb : Value} (h : Exs w4 w5 w6 r vo vn va vb) (h7 : Below w6.heap.size w6 w7) (h8 : w7.grownBy w8 vo.ownBlock) : w8.ownsRow w4.heap.size 3 1 vn r.2.2.length (iCells r.2.2) ∧ RowAt w8 vn r.2.2 ∧ RowAt w8 vb r.2.2 := by
  have ln := h.ln
  have s5 := h.bel.size
  have s6 := h7.size
  have hn7 := below_own (below_own h.q.next h.bel) h7
  have hn8 : w8.ownsRow w4.heap.size 3 1 vn r.2.2.length (iCells r.2.2) := own_of hn7 (fun b hb => h8.block b (hn7.lt b hb).2 (fun e => h.q.apart b e.symm hb))
  have hb7 := below_own h.b h7
  have hb8 : w8.ownsRow w5.heap.size 3 1 vb r.2.2.length (iCells r.2.2) := own_of hb7 (fun b hb => h8.block b (hb7.lt b hb).2 (fun e => by have h1 := (h.q.out.lt b e.symm).2; have h2 := (hb7.lt b hb).1; omega))
  exact ⟨hn8, own_rowN hn8 (by omega) rfl, own_rowN hb8 (by omega) rfl⟩
/-- the first list stays full when the second one is written full. -/
theorem Exs.full {w4 w5 w6 w7 w8 w9 w10 : World} {r : Nat × List Int × List Int} {vo vn va vb : Value} (h : Exs w4 w5 w6 r vo vn va vb) (h7 : Below w6.heap.size w6 w7) {o : OwnV} (ho : OwnAt w8 (fun b => vo.ownBlock = some b ∨ w7.heap.size ≤ b) o) (h9 : Below w8.heap.size w8 w9) (h10 : w9.grownBy w10 vn.ownBlock) : OwnAt w10 (fun b => vo.ownBlock = some b ∨ w7.heap.size ≤ b) o := by
  have s5 := h.bel.size
  have s6 := h7.size
  refine (ho.below h9).keep h10.size (fun _ _ h => h) (fun b hb hK c hc => ?_)
  refine (World.cell?_of_block (w := w9) (a := ⟨b, c, none⟩) (h10.block b hb (fun e => ?_))).trans hc
  have hl := (h.q.next.lt b e.symm).2
  rcases hK with hK | hK
  · exact h.q.apart b hK e.symm
  · omega
theorem Exs.keep {w4 w5 w6 w7 w8 w9 w10 : World} {r : Nat × List Int × List Int} {vo vn va vb : Value} (h : Exs w4 w5 w6 r vo vn va vb) (h4 : Below w4.heap.size w4 w5) (h7 : Below w6.heap.size w6 w7) (h8 : w7.grownBy w8 vo.ownBlock) (h9 : Below w8.heap.size w8 w9) (h10 : w9.grownBy w10 vn.ownBlock) : Below w4.heap.size w4 w10 := by
  have s4 := h4.size
  have s5 := h.bel.size
  have s6 := h7.size
  have s7 := h8.size
  have s8 := h9.size
  have k7 : Below w4.heap.size w4 w7 := (h4.trans (h.bel.mono s4)).trans (h7.mono (by omega))
  have k8 : Below w4.heap.size w4 w8 := k7.trans (below_grown h8 (fun b e => (h.q.out.lt b e).1) (by omega))
  have k9 : Below w4.heap.size w4 w9 := k8.trans (h9.mono (by omega))
  exact k9.trans (below_grown h10 (fun b e => (h.q.next.lt b e).1) (by omega))

end Go.Proofs.Ytecegaflhdgfaaa

/- Plain mathematics: what is a truth is 0 or 1, at every instant. -/
namespace Go.Proofs.Ytecegaflhdgfaaa

def Bit (x : Int) : Prop := x = 0 ∨ x = 1
theorem bit_b2i (b : Bool) : Bit (b2i b) := by cases b <;> simp [Bit, b2i]

theorem or_none {a b : Option Nat} (h : a.or b = none) : a = none ∧ b = none := by cases a <;> simp_all
theorem bad_if {c : Bool} {p : Nat} {x : Option Nat} (h : (if c = true then some p else x) = none) : c = false ∧ x = none := by
  cases c <;> simp_all

theorem w64_id (x : Int) (h1 : -9223372036854775808 ≤ x) (h2 : x < 9223372036854775808) : w64 x = x := by
  unfold w64 Go.RowKit.wrap64
  omega

section
variable {ts : List Tk} (hF : ∀ i, TkF (tkAt ts i)) {L : List Dl}
include hF

theorem lit_bit {i : Nat} (h2 : litT (tkAt ts i) = true) (hb : badR ts L i 116 = false) : Bit (litV (tkAt ts i)) := by
  have hlf : leafT (tkAt ts i) = true := by unfold leafT; rw [h2]; rfl
  have hk1 : (tkAt ts i).kind ≠ 1 := by have := lit_nm hF h2; unfold isNm at this; simpa using this
  by_cases h3 : (tkAt ts i).kind = 3
  · have hi : isR ts L i = 110 := by unfold isR; rw [if_neg hk1, if_pos h3]
    unfold badR at hb; rw [hi] at hb; cases hb
  · unfold litV; rw [if_neg h3]; exact bit_b2i _

omit hF in
theorem op_truth {o : List UInt8} (h : (opOf o).isSome = true) (h2 : opR o = 116) (a b : Int) : Bit (apF o a b) := by
  revert h h2
  unfold opOf
  split; · rename_i e; subst e; intro _ h; exact absurd h (by decide)
  split; · rename_i e; subst e; intro _ h; exact absurd h (by decide)
  split; · rename_i e; subst e; intro _ h; exact absurd h (by decide)
  split; · rename_i e; subst e; intro _ h; exact absurd h (by decide)
  split; · rename_i e; subst e; intro _ _; exact bit_b2i _
  split; · rename_i e; subst e; intro _ _; exact bit_b2i _
  split; · rename_i e; subst e; intro _ _; exact bit_b2i _
  split; · rename_i e; subst e; intro _ _; exact bit_b2i _
  · intro h; cases h

theorem ev_bit {V : List UInt8 → Nat → Int} (hV : ∀ k n, k < ts.length → nameT ts L k = true → Bit (V (lAt ts k) n)) : ∀ (t : Ast) (i n : Nat), Sp ts t i → i + t.len ≤ ts.length → wrongR ts L t i 116 = none → Bit (evT ts V t i n) := by
  intro t
  induction t with
  | leaf =>
    intro i n hs hl h
    simp only [Ast.len] at hl
    simp only [wrongR] at h
    obtain ⟨hb, _⟩ := bad_if h
    unfold evT
    by_cases h1 : (tkAt ts i).kind = 1
    · rw [if_pos h1]
      cases hn : nameT ts L i with
      | true => exact hV i n (by omega) hn
      | false =>
        have hi : isR ts L i = 110 := by unfold isR; rw [if_pos h1, hn]; rfl
        unfold badR at hb; rw [hi] at hb; cases hb
    · rw [if_neg h1]
      have h2 : litT (tkAt ts i) = true := by
        have := hs.1
        unfold leafT at this
        have hk : ((tkAt ts i).kind == 1) = false := by simpa using h1
        rwa [hk, Bool.or_false] at this
      exact lit_bit hF h2 hb
  | neg a iha =>
    intro i n hs hl h
    obtain ⟨h1, h2, h3, h4⟩ := hs
    simp only [Ast.len] at hl
    simp only [wrongR] at h
    have ha := iha (i + 2) n h3 (by omega) (bad_if h).2
    simp only [evT]
    rcases ha with ha | ha <;> rw [ha] <;> simp [Bit, w64, Go.RowKit.wrap64]
  | ite a b c iha ihb ihc =>
    intro i n hs hl h
    obtain ⟨h1, h2, h3, h4, h5, h6⟩ := hs
    simp only [Ast.len] at hl
    simp only [wrongR] at h
    obtain ⟨_, h⟩ := bad_if h
    obtain ⟨_, h⟩ := or_none h
    obtain ⟨hb, hc⟩ := or_none h
    simp only [evT]
    split
    · exact ihb _ n h4 (by omega) hb
    · exact ihc _ n h5 (by omega) hc
  | dly b ihb =>
    intro i n hs hl h
    obtain ⟨h1, h2, h3, h4, h5⟩ := hs
    simp only [Ast.len] at hl
    simp only [wrongR] at h
    obtain ⟨_, h⟩ := bad_if h
    obtain ⟨hb, hc⟩ := or_none h
    cases n with
    | zero => simp only [evT]; exact lit_bit hF h2 (bad_if hb).1
    | succ n => simp only [evT]; exact ihb _ n h4 (by omega) hc
  | bin a b iha ihb =>
    intro i n hs hl h
    obtain ⟨h1, h2, h3, h4, h5⟩ := hs
    obtain ⟨n1, n2⟩ := sp_first hF h2
    simp only [Ast.len] at hl
    simp only [wrongR] at h
    obtain ⟨hb, _⟩ := bad_if h
    have hbh : behindF ts (i + 1) = i + 1 + a.len := behind_sp hF a (i + 1) h2 (by omega)
    have hi : isR ts L i = opR (lAt ts (i + 1 + a.len)) := by rw [isR_open hF h1, if_neg n1, if_neg n2, hbh]
    simp only [evT]
    refine op_truth h3 ?_ _ _
    unfold badR at hb
    rw [hi] at hb
    have hne : lAt ts (i + 1 + a.len) ≠ kFby := fun e => by rw [e] at h3; revert h3; decide
    unfold opR at hb ⊢
    rw [if_neg hne] at hb ⊢
    split at hb
    · cases hb
    · rename_i hx; rw [if_neg hx]

end

theorem nameT_of {ts : List Tk} {L : List Dl} (H : Right ts L) {k : Nat} (h : nameT ts L k = true) : ∃ j x, inIx ts L (lAt ts k) = none ∧ eqIx ts L (lAt ts k) = some j ∧ (eqL L)[j]? = some x ∧ x.kind = 2 := by
  unfold nameT at h
  rw [List.any_eq_true] at h
  obtain ⟨x, hx, h2⟩ := h
  rw [Bool.and_eq_true, beq_iff_eq, beq_iff_eq] at h2
  obtain ⟨j, hj⟩ := ix_some (p := nmIs ts (lAt ts k)) hx (by unfold nmIs; rw [h2.1]; simp)
  obtain ⟨z, hz, hn⟩ := eqIx_some hj
  obtain ⟨m, hm, rfl⟩ := List.getElem_of_mem hx
  have hjm := H.same hz (List.getElem?_eq_getElem hm) (hn.trans h2.1.symm)
  subst hjm
  refine ⟨j, _, ?_, hj, List.getElem?_eq_getElem hm, h2.2⟩
  cases hi : inIx ts L (lAt ts k) with
  | none => rfl
  | some i =>
    exfalso
    obtain ⟨g1, g2, _⟩ := List.findIdx?_eq_some_iff_getElem.1 hi
    have g3 : (nameD ts (inL L)[i]).data.toList = lAt ts k := by simpa [nmIs] using g2
    have m1 := List.mem_filter.1 (List.getElem_mem g1)
    have m2 := List.mem_filter.1 hx
    have e := H.own _ m1.1 _ m2.1 (g3.trans h2.1.symm)
    have hp := H.pw
    have k1 : (inL L)[i].kind = 0 := by simpa using m1.2
    have k2 : (eqL L)[j].kind ≠ 0 := by simpa using m2.2
    obtain ⟨a, ha, ea⟩ := List.getElem_of_mem m1.1
    obtain ⟨b, hb, eb⟩ := List.getElem_of_mem m2.1
    rw [List.pairwise_iff_getElem] at hp
    rw [← ea] at k1 e
    rw [← eb] at k2 e
    rcases Nat.lt_trichotomy a b with h | h | h
    · have := hp a b ha hb h; have := L[a].len_pos; omega
    · subst h; exact k2 k1
    · have := hp b a hb ha h; have := L[b].len_pos; omega

theorem val_bit {ts : List Tk} {L : List Dl} (H : Right ts L) {ins : List (List Int)} {R : Nat → Nat → Int} (hR : ∀ j n x, (eqL L)[j]? = some x → x.kind = 2 → Bit (R j n)) : ∀ k n, k < ts.length → nameT ts L k = true → Bit (valV ts L ins R (lAt ts k) n) := by
  intro k n _ h
  obtain ⟨j, x, h1, h2, h3, h4⟩ := nameT_of H h
  unfold valV
  rw [h1, h2]
  exact hR j n x h3 h4

theorem solF_bit {ts : List Tk} {L : List Dl} (H : Right ts L) (hT : typesR ts L = none) {ins : List (List Int)} : ∀ f j n x, (eqL L)[j]? = some x → x.kind = 2 → Bit (solF ts L ins f j n) := by
  intro f
  induction f with
  | zero => intro j n x _ _; exact .inl rfl
  | succ f ih =>
    intro j n x hx hk
    simp only [solF, bodyV, hx]
    obtain ⟨hs, hl⟩ := H.sp x (List.mem_of_getElem? hx)
    unfold typesR at hT
    rw [List.findSome?_eq_none_iff] at hT
    have hw := hT x (List.mem_of_getElem? hx)
    rw [hk] at hw
    exact ev_bit H.F (val_bit H ih) x.t _ n hs hl hw

theorem sol_bit {ts : List Tk} {L : List Dl} (H : Right ts L) (hT : typesR ts L = none) {ins : List (List Int)} (j n : Nat) (x : Dl) (hx : (eqL L)[j]? = some x) (hk : x.kind = 2) : Bit (sol ts L ins j n) := solF_bit H hT _ j n x hx hk

end Go.Proofs.Ytecegaflhdgfaaa
