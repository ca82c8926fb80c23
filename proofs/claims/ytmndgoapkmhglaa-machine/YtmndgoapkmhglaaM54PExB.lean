import Derived.Test.YtmndgoapkmhglaaM06JudA
import Derived.Test.YtmndgoapkmhglaaM25OpenL
import Derived.Test.YtmndgoapkmhglaaM50ExA
import Derived.Test.YtmndgoapkmhglaaM53ExF
/- num. -/
namespace Go.Proofs.Ytmndgoapkmhglaa
open Go.RowKit
attribute [local go_sem ↓] Go.wp_at_zero Go.wp_at_succ

theorem num_of (n : Int) (w : World) :
    Calls Try.prog 14 #[.int .i64 n] w fun e w' => e = .returned (.int .i64 n) ∧ w = w' := by
  go_enter Try.func14, Try.ntmps14
  go_wp2
  go_ret
  exact ⟨rfl, rfl⟩

end Go.Proofs.Ytmndgoapkmhglaa

/- what a program's Exec must hand over; plain parts of the statement on it. -/
namespace Go.Proofs.Ytmndgoapkmhglaa
open Go.RowKit

/-- what Exec answers: two lists, each its owner's. -/
structure ExQ (r : Nat × List Int × List Int) (B : Nat) (w : World) (vo vn : Value) : Prop where
  out : w.ownsRow B 3 1 vo r.2.1.length (iCells r.2.1)
  next : w.ownsRow B 3 1 vn r.2.2.length (iCells r.2.2)
  apart : ∀ b, vo.ownBlock = some b → vn.ownBlock ≠ some b

theorem below_grown {B : Nat} {w w' : World} {r : Option Nat} (h : w.grownBy w' r) (hr : ∀ b, r = some b → B ≤ b) (hB : B ≤ w.heap.size) : Below B w w' :=
  ⟨h.os, h.tape, h.output, h.size, fun b hb => h.block b (by omega) (fun e => by have := hr b e.symm; omega)⟩

theorem box_at {w W b : World} {cs : Array Value} {t : TypeId} (he : b = w.alloc (.cells cs t)) (hW : Below b.heap.size b W) : W.heap[w.heap.size]? = some (.cells cs t (0, 0)) := by
  subst he
  exact (hW.block _ (by simp)).trans (heap_alloc_new _ _)

/-- numbers that are handed in. -/
structure ArgR (w : World) (A : Option Addr) (C : Nat) (xs : List Int) : Prop where
  row : RowAt w (.slice A xs.length C) xs
  nil : A = none → xs = []
  few : xs.length ≤ 17592186044416
theorem ArgR.below {w w' : World} {A : Option Addr} {C : Nat} {xs : List Int} (h : ArgR w A C xs) (hb : Below w.heap.size w w') : ArgR w' A C xs := ⟨h.row.below hb, h.nil, h.few⟩

/-- both answers, and what becomes of them. -/
structure Exs (w4 w5 w6 : World) (r : Nat × List Int × List Int) (vo vn va vb : Value) : Prop where
  q : ExQ r w4.heap.size w5 vo vn
  a : w6.ownsRow w5.heap.size 3 1 va r.2.1.length (iCells r.2.1)
  b : w6.ownsRow w5.heap.size 3 1 vb r.2.2.length (iCells r.2.2)
  bel : Below w5.heap.size w5 w6
  lo : r.2.1.length ≤ 1500
  ln : r.2.2.length ≤ 1500

theorem below_own {w w' : World} {B : Nat} {e : TypeId} {size n : Nat} {v : Value} {xs : List Value} (h : w.ownsRow B e size v n xs) (hb : Below w.heap.size w w') : w'.ownsRow B e size v n xs :=
  own_of h (fun b hbk => hb.block b (h.lt b hbk).2)

/-- what is walked of the first list. -/
theorem Exs.first {w4 w5 w6 : World} {r : Nat × List Int × List Int} {vo vn va vb : Value} (h : Exs w4 w5 w6 r vo vn va vb) : RowAt w6 vo r.2.1 ∧ RowAt w6 va r.2.1 := by
  have lo := h.lo
  exact ⟨own_rowN (below_own h.q.out h.bel) (by omega) rfl, own_rowN h.a (by omega) rfl⟩
/-- what is walked of the second list when the first one is written full. -/
theorem Exs.second {w4 w5 w6 w7 w8 : World} {r : Nat × List Int × List Int} {vo vn va vb : Value} (h : Exs w4 w5 w6 r vo vn va vb) (h7 : Below w6.heap.size w6 w7) (h8 : w7.grownBy w8 vo.ownBlock) : w8.ownsRow w4.heap.size 3 1 vn r.2.2.length (iCells r.2.2) ∧ RowAt w8 vn r.2.2 ∧ RowAt w8 vb r.2.2 := by
  have ln := h.ln
  have s5 := h.bel.size
  have s6 := h7.size
  have hn7 := below_own (below_own h.q.next h.bel) h7
  have hn8 : w8.ownsRow w4.heap.size 3 1 vn r.2.2.length (iCells r.2.2) := own_of hn7 (fun b hb => h8.block b (hn7.lt b hb).2 (fun e => h.q.apart b e.symm hb))
  have hb7 := below_own h.b h7
  have hb8 : w8.ownsRow w5.heap.size 3 1 vb r.2.2.length (iCells r.2.2) := own_of hb7 (fun b hb => h8.block b (hb7.lt b hb).2 (fun e => by have h1 := (h.q.out.lt b e.symm).2; have h2 := (hb7.lt b hb).1; omega))
  exact ⟨hn8, own_rowN hn8 (by omega) rfl, own_rowN hb8 (by omega) rfl⟩
/-- the first list stays full when the second one is written full. -/
theorem Exs.full {w4 w5 w6 w7 w8 w9 w10 : World} {r : Nat × List Int × List Int} {vo vn va vb : Value} (h : Exs w4 w5 w6 r vo vn va vb) (h7 : Below w6.heap.size w6 w7) {o : OwnV} (ho : OwnAt w8 (fun b => vo.ownBlock = some b ∨ w7.heap.size ≤ b) o) (h9 : Below w8.heap.size w8 w9) (h10 : w9.grownBy w10 vn.ownBlock) : OwnAt w10 (fun b => vo.ownBlock = some b ∨ w7.heap.size ≤ b) o := by
  have s5 := h.bel.size
  have s6 := h7.size
  refine (ho.below h9).keep h10.size (fun _ _ h => h) (fun b hb hK c hc => ?_)
  refine (World.cell?_of_block (w := w9) (a := ⟨b, c, none⟩) (h10.block b hb (fun e => ?_))).trans hc
  have hl := (h.q.next.lt b e.symm).2
  rcases hK with hK | hK
  · exact h.q.apart b hK e.symm
  · omega
theorem Exs.keep {w4 w5 w6 w7 w8 w9 w10 : World} {r : Nat × List Int × List Int} {vo vn va vb : Value} (h : Exs w4 w5 w6 r vo vn va vb) (h4 : Below w4.heap.size w4 w5) (h7 : Below w6.heap.size w6 w7) (h8 : w7.grownBy w8 vo.ownBlock) (h9 : Below w8.heap.size w8 w9) (h10 : w9.grownBy w10 vn.ownBlock) : Below w4.heap.size w4 w10 := by
  have s4 := h4.size
  have s5 := h.bel.size
  have s6 := h7.size
  have s7 := h8.size
  have s8 := h9.size
  have k7 : Below w4.heap.size w4 w7 := (h4.trans (h.bel.mono s4)).trans (h7.mono (by omega))
  have k8 : Below w4.heap.size w4 w8 := k7.trans (below_grown h8 (fun b e => (h.q.out.lt b e).1) (by omega))
  have k9 : Below w4.heap.size w4 w9 := k8.trans (h9.mono (by omega))
  exact k9.trans (below_grown h10 (fun b e => (h.q.next.lt b e).1) (by omega))

end Go.Proofs.Ytmndgoapkmhglaa

/- the program's machine: below, element, allBelow, opFormed. -/
namespace Go.Proofs.Ytmndgoapkmhglaa
open Go.RowKit
attribute [local go_sem ↓] Go.wp_at_zero Go.wp_at_succ

def belF (x e : Int) : Bool := decide (0 ≤ x) && decide (x < e)
theorem belF_reg (n : Nat) (x : Int) : belF x (n : Int) = regOk n x := rfl

theorem below_any (w : World) (x n : Int) :
    Calls Try.prog 147 #[.int .i64 x, .int .i64 n] w fun e w' => e = .returned (.bool (belF x n)) ∧ w = w' := by
  by_cases h0 : 0 ≤ x
  · by_cases h1 : x < n
    · have HF : Hid (belF x n = true) := hide (by unfold belF; rw [decide_eq_true h0, decide_eq_true h1]; rfl)
      have k0 : x ≥ 0 := h0
      go_enter Try.func147, Try.ntmps147
      go_wp2
      go_ret
      exact ⟨by rw [HF.out]; simp, rfl⟩
    · have HF : Hid (belF x n = false) := hide (by unfold belF; rw [decide_eq_false h1]; simp)
      have k0 : x ≥ 0 := h0
      go_enter Try.func147, Try.ntmps147
      go_wp2
      go_ret
      exact ⟨by rw [HF.out]; simp, rfl⟩
  · have HF : Hid (belF x n = false) := hide (by unfold belF; rw [decide_eq_false h0]; rfl)
    have k0 : ¬ x ≥ 0 := h0
    go_enter Try.func147, Try.ntmps147
    go_wp2
    go_ret
    exact ⟨by rw [HF.out]; rfl, rfl⟩

theorem melement_any (w : World) (v : Value) (l : List Int) (h : RowAt w v l) (i : Int) :
    Calls Try.prog 126 #[v, .int .i64 i] w fun e w' => e = .returned (.int .i64 (atF l i)) ∧ w = w' := by
  obtain ⟨A, C, rfl, hm, hc⟩ := h
  have HB := hide (fun W => below_any W i (l.length : Int))
  by_cases hb : belF i (l.length : Int) = true
  · rw [hb] at HB
    unfold belF at hb
    simp only [Bool.and_eq_true, decide_eq_true_eq] at hb
    obtain ⟨k, rfl⟩ : ∃ k : Nat, i = (k : Int) := ⟨i.toNat, by omega⟩
    have hk : k < l.length := by omega
    obtain ⟨b, o, rfl, hbb, hr⟩ := hc (by omega)
    have hx := hr k hk
    have HF : Hid (atF l (k : Int) = l[k]) := hide (by unfold atF; rw [if_neg (by omega), show ((k : Int)).toNat = k by omega, List.getD_eq_getElem?_getD, List.getElem?_eq_getElem hk]; rfl)
    have k1 : (0 : Int) ≤ (k : Int) := by omega
    have k2 : (k : Int) < (l.length : Int) := by omega
    generalize l[k] = z at hx HF
    clear hc hr hk hb
    go_enter Try.func126, Try.ntmps126
    go_wp2_with fail
    refine (HB.out _).mono ?_
    rintro e w1 ⟨rfl, rfl⟩
    go_wp2
    go_ret
    exact ⟨by rw [HF.out]; rfl, rfl⟩
  · have hbf : belF i (l.length : Int) = false := by simpa using hb
    rw [hbf] at HB
    have HF : Hid (atF l i = 0) := hide (by
      unfold belF at hb
      simp only [Bool.and_eq_true, decide_eq_true_eq] at hb
      unfold atF
      by_cases h0 : i < 0
      · rw [if_pos h0]
      · rw [if_neg h0, List.getD_eq_getElem?_getD, List.getElem?_eq_none (by omega)]; rfl)
    clear hc hb hbf
    go_enter Try.func126, Try.ntmps126
    go_wp2_with fail
    refine (HB.out _).mono ?_
    rintro e w1 ⟨rfl, rfl⟩
    go_wp2
    go_ret
    exact ⟨by rw [HF.out]; rfl, rfl⟩

theorem all_dropP {p : Int → Bool} {l : List Int} {k : Nat} (hk : k < l.length) (h : (l.drop k).all p = l.all p) : (p l[k] = false → l.all p = false) ∧ (p l[k] = true → (l.drop (k + 1)).all p = l.all p) := by
  rw [List.drop_eq_getElem_cons hk, List.all_cons] at h
  refine ⟨fun e => by rw [← h, e]; rfl, fun e => by rw [← h, e]; rfl⟩

set_option maxHeartbeats 1000000 in
theorem allBelow_any (w : World) (v : Value) (l : List Int) (h : RowAt w v l) (hl : l.length ≤ 1500) (n : Nat) :
    Calls Try.prog 125 #[v, .int .i64 (n : Int)] w fun e w' => e = .returned (.bool (l.all (regOk n))) ∧ w = w' := by
  obtain ⟨A, C, rfl, hm, hc⟩ := h
  have HC := hide hc
  have HB := hide (fun W x => below_any W x (n : Int))
  clear hc
  go_enter Try.func125, Try.ntmps125
  go_wp2
  go_loopw [9] (fun vj wx => ∃ j : Nat, j ≤ l.length ∧ vj = .int .i64 j ∧ w = wx ∧ (l.drop j).all (regOk n) = l.all (regOk n)) (fun vj _ => l.length - (intOf vj).toNat)
  case atStart => exact ⟨0, Nat.zero_le _, rfl, rfl, rfl⟩
  case round =>
    obtain ⟨j, hj, rfl, rfl, hrec⟩ := hrel
    by_cases hjl : j < l.length
    · obtain ⟨b, o, rfl, hbl, hcell⟩ := HC.out (by omega)
      have d0 := hcell j hjl
      obtain ⟨k1, k2⟩ := all_dropP hjl hrec
      have i1 : (0 : Int) ≤ (j : Int) := by omega
      have i2 : (j : Int) < (l.length : Int) := by omega
      have HBJ := hide (fun W => HB.out W l[j])
      by_cases hreg : regOk n l[j] = true
      · have HN2 := hide (k2 hreg)
        rw [belF_reg, hreg] at HBJ
        generalize l[j] = z at d0 HBJ
        clear hreg hcell hrec k1 k2
        go_wp2_with fail
        refine (HBJ.out _).mono ?_
        rintro e w1 ⟨rfl, rfl⟩
        go_wp2
        go_roundw
        case rel => exact ⟨j + 1, by omega, by go_num, by first | trivial | rfl, HN2.out⟩
        case measure => simp [intOf]; omega
      · have hrf : regOk n l[j] = false := by simpa using hreg
        have HF : Hid (l.all (regOk n) = false) := hide (k1 hrf)
        rw [belF_reg, hrf] at HBJ
        generalize l[j] = z at d0 HBJ
        clear hreg hcell hrec k1 k2 hrf
        go_wp2_with fail
        refine (HBJ.out _).mono ?_
        rintro e w1 ⟨rfl, rfl⟩
        go_wp2
        go_ret
        exact ⟨by rw [HF.out]; rfl, rfl⟩
    · have ej : j = l.length := by omega
      subst ej
      have z8 : ¬ (l.length : Int) < (l.length : Int) := by omega
      rw [List.drop_length] at hrec
      have HF : Hid (l.all (regOk n) = true) := hide (by rw [← hrec]; rfl)
      clear hrec
      go_wp2
      go_ret
      exact ⟨by rw [HF.out]; rfl, rfl⟩

end Go.Proofs.Ytmndgoapkmhglaa

/- the program's machine: opFormed. -/
namespace Go.Proofs.Ytmndgoapkmhglaa
open Go.RowKit
attribute [local go_sem ↓] Go.wp_at_zero Go.wp_at_succ

theorem opOk_eq (nc i : Nat) (k a b c : Int) (h0 : 0 ≤ k) (h14 : k ≤ 14) (h3 : k ≠ 3) : opOk nc i ⟨k, a, b, c⟩ = ([a, b, c].take (readsF k)).all (regOk i) := by
  unfold opOk
  rw [decide_eq_true h0, decide_eq_true h14, decide_eq_true h3]
  simp [opArgs]

set_option maxHeartbeats 2000000 in
set_option maxRecDepth 100000 in
theorem opFormed_any (w : World) (o : OpF) (i nc : Nat) :
    Calls Try.prog 124 #[.agg #[.int .i64 o.k, .int .i64 o.a, .int .i64 o.b, .int .i64 o.c], .int .i64 (i : Int), .int .i64 (nc : Int)] w fun e w' => e = .returned (.bool (opOk nc i o)) ∧ Below w.heap.size w w' := by
  obtain ⟨k, a, b, c⟩ := o
  have HAL : Hid (∀ ob, Below w.heap.size w (w.alloc ob)) := hide (fun ob => (Below.refl _ _).alloc (Nat.le_refl _) ob)
  have HA := hide (fun W (n : Nat) => below_any W a (n : Int))
  have HB := hide (fun W (n : Nat) => below_any W b (n : Int))
  have HC := hide (fun W (n : Nat) => below_any W c (n : Int))
  by_cases h0 : k = 0 ∨ k = 1 ∨ k = 2 ∨ k = 4
  · have HF : Hid (opOk nc i ⟨k, a, b, c⟩ = true) := hide (by rcases h0 with rfl | rfl | rfl | rfl <;> simp [opOk, readsF, opArgs])
    rcases h0 with rfl | rfl | rfl | rfl
    all_goals
      go_enter Try.func124, Try.ntmps124
      go_wp2
      go_ret
      exact ⟨by rw [HF.out]; rfl, HAL.out _⟩
  by_cases h3 : k = 3
  · subst h3
    have HF : Hid (opOk nc i ⟨3, a, b, c⟩ = regOk nc a) := hide (by simp [opOk, readsF, opArgs])
    clear h0
    go_enter Try.func124, Try.ntmps124
    go_wp2_with fail
    refine (HA.out _ _).mono ?_
    rintro e w1 ⟨rfl, rfl⟩
    go_wp2
    go_ret
    exact ⟨by rw [HF.out]; rfl, HAL.out _⟩
  by_cases h13 : k = 13
  · subst h13
    have HF : Hid (opOk nc i ⟨13, a, b, c⟩ = regOk i a) := hide (by rw [opOk_eq _ _ _ _ _ _ (by omega) (by omega) (by omega)]; simp [readsF])
    clear h0 h3
    go_enter Try.func124, Try.ntmps124
    go_wp2_with fail
    refine (HA.out _ _).mono ?_
    rintro e w1 ⟨rfl, rfl⟩
    go_wp2
    go_ret
    exact ⟨by rw [HF.out]; rfl, HAL.out _⟩
  by_cases h14 : k = 14
  · subst h14
    have HF : Hid (opOk nc i ⟨14, a, b, c⟩ = (regOk i a && (regOk i b && regOk i c))) := hide (by rw [opOk_eq _ _ _ _ _ _ (by omega) (by omega) (by omega)]; simp [readsF])
    clear h0 h3 h13
    cases ha : regOk i a with
    | false =>
      rw [ha] at HF
      have HA' := hide (fun W => HA.out W i)
      rw [belF_reg, ha] at HA'
      clear HA ha
      go_enter Try.func124, Try.ntmps124
      go_wp2_with fail
      refine (HA'.out _).mono ?_
      rintro e w1 ⟨rfl, rfl⟩
      go_wp2
      go_ret
      exact ⟨by rw [HF.out]; rfl, HAL.out _⟩
    | true =>
      rw [ha] at HF
      have HA' := hide (fun W => HA.out W i)
      rw [belF_reg, ha] at HA'
      clear HA ha
      cases hb : regOk i b with
      | false =>
        rw [hb] at HF
        have HB' := hide (fun W => HB.out W i)
        rw [belF_reg, hb] at HB'
        clear HB hb
        go_enter Try.func124, Try.ntmps124
        go_wp2_with fail
        refine (HA'.out _).mono ?_
        rintro e w1 ⟨rfl, rfl⟩
        go_wp2_with fail
        refine (HB'.out _).mono ?_
        rintro e w1 ⟨rfl, rfl⟩
        go_wp2
        go_ret
        exact ⟨by rw [HF.out]; rfl, HAL.out _⟩
      | true =>
        rw [hb] at HF
        have HB' := hide (fun W => HB.out W i)
        rw [belF_reg, hb] at HB'
        clear HB hb
        go_enter Try.func124, Try.ntmps124
        go_wp2_with fail
        refine (HA'.out _).mono ?_
        rintro e w1 ⟨rfl, rfl⟩
        go_wp2_with fail
        refine (HB'.out _).mono ?_
        rintro e w1 ⟨rfl, rfl⟩
        go_wp2_with fail
        refine (HC.out _ _).mono ?_
        rintro e w1 ⟨rfl, rfl⟩
        go_wp2
        go_ret
        exact ⟨by rw [HF.out]; rfl, HAL.out _⟩
  have no : ∀ z : Int, k ≠ z → (k == z) = false := fun z h => by rw [beq_eq_false_iff_ne]; exact h
  have q0 := no 0 (fun e => h0 (.inl e))
  have q1 := no 1 (fun e => h0 (.inr (.inl e)))
  have q2 := no 2 (fun e => h0 (.inr (.inr (.inl e))))
  have q4 := no 4 (fun e => h0 (.inr (.inr (.inr e))))
  have q3 := no 3 h3
  have q13 := no 13 h13
  have q14 := no 14 h14
  by_cases hlo : k < 5
  · have HF : Hid (opOk nc i ⟨k, a, b, c⟩ = false) := hide (by
      have : ¬ 0 ≤ k := by omega
      unfold opOk; rw [decide_eq_false this]; rfl)
    clear h0 h3 h13 h14 no
    go_enter Try.func124, Try.ntmps124
    go_wp2
    go_ret
    exact ⟨by rw [HF.out]; rfl, HAL.out _⟩
  by_cases hhi : k > 12
  · have HF : Hid (opOk nc i ⟨k, a, b, c⟩ = false) := hide (by
      have : ¬ k ≤ 14 := by omega
      unfold opOk; rw [decide_eq_false this]; simp)
    clear h0 h3 h13 h14 no
    go_enter Try.func124, Try.ntmps124
    go_wp2
    go_ret
    exact ⟨by rw [HF.out]; rfl, HAL.out _⟩
  have HF : Hid (opOk nc i ⟨k, a, b, c⟩ = (regOk i a && regOk i b)) := hide (by
    rw [opOk_eq _ _ _ _ _ _ (by omega) (by omega) h3]
    unfold readsF; rw [if_neg hlo, if_neg h13, if_neg h14]; simp)
  clear h0 h3 h13 h14 no
  cases ha : regOk i a with
  | false =>
    rw [ha] at HF
    have HA' := hide (fun W => HA.out W i)
    rw [belF_reg, ha] at HA'
    clear HA ha
    go_enter Try.func124, Try.ntmps124
    go_wp2_with fail
    refine (HA'.out _).mono ?_
    rintro e w1 ⟨rfl, rfl⟩
    go_wp2
    go_ret
    exact ⟨by rw [HF.out]; rfl, HAL.out _⟩
  | true =>
    rw [ha] at HF
    have HA' := hide (fun W => HA.out W i)
    rw [belF_reg, ha] at HA'
    clear HA ha
    go_enter Try.func124, Try.ntmps124
    go_wp2_with fail
    refine (HA'.out _).mono ?_
    rintro e w1 ⟨rfl, rfl⟩
    go_wp2_with fail
    refine (HB.out _ _).mono ?_
    rintro e w1 ⟨rfl, rfl⟩
    go_wp2
    go_ret
    exact ⟨by rw [HF.out]; rfl, HAL.out _⟩

end Go.Proofs.Ytmndgoapkmhglaa
