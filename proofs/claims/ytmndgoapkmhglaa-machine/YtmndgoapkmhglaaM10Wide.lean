import Derived.Test.YtmndgoapkmhglaaM00Cut
import Derived.Test.YtmndgoapkmhglaaM01Tkl
import Derived.Test.YtmndgoapkmhglaaM03ParD
import Derived.Test.YtmndgoapkmhglaaM09JudK
namespace Go.Proofs.Ytmndgoapkmhglaa
open Go.RowKit
attribute [local go_sem ↓] Go.wp_at_zero Go.wp_at_succ

set_option maxHeartbeats 1000000 in
set_option maxRecDepth 100000 in
theorem meaning_any (w : World) (q : Nat) (ds : List Dc) (ns : List Nd) (vd vn : Value) (h : ProgAt w q ds ns vd vn) (hg : Good ds ns) :
    Calls Try.prog 69 #[.pointer (some ⟨q, 0, none⟩)] w fun e w' => e = .returned (.tuple #[.int .i64 ((meaningF ds ns).1 : Int), .int .i64 ((meaningF ds ns).2 : Int)]) ∧ Below w.heap.size w w' := by
  have HP := hide h
  have HG := hide hg
  clear h hg
  go_enter Try.func69, Try.ntmps69
  go_wp2_with fail
  refine (tooMany_any w q ds ns vd vn HP.out HG.out.wf.dl).mono ?_
  rintro e w1 ⟨rfl, hb1⟩
  cases h1 : tooManyF ds with
  | some a =>
    have HF : Hid (meaningF ds ns = (3, a)) := hide (by unfold meaningF; rw [h1])
    simp only [optVal, Option.getD_some, Option.isSome_some]
    clear h1
    go_wp2_with fail
    go_ret2
    exact ⟨by rw [HF.out]; rfl, hb1⟩
  | none =>
    simp only [optVal, Option.getD_none, Option.isSome_none]
    have H1 := hide h1
    clear h1
    go_wp2_with fail
    refine (badName_any w1 q ds ns vd vn (HP.out.below hb1) HG.out.wf).mono ?_
    rintro e w2 ⟨rfl, hb2⟩
    have hb02 : Below w.heap.size w w2 := hb1.trans (hb2.mono hb1.size)
    clear hb1 hb2
    cases h2 : badNameF ds ns 0 ds with
    | some a =>
      have HF : Hid (meaningF ds ns = (4, a)) := hide (by unfold meaningF; rw [H1.out]; simp only; rw [h2])
      simp only [optVal, Option.getD_some, Option.isSome_some]
      clear h2
      go_wp2_with fail
      go_ret2
      exact ⟨by rw [HF.out]; rfl, hb02⟩
    | none =>
      simp only [optVal, Option.getD_none, Option.isSome_none]
      have H2 := hide h2
      have HB := hide (HG.out.names h2)
      clear h2
      go_wp2_with fail
      refine (badType_any w2 q ds ns vd vn (HP.out.below hb02) HG.out.wf HB.out).mono ?_
      rintro e w3 ⟨rfl, hb3⟩
      have hb03 : Below w.heap.size w w3 := hb02.trans (hb3.mono hb02.size)
      clear hb02 hb3
      cases h3 : badTypeF ds 0 ns (roots ds (List.replicate ns.length false)) with
      | some a =>
        have HF : Hid (meaningF ds ns = (5, a)) := hide (by unfold meaningF; rw [H1.out]; simp only; rw [H2.out]; simp only; rw [h3])
        simp only [optVal, Option.getD_some, Option.isSome_some]
        clear h3
        go_wp2_with fail
        go_ret2
        exact ⟨by rw [HF.out]; rfl, hb03⟩
      | none =>
        simp only [optVal, Option.getD_none, Option.isSome_none]
        have H3 := hide h3
        clear h3
        go_wp2_with fail
        refine (cycle_any w3 q ds ns vd vn (HP.out.below hb03) HG.out.wf HB.out).mono ?_
        rintro e w4 ⟨rfl, hb4⟩
        have hb04 : Below w.heap.size w w4 := hb03.trans (hb4.mono hb03.size)
        clear hb03 hb4
        cases h4 : cycleF ds ns with
        | some a =>
          have HF : Hid (meaningF ds ns = (6, a)) := hide (by unfold meaningF; rw [H1.out]; simp only; rw [H2.out]; simp only; rw [H3.out]; simp only; rw [h4])
          simp only [optVal, Option.getD_some, Option.isSome_some]
          clear h4
          go_wp2_with fail
          go_ret2
          exact ⟨by rw [HF.out]; rfl, hb04⟩
        | none =>
          simp only [optVal, Option.getD_none, Option.isSome_none]
          have H4 := hide h4
          clear h4
          go_wp2_with fail
          refine (loop_any w4 q ds ns vd vn (HP.out.below hb04) HG.out.wf HG.out.links HG.out.many).mono ?_
          rintro e w5 ⟨rfl, hb5⟩
          have hb05 : Below w.heap.size w w5 := hb04.trans (hb5.mono hb04.size)
          clear hb04 hb5
          cases h5 : loopF ds ns with
          | some a =>
            have HF : Hid (meaningF ds ns = (7, a)) := hide (by unfold meaningF; rw [H1.out]; simp only; rw [H2.out]; simp only; rw [H3.out]; simp only; rw [H4.out]; simp only; rw [h5])
            simp only [optVal, Option.getD_some, Option.isSome_some]
            clear h5
            go_wp2_with fail
            go_ret2
            exact ⟨by rw [HF.out]; rfl, hb05⟩
          | none =>
            have HF : Hid (meaningF ds ns = (0, 0)) := hide (by unfold meaningF; rw [H1.out]; simp only; rw [H2.out]; simp only; rw [H3.out]; simp only; rw [H4.out]; simp only; rw [h5])
            simp only [optVal, Option.getD_none, Option.isSome_none]
            clear h5
            go_wp2_with fail
            go_ret2
            exact ⟨by rw [HF.out]; rfl, hb05⟩

end Go.Proofs.Ytmndgoapkmhglaa

namespace Go.Proofs.Ytmndgoapkmhglaa
open Go.RowKit
attribute [local go_sem ↓] Go.wp_at_zero Go.wp_at_succ

/-- what judge.Text answers. -/
def TextRes (w w' : World) (e : Ending) (s : ByteArray) : Prop :=
  ∃ vd vn, e = .returned (.tuple #[.agg #[vd, vn], .int .i64 ((textF s).1 : Int), .int .i64 ((textF s).2 : Int)]) ∧
    (((textF s).1 ≠ 0 ∧ vd = .slice none 0 0 ∧ vn = .slice none 0 0) ∨
     ((textF s).1 = 0 ∧ ∃ p, parseF s = .ok p ∧ (∃ a n c, vd = .slice a n c) ∧ (∃ a n c, vn = .slice a n c) ∧
      w'.ownsRow w.heap.size 130 7 vd p.decls.length (dcCells p.decls) ∧ w'.ownsRow w.heap.size 180 11 vn p.nodes.length (ndCells (boundN p)) ∧ (∀ g, vd.ownBlock = some g → vn.ownBlock ≠ some g)))

theorem row2 {w : World} {N : Nat} {a0 a1 : Value} {t : TypeId} (h : w.heap[N]? = some (.cells #[a0, a1] t)) :
    w.cell? ⟨N, 0, none⟩ = some a0 ∧ w.cell? ⟨N, 1, none⟩ = some a1 ∧ ∀ i, w.frozen? ⟨N, i, none⟩ = false := by
  refine ⟨?_, ?_, fun i => frozen_of_row w N i _ _ h⟩ <;> (rw [cell_of_row w N _ _ _ _ h]; rfl)

theorem own_weak {w : World} {B B' e size n : Nat} {v : Value} {xs : List Value} (h : w.ownsRow B e size v n xs) (hb : B' ≤ B) : w.ownsRow B' e size v n xs := by
  refine ⟨h.1, ?_⟩
  rcases h.2 with h0 | ⟨g, cap, cur, hv, h1, hr⟩
  · exact .inl h0
  · exact .inr ⟨g, cap, cur, hv, Nat.le_trans hb h1, hr⟩
theorem own_poke {w : World} {B e size n N i : Nat} {v u : Value} {xs : List Value} (h : w.ownsRow B e size v n xs) (hN : N < B) : (w.setCell ⟨N, i, none⟩ u).ownsRow B e size v n xs :=
  own_same h (fun g hg => heap_setCell_other w ⟨N, i, none⟩ g u (by have := (h.lt g hg).1; show g ≠ N; omega))

set_option maxHeartbeats 1000000 in
set_option maxRecDepth 100000 in
theorem text_any (s : ByteArray) (w : World) (hs : s.size ≤ maxLen) (hg : s.size ≤ 1500 → ∀ p, parseF s = .ok p → Good p.decls (boundN p)) :
    Calls Try.prog 45 #[.string s] w fun e w' => TextRes w w' e s ∧ Below w.heap.size w w' := by
  unfold maxLen at hs
  by_cases hl : 1500 < s.size
  · have HF : Hid (textF s = (1, 0)) := hide (by unfold textF; rw [if_pos hl])
    clear hg
    go_enter Try.func45, Try.ntmps45
    go_wp2
    refine bodyPost_ret (v := .tuple #[.agg #[.slice none 0 0, .slice none 0 0], .int .i64 1, .int .i64 0]) (by simp [results, Try.results45, go_sem]) rfl ?_
    exact ⟨⟨_, _, by rw [HF.out]; rfl, .inl ⟨by rw [HF.out]; simp, rfl, rfl⟩⟩, (Below.refl _ _).alloc (Nat.le_refl _) _⟩
  · have hs' : s.size ≤ 1500 := by omega
    have HG := hide (hg hs')
    clear hg
    go_enter Try.func45, Try.ntmps45
    go_wp2_with fail
    refine (parse_any s _ hs').mono ?_
    rintro e w1 ⟨hr, hb1⟩
    have hR1 := (hb1.block w.heap.size (by simp)).trans (heap_alloc_new w _)
    have hB1 : Below w.heap.size w w1 := ((Below.refl _ _).alloc (Nat.le_refl _) _).trans (hb1.mono (by simp))
    have hsz1 : w.heap.size < w1.heap.size := by have := hb1.size; simp at this; omega
    clear hb1
    cases hy : parseF s with
    | error k =>
      rw [hy] at hr
      obtain rfl := hr
      have HF : Hid (textF s = (2, (tkAt (toks s) k).pos)) := hide (by unfold textF; rw [if_neg hl, hy])
      obtain ⟨r0, r1, rF⟩ := row2 hR1
      have r0' : ∀ o, (w1.alloc o).cell? ⟨w.heap.size, 0, none⟩ = some (.slice none 0 0) := fun o => (World.cell?_alloc_past _ _ _ hsz1).trans r0
      have r1' : ∀ o, (w1.alloc o).cell? ⟨w.heap.size, 1, none⟩ = some (.slice none 0 0) := fun o => (World.cell?_alloc_past _ _ _ hsz1).trans r1
      have rF' : ∀ o i, (w1.alloc o).frozen? ⟨w.heap.size, i, none⟩ = false := fun o i => (World.frozen?_alloc_past _ _ _ hsz1).trans (rF i)
      clear hy hR1
      go_wp2
      refine bodyPost_ret (v := .tuple #[.agg #[.slice none 0 0, .slice none 0 0], .int .i64 2, .int .i64 ((tkAt (toks s) k).pos : Int)]) (by simp [results, Try.results45, go_sem, *]) rfl ?_
      refine ⟨⟨_, _, by rw [HF.out]; rfl, .inl ⟨by rw [HF.out]; simp, rfl, rfl⟩⟩, ?_⟩
      exact ((hB1.setCell (Nat.le_refl _) _).setCell (Nat.le_refl _) _).alloc (by simp; omega) _
    | ok p =>
      rw [hy] at hr
      obtain ⟨vd, vn, rfl, hod, hon, hdn⟩ := hr
      have hgood := HG.out p hy
      have HT : Hid (textF s = meaningF p.decls (boundN p)) := hide (by unfold textF; rw [if_neg hl, hy])
      have HY := hide hy
      have hbl : (boundN p).length = p.nodes.length := by simp [boundN]
      have hon' : w1.ownsRow (w.heap.size + 1) 180 11 vn (boundN p).length (ndCells (boundN p)) := by rw [hbl]; simpa [boundN] using hon
      have hod' : w1.ownsRow (w.heap.size + 1) 130 7 vd p.decls.length (dcCells p.decls) := by simpa using hod
      obtain ⟨ad, cd, rfl, _⟩ := own_shape hod'
      obtain ⟨an, cn, rfl, _⟩ := own_shape hon'
      have hPA : ProgAt (w1.alloc (.cells #[.slice ad p.decls.length cd, .slice an (boundN p).length cn] 83)) w1.heap.size p.decls (boundN p) (.slice ad p.decls.length cd) (.slice an (boundN p).length cn) :=
        ⟨by simp, (World.cell?_alloc_at _ _ _ _ rfl).trans rfl, (World.cell?_alloc_at _ _ _ _ rfl).trans rfl, (own_zero hod').alloc _, (own_zero hon').alloc _⟩
      have HPA := hide hPA
      have HOD := hide hod'
      have HON := hide hon'
      have HDN := hide hdn
      have HGOOD := hide hgood
      have HBL := hide hbl
      clear hPA hod hon hdn hgood hy hod' hon' hbl
      go_wp2_with fail
      refine (meaning_any _ _ _ _ _ _ HPA.out HGOOD.out).mono ?_
      rintro e w2 ⟨rfl, hb2⟩
      have hB2 : Below w.heap.size w w2 := (hB1.alloc (by omega) _).trans (hb2.mono (by simp; omega))
      have hB12 : Below w1.heap.size w1 w2 := ((Below.refl _ _).alloc (Nat.le_refl _) _).trans (hb2.mono (by simp))
      have hR2 := (hB12.block _ hsz1).trans hR1
      have hq2 := HPA.out.below hb2
      obtain ⟨r0, r1, rF⟩ := row2 hR2
      have c0 := hq2.c0
      have c1 := hq2.c1
      have nq : w1.heap.size ≠ w.heap.size := by omega
      have nq' : w.heap.size ≠ w1.heap.size := by omega
      have HB12 := hide hB12
      have HB2 := hide hB2
      clear hb2 hR2 hR1 hq2 hB2 hB12 hB1
      by_cases he : (meaningF p.decls (boundN p)).1 = 0
      · have q1 : (((meaningF p.decls (boundN p)).1 : Int) != 0) = false := by rw [he]; rfl
        have HE : Hid ((textF s).1 = 0) := hide (by rw [HT.out]; exact he)
        have HE2 : Hid ((textF s).2 = 0) := hide (by
          rw [HT.out]
          revert he
          unfold meaningF
          split
          · intro h; cases h
          split
          · intro h; cases h
          split
          · intro h; cases h
          split
          · intro h; cases h
          split
          · intro h; cases h
          · intro _; rfl)
        clear he
        go_wp2
        refine bodyPost_ret (v := .tuple #[.agg #[.slice ad p.decls.length cd, .slice an (boundN p).length cn], .int .i64 0, .int .i64 0]) (by simp [results, Try.results45, go_sem, *]) rfl ?_
        refine ⟨⟨_, _, by rw [HE.out, HE2.out]; rfl, .inr ⟨HE.out, p, HY.out, ⟨_, _, _, rfl⟩, ⟨_, _, _, rfl⟩, ?_, ?_, ?_⟩⟩, (HB2.out.setCell (Nat.le_refl _) _).setCell (Nat.le_refl _) _⟩
        · exact own_weak (own_poke (own_poke (bel_own HOD.out HB12.out) (by omega)) (by omega)) (by omega)
        · rw [← HBL.out]
          exact own_weak (own_poke (own_poke (bel_own HON.out HB12.out) (by omega)) (by omega)) (by omega)
        · exact HDN.out
      · have q1 : (((meaningF p.decls (boundN p)).1 : Int) != 0) = true := by rw [bne_iff_ne]; omega
        have HE : Hid ((textF s).1 ≠ 0) := hide (by rw [HT.out]; exact he)
        have HTX := HT
        clear he
        go_wp2
        refine bodyPost_ret (v := .tuple #[.agg #[.slice none 0 0, .slice none 0 0], .int .i64 ((meaningF p.decls (boundN p)).1 : Int), .int .i64 ((meaningF p.decls (boundN p)).2 : Int)]) (by simp [results, Try.results45, go_sem, *]) rfl ?_
        exact ⟨⟨_, _, by rw [HTX.out], .inl ⟨HE.out, rfl, rfl⟩⟩, (HB2.out.setCell (Nat.le_refl _) _).setCell (Nat.le_refl _) _⟩

end Go.Proofs.Ytmndgoapkmhglaa

/- Plain mathematics: blanks behind signs; a text with a byte behind it; a text cut short; a text laid out. -/
namespace Go.Proofs.Ytmndgoapkmhglaa

def sgn (c : UInt8) : Bool := c == 40 || c == 41 || c == 59 || c == 61
def gapB (i : Nat) : UInt8 := if i % 2 = 0 then 32 else 10
def wideL : Nat → List UInt8 → List UInt8
  | _, [] => []
  | i, c :: r => if sgn c then c :: gapB i :: wideL (i + 1) r else c :: wideL (i + 1) r
def mv (l : List UInt8) (a : Nat) : Nat := a + ((l.take a).filter sgn).length

theorem sgn_cls {c : UInt8} (h : sgn c = true) : cls c.toNat = 3 := by
  unfold sgn at h
  simp at h
  rcases h with ((h | h) | h) | h <;> subst h <;> decide
theorem gap_cls (i : Nat) : cls (gapB i).toNat = 0 := by
  unfold gapB; split <;> decide

theorem mv_cons (c : UInt8) (r : List UInt8) (j : Nat) : mv (c :: r) (j + 1) = mv r j + 1 + (if sgn c then 1 else 0) := by
  unfold mv
  rw [List.take_succ_cons, List.filter_cons]
  split
  · simp; omega
  · simp; omega

theorem wideL_cons (i : Nat) (c : UInt8) (r : List UInt8) : wideL i (c :: r) = if sgn c then c :: gapB i :: wideL (i + 1) r else c :: wideL (i + 1) r := rfl

theorem wide_tw {cl : Nat} (hcl : cl = 1 ∨ cl = 2) : ∀ (r : List UInt8) (i : Nat), (wideL i r).takeWhile (W cl) = r.takeWhile (W cl) ∧ (wideL i r).dropWhile (W cl) = wideL (i + (r.takeWhile (W cl)).length) (r.dropWhile (W cl)) := by
  intro r
  induction r with
  | nil => intro i; exact ⟨rfl, rfl⟩
  | cons c r ih =>
    intro i
    rw [wideL_cons]
    by_cases hs : sgn c = true
    · have hw : W cl c = false := by unfold W; rw [sgn_cls hs]; rcases hcl with h | h <;> rw [h] <;> rfl
      rw [if_pos hs]
      simp only [List.takeWhile_cons, List.dropWhile_cons, hw]
      refine ⟨rfl, ?_⟩
      simp [wideL, hs]
    · rw [if_neg hs]
      simp only [List.takeWhile_cons, List.dropWhile_cons]
      by_cases hw : W cl c = true
      · simp only [hw, if_true]
        obtain ⟨h1, h2⟩ := ih (i + 1)
        rw [h1, h2]
        refine ⟨rfl, ?_⟩
        simp only [List.length_cons]
        rw [show i + 1 + (r.takeWhile (W cl)).length = i + ((r.takeWhile (W cl)).length + 1) by omega]
      · simp only [hw]
        refine ⟨rfl, ?_⟩
        simp [wideL, hs]

theorem wide_len : ∀ (l : List UInt8) i, (wideL i l).length = mv l l.length := by
  intro l
  induction l with
  | nil => intro i; rfl
  | cons c r ih =>
    intro i
    unfold wideL
    rw [List.length_cons, mv_cons]
    split
    · simp [ih]
    · simp [ih]

/-- the filter of the words of a run without signs. -/
theorem mv_run {cl : Nat} (hcl : cl = 1 ∨ cl = 2) : ∀ (r : List UInt8) (j : Nat), mv r ((r.takeWhile (W cl)).length + j) = (r.takeWhile (W cl)).length + mv (r.dropWhile (W cl)) j := by
  intro r
  induction r with
  | nil => intro j; simp
  | cons c r ih =>
    intro j
    rw [List.takeWhile_cons, List.dropWhile_cons]
    by_cases hw : W cl c = true
    · simp only [hw, if_true, List.length_cons]
      have hs : sgn c = false := by
        cases h : sgn c
        · rfl
        · unfold W at hw; rw [sgn_cls h] at hw; rcases hcl with e | e <;> rw [e] at hw <;> cases hw
      rw [show (r.takeWhile (W cl)).length + 1 + j = (r.takeWhile (W cl)).length + j + 1 by omega, mv_cons, ih j, hs]
      simp; omega
    · simp [hw]

def Moved1 (m : Nat → Nat) (t t' : Tk) : Prop := t'.kind = t.kind ∧ t'.text = t.text ∧ t'.pos = m t.pos

theorem wide_tk (m : Nat → Nat) : ∀ n k k' i (l : List UInt8), l.length = n → (∀ j, m (k + j) = k' + mv l j) → All2 (Moved1 m) (tk k l) (tk k' (wideL i l)) := by
  intro n
  induction n using Nat.strongRecOn with
  | _ n ih =>
    intro k k' i l hn hm
    have hm0 : m k = k' := by have := hm 0; simpa [mv] using this
    cases l with
    | nil => exact trivial
    | cons c r =>
      simp only [List.length_cons] at hn
      by_cases h0 : cls c.toNat = 0
      · have hs : sgn c = false := by cases h : sgn c; rfl; rw [sgn_cls h] at h0; cases h0
        unfold wideL
        rw [hs]
        simp only [Bool.false_eq_true, if_false]
        rw [tk_blank h0, tk_blank h0]
        refine ih r.length (by omega) _ _ _ r rfl ?_
        intro j
        have := hm (j + 1)
        rw [mv_cons, hs] at this
        rw [show k + 1 + j = k + (j + 1) by omega, this]
        simp; omega
      · by_cases h12 : cls c.toNat = 1 ∨ cls c.toNat = 2
        · have hs : sgn c = false := by cases h : sgn c; rfl; rw [sgn_cls h] at h12; omega
          unfold wideL
          rw [hs]
          simp only [Bool.false_eq_true, if_false]
          rw [tk_word h12, tk_word h12]
          obtain ⟨h1, h2⟩ := wide_tw h12 r (i + 1)
          rw [h1, h2]
          refine ⟨⟨rfl, rfl, hm0.symm⟩, ?_⟩
          have hl := take_drop_len (W (cls c.toNat)) r
          refine ih _ (by omega) _ _ _ _ rfl ?_
          intro j
          have := hm ((r.takeWhile (W (cls c.toNat))).length + j + 1)
          rw [mv_cons, hs, mv_run h12] at this
          rw [show k + 1 + (r.takeWhile (W (cls c.toNat))).length + j = k + ((r.takeWhile (W (cls c.toNat))).length + j + 1) by omega, this]
          simp; omega
        · have h3 : 3 ≤ cls c.toNat := by omega
          unfold wideL
          by_cases hs : sgn c = true
          · rw [if_pos hs, tk_one h3, tk_one h3, tk_blank (gap_cls i)]
            refine ⟨⟨rfl, rfl, hm0.symm⟩, ?_⟩
            refine ih r.length (by omega) _ _ _ r rfl ?_
            intro j
            have := hm (j + 1)
            rw [mv_cons, hs] at this
            rw [show k + 1 + j = k + (j + 1) by omega, this]
            simp; omega
          · rw [if_neg hs, tk_one h3, tk_one h3]
            refine ⟨⟨rfl, rfl, hm0.symm⟩, ?_⟩
            refine ih r.length (by omega) _ _ _ r rfl ?_
            intro j
            have := hm (j + 1)
            rw [mv_cons, if_neg hs] at this
            rw [show k + 1 + j = k + (j + 1) by omega, this]
            omega

def wideS (s : ByteArray) : ByteArray := ⟨(wideL 0 s.data.toList).toArray⟩
theorem size_list (s : ByteArray) : s.size = s.data.toList.length := Array.length_toList.symm

theorem wide_toks (s : ByteArray) : All2 (Moved1 (mv s.data.toList)) (toks s) (toks (wideS s)) := by
  rw [toks_list, toks_list]
  refine All2.app (wide_tk _ _ 0 0 0 _ rfl (fun j => by rw [Nat.zero_add, Nat.zero_add])) ⟨⟨rfl, rfl, ?_⟩, trivial⟩
  show (wideS s).size = mv s.data.toList s.size
  rw [size_list, size_list]
  show (wideL 0 s.data.toList).length = _
  exact wide_len _ 0

theorem TsDig.all {ts : List Tk} (h : TsDig ts) (i : Nat) : DigTok (tkAt ts i) := by
  by_cases hi : i < ts.length
  · exact h i hi
  · have : tkAt ts i = tkEnd := by unfold tkAt; rw [List.getD_eq_getElem?_getD, List.getElem?_eq_none (by omega)]; rfl
    rw [this]
    intro hk
    cases hk

theorem moved_at {m : Nat → Nat} (h0 : m 0 = 0) {ts ts' : List Tk} (h : All2 (Moved1 m) ts ts') (i : Nat) : Moved1 m (tkAt ts i) (tkAt ts' i) :=
  All2.getD (R := Moved1 m) ⟨rfl, rfl, h0.symm⟩ i h

theorem wide_tsR (s : ByteArray) : TsR (fun a b => b = mv s.data.toList a) (toks s) (toks (wideS s)) := by
  have h := wide_toks s
  refine ⟨h.len, fun i => ?_⟩
  obtain ⟨h1, h2, h3⟩ := moved_at (by rfl) h i
  have hd := (toks_dig s).all i
  refine ⟨h1, h3, fun _ => by unfold Tk.l; rw [h2], fun hk => ?_, fun _ => h2⟩
  have := (hd hk).2
  exact ⟨this, by unfold Tk.l; rw [h2]; exact this⟩

theorem wide_text (s : ByteArray) (hs : s.size ≤ 1500) (hs' : (wideS s).size ≤ 1500) : textF (wideS s) = ((textF s).1, mv s.data.toList (textF s).2) := by
  have h := textR (P := fun a b => b = mv s.data.toList a) rfl s (wideS s) hs hs' (wide_tsR s)
  exact Prod.ext h.1 h.2

/- what is laid out -/
def gapL (a b : List UInt8) : List UInt8 := if a = [59] then [10] else if a = [40] ∨ b = [41] ∨ b = [59] then [] else [32]
def trimL : List UInt8 → List UInt8
  | [] => []
  | [c] => [c]
  | c :: d :: r => if c = 48 then trimL (d :: r) else c :: d :: r
def bareL (t : Tk) : List UInt8 := if t.kind = 3 then trimL t.l else t.l
def pieceL (ts : List Tk) (j : Nat) : List UInt8 := (if j = 0 then [] else gapL (tkAt ts (j - 1)).l (tkAt ts j).l) ++ bareL (tkAt ts j)
def outN (ts : List Tk) : Nat → List UInt8
  | 0 => []
  | j + 1 => outN ts j ++ pieceL ts j
def outF (s : ByteArray) : ByteArray := ⟨(outN (toks s) (toks s).length).toArray⟩

theorem wide_out (s : ByteArray) : outF (wideS s) = outF s := by
  have h := wide_toks s
  unfold outF
  rw [h.len]
  have hp : ∀ j, pieceL (toks (wideS s)) j = pieceL (toks s) j := by
    intro j
    obtain ⟨a1, a2, _⟩ := moved_at (by rfl) h j
    obtain ⟨b1, b2, _⟩ := moved_at (by rfl) h (j - 1)
    unfold pieceL bareL Tk.l
    rw [a1, a2, b2]
  have ho : ∀ n, outN (toks (wideS s)) n = outN (toks s) n := by
    intro n
    induction n with
    | zero => rfl
    | succ n ih => unfold outN; rw [ih, hp]
  rw [ho]

/- a byte behind; a text cut short -/
theorem text_ok {s : ByteArray} (hs : s.size ≤ 1500) (h : (textF s).1 = 0) : ∃ p, parseF s = .ok p := by
  unfold textF at h
  rw [if_neg (by omega)] at h
  cases hp : parseF s with
  | error e => rw [hp] at h; cases h
  | ok p => exact ⟨p, rfl⟩

theorem tkAt_left {a b : List Tk} {i : Nat} (h : i < a.length) : tkAt (a ++ b) i = tkAt a i := by
  unfold tkAt; rw [List.getD_eq_getElem?_getD, List.getD_eq_getElem?_getD, List.getElem?_append_left h]
theorem tkAt_mid {a b : List Tk} {t : Tk} : tkAt (a ++ t :: b) a.length = t := by
  unfold tkAt; rw [List.getD_eq_getElem?_getD, List.getElem?_append_right (Nat.le_refl _)]; simp
theorem tkAt_mem {a : List Tk} {i : Nat} (h : i < a.length) : tkAt a i ∈ a := by
  unfold tkAt; rw [List.getD_eq_getElem?_getD, List.getElem?_eq_getElem h]; exact List.getElem_mem h

theorem end_at (s : ByteArray) (hs : s.size ≤ 1500) (p : PS) (h : parseF s = .ok p) : p.next = (tk 0 s.data.toList).length ∧ (p.hd (toks s)).kind = 0 ∧ (p = pZero ∨ (tkAt (toks s) (p.next - 1)).l = [59]) := by
  have ht := toks_ok s hs
  obtain ⟨h1, h2, h3⟩ := declsEnd ht _ _ _ (pZero_wf ht).next (by simp) h
  refine ⟨?_, h1, h3⟩
  rw [toks_list] at h1 h2
  simp at h2
  by_cases e : p.next < (tk 0 s.data.toList).length
  · exfalso
    unfold PS.hd at h1
    rw [tkAt_left e] at h1
    exact (tk_kind _ _ _ rfl _ (tkAt_mem e)).1 h1
  · omega

theorem hash_text (s s' : ByteArray) (hs : s.size < 1500) (h : (textF s).1 = 0) (hl : s'.data.toList = s.data.toList ++ [35]) : textF s' = (2, s.size) := by
  have hs' : s'.size ≤ 1500 := by rw [size_list, hl, List.length_append, ← size_list]; simp; omega
  obtain ⟨p, hp⟩ := text_ok (by omega) h
  obtain ⟨h1, h2, _⟩ := end_at s (by omega) p hp
  have ht := toks_list s
  have ht' : toks s' = tk 0 s.data.toList ++ tokW s.size [35] 4 :: [⟨0, s'.size, ⟨#[]⟩⟩] := by
    rw [toks_list, hl, tk_split (c := 35) (by decide) [] _ 0 _ rfl, tk_nil, Nat.zero_add, ← size_list]
    simp
    rfl
  have hat : tkAt (toks s') (tk 0 s.data.toList).length = tokW s.size [35] 4 := by rw [ht']; exact tkAt_mid
  have hc : CutTs (tk 0 s.data.toList).length (toks s) (toks s') := by
    refine ⟨toks_ok s (by omega), by rw [ht]; simp, by rw [ht']; simp, ?_, ?_, ?_, ?_⟩
    · intro i hi; rw [ht, ht', tkAt_left hi, tkAt_left hi]
    · rw [hat]; show kindK [35] 4 ≠ 1; decide
    · rw [hat]; show kindK [35] 4 ≠ 3; decide
    · rw [hat]; show kwL.contains [35] = false; decide
  have he := declsC hc (.inl (by rw [hat]; exact kindK_pos [35] 4)) _ (toks s').length _ _ (Nat.zero_le _) (by simp) hp h2 (by rw [h1]; exact Nat.le_refl _)
  unfold textF
  rw [if_neg (by omega)]
  have hpe : parseF s' = .error (tk 0 s.data.toList).length := he
  rw [hpe]
  simp only
  rw [hat]
  rfl

theorem cut_text (s s' : ByteArray) (l1 l2 : List UInt8) (hs : s.size ≤ 1500) (h : (textF s).1 = 0) (hl : s.data.toList = l1 ++ 59 :: l2) (hn : (59 : UInt8) ∉ l2) (hl' : s'.data.toList = l1) : textF s' = (2, l1.length) := by
  have hsz : s.size = l1.length + 1 + l2.length := by rw [size_list, hl]; simp; omega
  have hs' : s'.size = l1.length := by rw [size_list, hl']
  obtain ⟨p, hp⟩ := text_ok hs h
  obtain ⟨h1, h2, h3⟩ := end_at s hs p hp
  have hA : tk 0 s.data.toList = tk 0 l1 ++ tokW l1.length [59] 3 :: tk (l1.length + 1) l2 := by
    rw [hl, tk_split (c := 59) (by decide) l2 _ 0 _ rfl, Nat.zero_add]; rfl
  have hne : p ≠ pZero := by
    intro e
    rw [e, hA] at h1
    simp [pZero] at h1
  have h4 := h3.resolve_left hne
  have ht2 : tk (l1.length + 1) l2 = [] := by
    cases hb : tk (l1.length + 1) l2 with
    | nil => rfl
    | cons t b =>
      exfalso
      have hlen : (tk 0 s.data.toList).length = (tk 0 l1).length + 1 + (b.length + 1) := by rw [hA, hb]; simp; omega
      rw [h1, hlen, toks_list, hA, hb] at h4
      have e1 : tkAt (tk 0 l1 ++ tokW l1.length [59] 3 :: t :: b ++ [⟨0, s.size, ⟨#[]⟩⟩]) ((tk 0 l1).length + 1 + (b.length + 1) - 1) = tkAt (t :: b) b.length := by
        unfold tkAt
        simp only [List.append_assoc, List.cons_append, List.getD_eq_getElem?_getD]
        rw [List.getElem?_append_right (by omega), show (tk 0 l1).length + 1 + (b.length + 1) - 1 - (tk 0 l1).length = b.length + 1 by omega, List.getElem?_cons_succ, ← List.cons_append, List.getElem?_append_left (by simp)]
      rw [e1] at h4
      have hm : tkAt (t :: b) b.length ∈ tk (l1.length + 1) l2 := by rw [hb]; exact tkAt_mem (by simp)
      obtain ⟨_, c, hc, hh, _⟩ := tk_kind _ _ _ rfl _ hm
      unfold Tk.l at h4
      rw [h4] at hh
      simp at hh
      subst hh
      exact hn hc
  rw [ht2] at hA
  have ht : toks s = tk 0 l1 ++ tokW l1.length [59] 3 :: [⟨0, s.size, ⟨#[]⟩⟩] := by rw [toks_list, hA]; simp
  have ht' : toks s' = tk 0 l1 ++ [⟨0, l1.length, ⟨#[]⟩⟩] := by rw [toks_list, hl', hs']
  have hat : tkAt (toks s') (tk 0 l1).length = ⟨0, l1.length, ⟨#[]⟩⟩ := by rw [ht']; exact tkAt_mid
  have hat2 : tkAt (toks s) (tk 0 l1).length = tokW l1.length [59] 3 := by rw [ht]; exact tkAt_mid
  have hc : CutTs (tk 0 l1).length (toks s) (toks s') := by
    refine ⟨toks_ok s hs, by rw [ht]; simp, by rw [ht']; simp, ?_, ?_, ?_, ?_⟩
    · intro i hi; rw [ht, ht', tkAt_left hi, tkAt_left hi]
    · rw [hat]; show (0:Nat) ≠ 1; decide
    · rw [hat]; show (0:Nat) ≠ 3; decide
    · rw [hat]; show kwL.contains [] = false; decide
  have he := declsC hc (.inr ⟨by rw [hat2]; exact kindK_pos [59] 3, by rw [hat2]; rfl⟩) _ (toks s').length _ _ (Nat.zero_le _) (by simp) hp h2 (by rw [h1, hA]; simp)
  unfold textF
  rw [if_neg (by omega)]
  have hpe : parseF s' = .error (tk 0 l1).length := he
  rw [hpe]
  simp only
  rw [hat]

end Go.Proofs.Ytmndgoapkmhglaa
