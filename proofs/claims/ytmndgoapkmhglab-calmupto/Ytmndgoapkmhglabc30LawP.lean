import Derived.Test.Ytmndgoapkmhglabc05Bytes
import Derived.Test.Ytmndgoapkmhglabc10Dec
import Derived.Test.Ytmndgoapkmhglabc11RefHa
import Derived.Test.Ytmndgoapkmhglabc29JudK
namespace Go.Proofs.Ytmndgoapkmhglab
open Go.RowKit
attribute [local go_sem ↓] Go.wp_at_zero Go.wp_at_succ
set_option maxHeartbeats 1000000 in
set_option maxRecDepth 100000 in
theorem meaning_any (w : World) (q : Nat) (ds : List Dc) (ns : List Nd) (vd vn : Value) (h : ProgAt w q ds ns vd vn) (hg : Good ds ns) :
    Calls Try.prog 54 #[.pointer (some ⟨q, 0, none⟩)] w fun e w' => e = .returned (.tuple #[.int .i64 ((meaningF ds ns).1 : Int), .int .i64 ((meaningF ds ns).2 : Int)]) ∧ Below w.heap.size w w' := by
  have HP := hide h
  have HG := hide hg
  clear h hg
  go_enter Try.func54, Try.ntmps54
  go_wp2_with fail
  refine (tooMany_any w q ds ns vd vn HP.out HG.out.wf.dl).mono ?_
  rintro e w1 ⟨rfl, hb1⟩
  cases h1 : tooManyF ds with
  | some a =>
    have HF : Hid (meaningF ds ns = (3, a)) := hide (by unfold meaningF; rw [h1])
    simp only [optVal, Option.getD_some, Option.isSome_some]
    clear h1
    go_wp2_with fail
    go_ret2
    exact ⟨by rw [HF.out]; rfl, hb1⟩
  | none =>
    simp only [optVal, Option.getD_none, Option.isSome_none]
    have H1 := hide h1
    clear h1
    go_wp2_with fail
    refine (badName_any w1 q ds ns vd vn (HP.out.below hb1) HG.out.wf).mono ?_
    rintro e w2 ⟨rfl, hb2⟩
    have hb02 : Below w.heap.size w w2 := hb1.trans (hb2.mono hb1.size)
    clear hb1 hb2
    cases h2 : badNameF ds ns 0 ds with
    | some a =>
      have HF : Hid (meaningF ds ns = (4, a)) := hide (by unfold meaningF; rw [H1.out]; simp only; rw [h2])
      simp only [optVal, Option.getD_some, Option.isSome_some]
      clear h2
      go_wp2_with fail
      go_ret2
      exact ⟨by rw [HF.out]; rfl, hb02⟩
    | none =>
      simp only [optVal, Option.getD_none, Option.isSome_none]
      have H2 := hide h2
      have HB := hide (HG.out.names h2)
      clear h2
      go_wp2_with fail
      refine (badType_any w2 q ds ns vd vn (HP.out.below hb02) HG.out.wf HB.out).mono ?_
      rintro e w3 ⟨rfl, hb3⟩
      have hb03 : Below w.heap.size w w3 := hb02.trans (hb3.mono hb02.size)
      clear hb02 hb3
      cases h3 : badTypeF ds 0 ns (roots ds (List.replicate ns.length false)) with
      | some a =>
        have HF : Hid (meaningF ds ns = (5, a)) := hide (by unfold meaningF; rw [H1.out]; simp only; rw [H2.out]; simp only; rw [h3])
        simp only [optVal, Option.getD_some, Option.isSome_some]
        clear h3
        go_wp2_with fail
        go_ret2
        exact ⟨by rw [HF.out]; rfl, hb03⟩
      | none =>
        simp only [optVal, Option.getD_none, Option.isSome_none]
        have H3 := hide h3
        clear h3
        go_wp2_with fail
        refine (cycle_any w3 q ds ns vd vn (HP.out.below hb03) HG.out.wf HB.out).mono ?_
        rintro e w4 ⟨rfl, hb4⟩
        have hb04 : Below w.heap.size w w4 := hb03.trans (hb4.mono hb03.size)
        clear hb03 hb4
        cases h4 : cycleF ds ns with
        | some a =>
          have HF : Hid (meaningF ds ns = (6, a)) := hide (by unfold meaningF; rw [H1.out]; simp only; rw [H2.out]; simp only; rw [H3.out]; simp only; rw [h4])
          simp only [optVal, Option.getD_some, Option.isSome_some]
          clear h4
          go_wp2_with fail
          go_ret2
          exact ⟨by rw [HF.out]; rfl, hb04⟩
        | none =>
          simp only [optVal, Option.getD_none, Option.isSome_none]
          have H4 := hide h4
          clear h4
          go_wp2_with fail
          refine (loop_any w4 q ds ns vd vn (HP.out.below hb04) HG.out.wf HG.out.links HG.out.many).mono ?_
          rintro e w5 ⟨rfl, hb5⟩
          have hb05 : Below w.heap.size w w5 := hb04.trans (hb5.mono hb04.size)
          clear hb04 hb5
          cases h5 : loopF ds ns with
          | some a =>
            have HF : Hid (meaningF ds ns = (7, a)) := hide (by unfold meaningF; rw [H1.out]; simp only; rw [H2.out]; simp only; rw [H3.out]; simp only; rw [H4.out]; simp only; rw [h5])
            simp only [optVal, Option.getD_some, Option.isSome_some]
            clear h5
            go_wp2_with fail
            go_ret2
            exact ⟨by rw [HF.out]; rfl, hb05⟩
          | none =>
            have HF : Hid (meaningF ds ns = (0, 0)) := hide (by unfold meaningF; rw [H1.out]; simp only; rw [H2.out]; simp only; rw [H3.out]; simp only; rw [H4.out]; simp only; rw [h5])
            simp only [optVal, Option.getD_none, Option.isSome_none]
            clear h5
            go_wp2_with fail
            go_ret2
            exact ⟨by rw [HF.out]; rfl, hb05⟩
def TextRes (w w' : World) (e : Ending) (s : ByteArray) : Prop :=
  ∃ vd vn, e = .returned (.tuple #[.agg #[vd, vn], .int .i64 ((textF s).1 : Int), .int .i64 ((textF s).2 : Int)]) ∧
    (((textF s).1 ≠ 0 ∧ vd = .slice none 0 0 ∧ vn = .slice none 0 0) ∨
     ((textF s).1 = 0 ∧ ∃ p, parseF s = .ok p ∧ (∃ a n c, vd = .slice a n c) ∧ (∃ a n c, vn = .slice a n c) ∧
      w'.ownsRow w.heap.size 126 7 vd p.decls.length (dcCells p.decls) ∧ w'.ownsRow w.heap.size 171 11 vn p.nodes.length (ndCells (boundN p)) ∧ (∀ g, vd.ownBlock = some g → vn.ownBlock ≠ some g)))
theorem row2 {w : World} {N : Nat} {a0 a1 : Value} {t : TypeId} (h : w.heap[N]? = some (.cells #[a0, a1] t)) :
    w.cell? ⟨N, 0, none⟩ = some a0 ∧ w.cell? ⟨N, 1, none⟩ = some a1 ∧ ∀ i, w.frozen? ⟨N, i, none⟩ = false := by
  refine ⟨?_, ?_, fun i => frozen_of_row w N i _ _ h⟩ <;> (rw [cell_of_row w N _ _ _ _ h]; rfl)
theorem own_weak {w : World} {B B' e size n : Nat} {v : Value} {xs : List Value} (h : w.ownsRow B e size v n xs) (hb : B' ≤ B) : w.ownsRow B' e size v n xs := by
  refine ⟨h.1, ?_⟩
  rcases h.2 with h0 | ⟨g, cap, cur, hv, h1, hr⟩
  · exact .inl h0
  · exact .inr ⟨g, cap, cur, hv, Nat.le_trans hb h1, hr⟩
theorem own_poke {w : World} {B e size n N i : Nat} {v u : Value} {xs : List Value} (h : w.ownsRow B e size v n xs) (hN : N < B) : (w.setCell ⟨N, i, none⟩ u).ownsRow B e size v n xs :=
  own_same h (fun g hg => heap_setCell_other w ⟨N, i, none⟩ g u (by have := (h.lt g hg).1; show g ≠ N; omega))
set_option maxHeartbeats 1000000 in
set_option maxRecDepth 100000 in
theorem text_any (s : ByteArray) (w : World) (hs : s.size ≤ maxLen) (hg : s.size ≤ 1500 → ∀ p, parseF s = .ok p → Good p.decls (boundN p)) :
    Calls Try.prog 31 #[.string s] w fun e w' => TextRes w w' e s ∧ Below w.heap.size w w' := by
  unfold maxLen at hs
  by_cases hl : 1500 < s.size
  · have HF : Hid (textF s = (1, 0)) := hide (by unfold textF; rw [if_pos hl])
    clear hg
    go_enter Try.func31, Try.ntmps31
    go_wp2
    refine bodyPost_ret (v := .tuple #[.agg #[.slice none 0 0, .slice none 0 0], .int .i64 1, .int .i64 0]) (by simp [results, Try.results31, go_sem]) rfl ?_
    exact ⟨⟨_, _, by rw [HF.out]; rfl, .inl ⟨by rw [HF.out]; simp, rfl, rfl⟩⟩, (Below.refl _ _).alloc (Nat.le_refl _) _⟩
  · have hs' : s.size ≤ 1500 := by omega
    have HG := hide (hg hs')
    clear hg
    go_enter Try.func31, Try.ntmps31
    go_wp2_with fail
    refine (parse_any s _ hs').mono ?_
    rintro e w1 ⟨hr, hb1⟩
    have hR1 := (hb1.block w.heap.size (by simp)).trans (heap_alloc_new w _)
    have hB1 : Below w.heap.size w w1 := ((Below.refl _ _).alloc (Nat.le_refl _) _).trans (hb1.mono (by simp))
    have hsz1 : w.heap.size < w1.heap.size := by have := hb1.size; simp at this; omega
    clear hb1
    cases hy : parseF s with
    | error k =>
      rw [hy] at hr
      obtain rfl := hr
      have HF : Hid (textF s = (2, (tkAt (toks s) k).pos)) := hide (by unfold textF; rw [if_neg hl, hy])
      obtain ⟨r0, r1, rF⟩ := row2 hR1
      have r0' : ∀ o, (w1.alloc o).cell? ⟨w.heap.size, 0, none⟩ = some (.slice none 0 0) := fun o => (World.cell?_alloc_past _ _ _ hsz1).trans r0
      have r1' : ∀ o, (w1.alloc o).cell? ⟨w.heap.size, 1, none⟩ = some (.slice none 0 0) := fun o => (World.cell?_alloc_past _ _ _ hsz1).trans r1
      have rF' : ∀ o i, (w1.alloc o).frozen? ⟨w.heap.size, i, none⟩ = false := fun o i => (World.frozen?_alloc_past _ _ _ hsz1).trans (rF i)
      clear hy hR1
      go_wp2
      refine bodyPost_ret (v := .tuple #[.agg #[.slice none 0 0, .slice none 0 0], .int .i64 2, .int .i64 ((tkAt (toks s) k).pos : Int)]) (by simp [results, Try.results31, go_sem, *]) rfl ?_
      refine ⟨⟨_, _, by rw [HF.out]; rfl, .inl ⟨by rw [HF.out]; simp, rfl, rfl⟩⟩, ?_⟩
      exact ((hB1.setCell (Nat.le_refl _) _).setCell (Nat.le_refl _) _).alloc (by simp; omega) _
    | ok p =>
      rw [hy] at hr
      obtain ⟨vd, vn, rfl, hod, hon, hdn⟩ := hr
      have hgood := HG.out p hy
      have HT : Hid (textF s = meaningF p.decls (boundN p)) := hide (by unfold textF; rw [if_neg hl, hy])
      have HY := hide hy
      have hbl : (boundN p).length = p.nodes.length := by simp [boundN]
      have hon' : w1.ownsRow (w.heap.size + 1) 171 11 vn (boundN p).length (ndCells (boundN p)) := by rw [hbl]; simpa [boundN] using hon
      have hod' : w1.ownsRow (w.heap.size + 1) 126 7 vd p.decls.length (dcCells p.decls) := by simpa using hod
      obtain ⟨ad, cd, rfl, _⟩ := own_shape hod'
      obtain ⟨an, cn, rfl, _⟩ := own_shape hon'
      have hPA : ProgAt (w1.alloc (.cells #[.slice ad p.decls.length cd, .slice an (boundN p).length cn] 70)) w1.heap.size p.decls (boundN p) (.slice ad p.decls.length cd) (.slice an (boundN p).length cn) :=
        ⟨by simp, (World.cell?_alloc_at _ _ _ _ rfl).trans rfl, (World.cell?_alloc_at _ _ _ _ rfl).trans rfl, (own_zero hod').alloc _, (own_zero hon').alloc _⟩
      have HPA := hide hPA
      have HOD := hide hod'
      have HON := hide hon'
      have HDN := hide hdn
      have HGOOD := hide hgood
      have HBL := hide hbl
      clear hPA hod hon hdn hgood hy hod' hon' hbl
      go_wp2_with fail
      refine (meaning_any _ _ _ _ _ _ HPA.out HGOOD.out).mono ?_
      rintro e w2 ⟨rfl, hb2⟩
      have hB2 : Below w.heap.size w w2 := (hB1.alloc (by omega) _).trans (hb2.mono (by simp; omega))
      have hB12 : Below w1.heap.size w1 w2 := ((Below.refl _ _).alloc (Nat.le_refl _) _).trans (hb2.mono (by simp))
      have hR2 := (hB12.block _ hsz1).trans hR1
      have hq2 := HPA.out.below hb2
      obtain ⟨r0, r1, rF⟩ := row2 hR2
      have c0 := hq2.c0
      have c1 := hq2.c1
      have nq : w1.heap.size ≠ w.heap.size := by omega
      have nq' : w.heap.size ≠ w1.heap.size := by omega
      have HB12 := hide hB12
      have HB2 := hide hB2
      clear hb2 hR2 hR1 hq2 hB2 hB12 hB1
      by_cases he : (meaningF p.decls (boundN p)).1 = 0
      · have q1 : (((meaningF p.decls (boundN p)).1 : Int) != 0) = false := by rw [he]; rfl
        have HE : Hid ((textF s).1 = 0) := hide (by rw [HT.out]; exact he)
        have HE2 : Hid ((textF s).2 = 0) := hide (by
          rw [HT.out]
          revert he
          unfold meaningF
          split
          · intro h; cases h
          split
          · intro h; cases h
          split
          · intro h; cases h
          split
          · intro h; cases h
          split
          · intro h; cases h
          · intro _; rfl)
        clear he
        go_wp2
        refine bodyPost_ret (v := .tuple #[.agg #[.slice ad p.decls.length cd, .slice an (boundN p).length cn], .int .i64 0, .int .i64 0]) (by simp [results, Try.results31, go_sem, *]) rfl ?_
        refine ⟨⟨_, _, by rw [HE.out, HE2.out]; rfl, .inr ⟨HE.out, p, HY.out, ⟨_, _, _, rfl⟩, ⟨_, _, _, rfl⟩, ?_, ?_, ?_⟩⟩, (HB2.out.setCell (Nat.le_refl _) _).setCell (Nat.le_refl _) _⟩
        · exact own_weak (own_poke (own_poke (bel_own HOD.out HB12.out) (by omega)) (by omega)) (by omega)
        · rw [← HBL.out]
          exact own_weak (own_poke (own_poke (bel_own HON.out HB12.out) (by omega)) (by omega)) (by omega)
        · exact HDN.out
      · have q1 : (((meaningF p.decls (boundN p)).1 : Int) != 0) = true := by rw [bne_iff_ne]; omega
        have HE : Hid ((textF s).1 ≠ 0) := hide (by rw [HT.out]; exact he)
        have HTX := HT
        clear he
        go_wp2
        refine bodyPost_ret (v := .tuple #[.agg #[.slice none 0 0, .slice none 0 0], .int .i64 ((meaningF p.decls (boundN p)).1 : Int), .int .i64 ((meaningF p.decls (boundN p)).2 : Int)]) (by simp [results, Try.results31, go_sem, *]) rfl ?_
        exact ⟨⟨_, _, by rw [HTX.out], .inl ⟨HE.out, rfl, rfl⟩⟩, (HB2.out.setCell (Nat.le_refl _) _).setCell (Nat.le_refl _) _⟩
def RowAt (w : World) (v : Value) (zs : List Int) : Prop :=
  ∃ (A : Option Addr) (C : Nat), v = .slice A zs.length C ∧ zs.length ≤ 35184372088832 ∧ (0 < zs.length → ∃ b o, A = some ⟨b, o, none⟩ ∧ b < w.heap.size ∧ ∀ c, (h : c < zs.length) → w.cell? ⟨b, o + c, none⟩ = some (.int .i64 zs[c]))
def LsAt (w : World) (v : Value) (ins : List (List Int)) : Prop :=
  ∃ (A : Option Addr) (C : Nat), v = .slice A ins.length C ∧ ins.length ≤ 8796093022208 ∧ (0 < ins.length → ∃ b o, A = some ⟨b, o, none⟩ ∧ b < w.heap.size ∧ ∀ r, (h : r < ins.length) → ∃ x, w.cell? ⟨b, o + r, none⟩ = some x ∧ RowAt w x ins[r])
theorem RowAt.below {w w' : World} {v : Value} {zs : List Int} (h : RowAt w v zs) (hb : Below w.heap.size w w') : RowAt w' v zs := by
  obtain ⟨A, C, hv, hm, hc⟩ := h
  refine ⟨A, C, hv, hm, fun hp => ?_⟩
  obtain ⟨b, o, h1, h2, h3⟩ := hc hp
  exact ⟨b, o, h1, Nat.lt_of_lt_of_le h2 hb.size, fun c hc => (hb.cell (p := ⟨b, o + c, none⟩) h2).trans (h3 c hc)⟩
theorem LsAt.below {w w' : World} {v : Value} {ins : List (List Int)} (h : LsAt w v ins) (hb : Below w.heap.size w w') : LsAt w' v ins := by
  obtain ⟨A, C, hv, hm, hc⟩ := h
  refine ⟨A, C, hv, hm, fun hp => ?_⟩
  obtain ⟨b, o, h1, h2, h3⟩ := hc hp
  refine ⟨b, o, h1, Nat.lt_of_lt_of_le h2 hb.size, fun r hr => ?_⟩
  obtain ⟨x, hx, hr⟩ := h3 r hr
  exact ⟨x, (hb.cell (p := ⟨b, o + r, none⟩) h2).trans hx, hr.below hb⟩
structure MatI (w : World) (g m n : Nat) (R : Nat → Nat) (F : Nat → Nat → Int) : Prop where
  outer : ∀ i, i < m → w.cell? ⟨g, i, none⟩ = some (.slice (some ⟨R i, 0, none⟩) n n)
  rows : ∀ i, i < m → w.rowIs (R i) 3 n (fun j => .int .i64 (F i j))
  inj : ∀ i j, i < m → j < m → R i = R j → i = j
  ne : ∀ i, i < m → R i ≠ g
theorem MatI.congr {w : World} {g m n : Nat} {R : Nat → Nat} {F F' : Nat → Nat → Int} (h : MatI w g m n R F) (e : ∀ i j, i < m → j < n → F i j = F' i j) : MatI w g m n R F' :=
  ⟨h.outer, fun i hi => (h.rows i hi).congr (fun j hj => by rw [e i j hi hj]), h.inj, h.ne⟩
theorem MatI.cell {w : World} {g m n : Nat} {R : Nat → Nat} {F : Nat → Nat → Int} (h : MatI w g m n R F) {i j : Nat} (hi : i < m) (hj : j < n) : w.cell? ⟨R i, j, none⟩ = some (.int .i64 (F i j)) := (h.rows i hi).cell hj
theorem MatI.froz {w : World} {g m n : Nat} {R : Nat → Nat} {F : Nat → Nat → Int} (h : MatI w g m n R F) {i : Nat} (hi : i < m) (j : Nat) : w.frozen? ⟨R i, j, none⟩ = false := (h.rows i hi).frozen j
theorem MatI.set {w : World} {g m n : Nat} {R : Nat → Nat} {F : Nat → Nat → Int} (h : MatI w g m n R F) {a : Nat} (ha : a < m) (b : Nat) (v : Int) : MatI (w.setCell ⟨R a, b, none⟩ (.int .i64 v)) g m n R (fun i k => if i = a ∧ k = b then v else F i k) := by
  refine ⟨fun i hi => ?_, fun i hi => ?_, h.inj, h.ne⟩
  · rw [← h.outer i hi]
    exact World.cell?_setCell_other _ _ _ _ (by intro e; exact h.ne a ha (congrArg Addr.block e))
  · by_cases e : i = a
    · subst e
      refine ((h.rows i hi).set b (.int .i64 v)).congr (fun j _ => ?_)
      by_cases ej : j = b
      · subst ej; simp
      · simp [ej]
    · refine ((h.rows i hi).setOther (a := ⟨R a, b, none⟩) (fun e2 => e (h.inj i a hi ha e2)) (.int .i64 v)).congr (fun j _ => ?_)
      simp [e]
theorem MatI.keep {w w' : World} {g m n : Nat} {R : Nat → Nat} {F : Nat → Nat → Int} (h : MatI w g m n R F) (hg : w'.heap[g]? = w.heap[g]?) (hr : ∀ i, i < m → w'.heap[R i]? = w.heap[R i]?) : MatI w' g m n R F :=
  ⟨fun i hi => (World.cell?_of_block (w := w) (a := ⟨g, i, none⟩) hg).trans (h.outer i hi), fun i hi => (h.rows i hi).of_block (hr i hi), h.inj, h.ne⟩
theorem MatI.lt {w : World} {g m n : Nat} {R : Nat → Nat} {F : Nat → Nat → Int} (h : MatI w g m n R F) (hm : 0 < m) : g < w.heap.size := World.block_lt_of_cell? _ _ (h.outer 0 hm)
theorem MatI.below {w w' : World} {g m n : Nat} {R : Nat → Nat} {F : Nat → Nat → Int} (h : MatI w g m n R F) (hb : Below w.heap.size w w') : MatI w' g m n R F :=
  ⟨fun i hi => (hb.cell (p := ⟨g, i, none⟩) (h.lt (by omega))).trans (h.outer i hi), fun i hi => (h.rows i hi).of_block (hb.block _ (World.rowIs.lt (h.rows i hi))), h.inj, h.ne⟩
end Go.Proofs.Ytmndgoapkmhglab
namespace Go.Proofs.Ytmndgoapkmhglab
open Go.RowKit
def iCells (l : List Int) : List Value := l.map fun x => Value.int .i64 x
theorem iCells_get (l : List Int) (j : Nat) : (iCells l)[j]? = l[j]?.map fun x => Value.int .i64 x := by simp [iCells]
theorem Try.infoIntsE : (Try.prog.info? 38).map (fun i => (i.zero, i.size, i.bytes)) = some (some (.slice none 0 0), 1, 24) := by kernel_rfl
structure ArgL (w : World) (A : Option Addr) (C : Nat) (ins : List (List Int)) (AS : Nat → Option Addr) (CS : Nat → Nat) : Prop where
  few : ins.length ≤ 5864062014805
  nil : A = none → ins = []
  out : 0 < ins.length → ∃ b o, A = some ⟨b, o, none⟩ ∧ b < w.heap.size ∧ ∀ r, (h : r < ins.length) → w.cell? ⟨b, o + r, none⟩ = some (.slice (AS r) ins[r].length (CS r))
  row : ∀ r, (h : r < ins.length) → RowAt w (.slice (AS r) ins[r].length (CS r)) ins[r] ∧ (AS r = none → ins[r] = []) ∧ ins[r].length ≤ 17592186044416
  cap : ∀ r, (h : r < ins.length) → ins[r].length ≤ CS r
theorem ArgL.ls {w : World} {A : Option Addr} {C : Nat} {ins : List (List Int)} {AS : Nat → Option Addr} {CS : Nat → Nat} (h : ArgL w A C ins AS CS) : LsAt w (.slice A ins.length C) ins := by
  refine ⟨A, C, rfl, by have := h.few; omega, fun hp => ?_⟩
  obtain ⟨b, o, h1, h2, h3⟩ := h.out hp
  exact ⟨b, o, h1, h2, fun r hr => ⟨_, h3 r hr, (h.row r hr).1⟩⟩
structure Outs (B : Nat) (w : World) (v : Value) (m n : Nat) (F : Nat → Nat → Int) : Prop where
  mat : ∃ (a : Option Addr) (g cap : Nat) (R : Nat → Nat), v = .slice a m cap ∧ (0 < m → a = some ⟨g, 0, none⟩) ∧ MatI w g m n R F ∧ (∀ i, i < m → B ≤ R i) ∧ B ≤ g
theorem own_row {B : Nat} {w : World} {v : Value} {n : Nat} {xs : List Int} (h : w.ownsRow B 3 1 v n (iCells xs)) (hn : n ≤ 1000) (hl : xs.length = n) : RowAt w v xs := by
  rcases h.2 with ⟨rfl, h0⟩ | ⟨g, cap, cur, rfl, hb, hg, h1, h2, h3, h4⟩
  · exact ⟨none, 0, by rw [hl, h0], by omega, fun hp => by omega⟩
  · refine ⟨_, _, by rw [hl], by omega, fun hp => ⟨g, 0, rfl, (Array.getElem?_eq_some_iff.1 hg).1, fun c hc => ?_⟩⟩
    rw [Nat.zero_add, h.cellAt c (by omega), iCells_get, List.getElem?_eq_getElem hc]; rfl
end Go.Proofs.Ytmndgoapkmhglab
