import Derived.Test.YtmndgoapkmhglaaDoorM19RefJ
import Derived.Test.YtmndgoapkmhglaaDoorM35JudL
namespace Go.Proofs.YtmndgoapkmhglaaDoor
open Go.RowKit
attribute [local go_sem ↓] Go.wp_at_zero Go.wp_at_succ

/-- what judge.Text answers. -/
def TextRes (w w' : World) (e : Ending) (s : ByteArray) : Prop :=
  ∃ vd vn, e = .returned (.tuple #[.agg #[vd, vn], .int .i64 ((textF s).1 : Int), .int .i64 ((textF s).2 : Int)]) ∧
    (((textF s).1 ≠ 0 ∧ vd = .slice none 0 0 ∧ vn = .slice none 0 0) ∨
     ((textF s).1 = 0 ∧ ∃ p, parseF s = .ok p ∧ (∃ a n c, vd = .slice a n c) ∧ (∃ a n c, vn = .slice a n c) ∧
      w'.ownsRow w.heap.size 96 7 vd p.decls.length (dcCells p.decls) ∧ w'.ownsRow w.heap.size 93 11 vn p.nodes.length (ndCells (boundN p)) ∧ (∀ g, vd.ownBlock = some g → vn.ownBlock ≠ some g)))

theorem row2 {w : World} {N : Nat} {a0 a1 : Value} {t : TypeId} (h : w.heap[N]? = some (.cells #[a0, a1] t)) :
    w.cell? ⟨N, 0, none⟩ = some a0 ∧ w.cell? ⟨N, 1, none⟩ = some a1 ∧ ∀ i, w.frozen? ⟨N, i, none⟩ = false := by
  refine ⟨?_, ?_, fun i => frozen_of_row w N i _ _ h⟩ <;> (rw [cell_of_row w N _ _ _ _ h]; rfl)

theorem own_weak {w : World} {B B' e size n : Nat} {v : Value} {xs : List Value} (h : w.ownsRow B e size v n xs) (hb : B' ≤ B) : w.ownsRow B' e size v n xs := by
  refine ⟨h.1, ?_⟩
  rcases h.2 with h0 | ⟨g, cap, cur, hv, h1, hr⟩
  · exact .inl h0
  · exact .inr ⟨g, cap, cur, hv, Nat.le_trans hb h1, hr⟩
theorem own_poke {w : World} {B e size n N i : Nat} {v u : Value} {xs : List Value} (h : w.ownsRow B e size v n xs) (hN : N < B) : (w.setCell ⟨N, i, none⟩ u).ownsRow B e size v n xs :=
  own_same h (fun g hg => heap_setCell_other w ⟨N, i, none⟩ g u (by have := (h.lt g hg).1; show g ≠ N; omega))

set_option maxHeartbeats 1000000 in
set_option maxRecDepth 100000 in
theorem text_any (s : ByteArray) (w : World) (hs : s.size ≤ maxLen) (hg : s.size ≤ 1500 → ∀ p, parseF s = .ok p → Good p.decls (boundN p)) :
    Calls Tryd.prog 7 #[.string s] w fun e w' => TextRes w w' e s ∧ Below w.heap.size w w' := by
  unfold maxLen at hs
  by_cases hl : 1500 < s.size
  · have HF : Hid (textF s = (1, 0)) := hide (by unfold textF; rw [if_pos hl])
    clear hg
    go_enter Tryd.func7, Tryd.ntmps7
    go_wp2
    refine bodyPost_ret (v := .tuple #[.agg #[.slice none 0 0, .slice none 0 0], .int .i64 1, .int .i64 0]) (by simp [results, Tryd.results7, go_sem]) rfl ?_
    exact ⟨⟨_, _, by rw [HF.out]; rfl, .inl ⟨by rw [HF.out]; simp, rfl, rfl⟩⟩, (Below.refl _ _).alloc (Nat.le_refl _) _⟩
  · have hs' : s.size ≤ 1500 := by omega
    have HG := hide (hg hs')
    clear hg
    go_enter Tryd.func7, Tryd.ntmps7
    go_wp2_with fail
    refine (parse_any s _ hs').mono ?_
    rintro e w1 ⟨hr, hb1⟩
    have hR1 := (hb1.block w.heap.size (by simp)).trans (heap_alloc_new w _)
    have hB1 : Below w.heap.size w w1 := ((Below.refl _ _).alloc (Nat.le_refl _) _).trans (hb1.mono (by simp))
    have hsz1 : w.heap.size < w1.heap.size := by have := hb1.size; simp at this; omega
    clear hb1
    cases hy : parseF s with
    | error k =>
      rw [hy] at hr
      obtain rfl := hr
      have HF : Hid (textF s = (2, (tkAt (toks s) k).pos)) := hide (by unfold textF; rw [if_neg hl, hy])
      obtain ⟨r0, r1, rF⟩ := row2 hR1
      have r0' : ∀ o, (w1.alloc o).cell? ⟨w.heap.size, 0, none⟩ = some (.slice none 0 0) := fun o => (World.cell?_alloc_past _ _ _ hsz1).trans r0
      have r1' : ∀ o, (w1.alloc o).cell? ⟨w.heap.size, 1, none⟩ = some (.slice none 0 0) := fun o => (World.cell?_alloc_past _ _ _ hsz1).trans r1
      have rF' : ∀ o i, (w1.alloc o).frozen? ⟨w.heap.size, i, none⟩ = false := fun o i => (World.frozen?_alloc_past _ _ _ hsz1).trans (rF i)
      clear hy hR1
      go_wp2
      refine bodyPost_ret (v := .tuple #[.agg #[.slice none 0 0, .slice none 0 0], .int .i64 2, .int .i64 ((tkAt (toks s) k).pos : Int)]) (by simp [results, Tryd.results7, go_sem, *]) rfl ?_
      refine ⟨⟨_, _, by rw [HF.out]; rfl, .inl ⟨by rw [HF.out]; simp, rfl, rfl⟩⟩, ?_⟩
      exact ((hB1.setCell (Nat.le_refl _) _).setCell (Nat.le_refl _) _).alloc (by simp; omega) _
    | ok p =>
      rw [hy] at hr
      obtain ⟨vd, vn, rfl, hod, hon, hdn⟩ := hr
      have hgood := HG.out p hy
      have HT : Hid (textF s = meaningF p.decls (boundN p)) := hide (by unfold textF; rw [if_neg hl, hy])
      have HY := hide hy
      have hbl : (boundN p).length = p.nodes.length := by simp [boundN]
      have hon' : w1.ownsRow (w.heap.size + 1) 93 11 vn (boundN p).length (ndCells (boundN p)) := by rw [hbl]; simpa [boundN] using hon
      have hod' : w1.ownsRow (w.heap.size + 1) 96 7 vd p.decls.length (dcCells p.decls) := by simpa using hod
      obtain ⟨ad, cd, rfl, _⟩ := own_shape hod'
      obtain ⟨an, cn, rfl, _⟩ := own_shape hon'
      have hPA : ProgAt (w1.alloc (.cells #[.slice ad p.decls.length cd, .slice an (boundN p).length cn] 32)) w1.heap.size p.decls (boundN p) (.slice ad p.decls.length cd) (.slice an (boundN p).length cn) :=
        ⟨by simp, (World.cell?_alloc_at _ _ _ _ rfl).trans rfl, (World.cell?_alloc_at _ _ _ _ rfl).trans rfl, (own_zero hod').alloc _, (own_zero hon').alloc _⟩
      have HPA := hide hPA
      have HOD := hide hod'
      have HON := hide hon'
      have HDN := hide hdn
      have HGOOD := hide hgood
      have HBL := hide hbl
      clear hPA hod hon hdn hgood hy hod' hon' hbl
      go_wp2_with fail
      refine (meaning_any _ _ _ _ _ _ HPA.out HGOOD.out).mono ?_
      rintro e w2 ⟨rfl, hb2⟩
      have hB2 : Below w.heap.size w w2 := (hB1.alloc (by omega) _).trans (hb2.mono (by simp; omega))
      have hB12 : Below w1.heap.size w1 w2 := ((Below.refl _ _).alloc (Nat.le_refl _) _).trans (hb2.mono (by simp))
      have hR2 := (hB12.block _ hsz1).trans hR1
      have hq2 := HPA.out.below hb2
      obtain ⟨r0, r1, rF⟩ := row2 hR2
      have c0 := hq2.c0
      have c1 := hq2.c1
      have nq : w1.heap.size ≠ w.heap.size := by omega
      have nq' : w.heap.size ≠ w1.heap.size := by omega
      have HB12 := hide hB12
      have HB2 := hide hB2
      clear hb2 hR2 hR1 hq2 hB2 hB12 hB1
      by_cases he : (meaningF p.decls (boundN p)).1 = 0
      · have q1 : (((meaningF p.decls (boundN p)).1 : Int) != 0) = false := by rw [he]; rfl
        have HE : Hid ((textF s).1 = 0) := hide (by rw [HT.out]; exact he)
        have HE2 : Hid ((textF s).2 = 0) := hide (by
          rw [HT.out]
          revert he
          unfold meaningF
          split
          · intro h; cases h
          split
          · intro h; cases h
          split
          · intro h; cases h
          split
          · intro h; cases h
          split
          · intro h; cases h
          · intro _; rfl)
        clear he
        go_wp2
        refine bodyPost_ret (v := .tuple #[.agg #[.slice ad p.decls.length cd, .slice an (boundN p).length cn], .int .i64 0, .int .i64 0]) (by simp [results, Tryd.results7, go_sem, *]) rfl ?_
        refine ⟨⟨_, _, by rw [HE.out, HE2.out]; rfl, .inr ⟨HE.out, p, HY.out, ⟨_, _, _, rfl⟩, ⟨_, _, _, rfl⟩, ?_, ?_, ?_⟩⟩, (HB2.out.setCell (Nat.le_refl _) _).setCell (Nat.le_refl _) _⟩
        · exact own_weak (own_poke (own_poke (bel_own HOD.out HB12.out) (by omega)) (by omega)) (by omega)
        · rw [← HBL.out]
          exact own_weak (own_poke (own_poke (bel_own HON.out HB12.out) (by omega)) (by omega)) (by omega)
        · exact HDN.out
      · have q1 : (((meaningF p.decls (boundN p)).1 : Int) != 0) = true := by rw [bne_iff_ne]; omega
        have HE : Hid ((textF s).1 ≠ 0) := hide (by rw [HT.out]; exact he)
        have HTX := HT
        clear he
        go_wp2
        refine bodyPost_ret (v := .tuple #[.agg #[.slice none 0 0, .slice none 0 0], .int .i64 ((meaningF p.decls (boundN p)).1 : Int), .int .i64 ((meaningF p.decls (boundN p)).2 : Int)]) (by simp [results, Tryd.results7, go_sem, *]) rfl ?_
        exact ⟨⟨_, _, by rw [HTX.out], .inl ⟨HE.out, rfl, rfl⟩⟩, (HB2.out.setCell (Nat.le_refl _) _).setCell (Nat.le_refl _) _⟩

end Go.Proofs.YtmndgoapkmhglaaDoor

namespace Go.Proofs.YtmndgoapkmhglaaDoor
open Go.RowKit
attribute [local go_sem ↓] Go.wp_at_zero Go.wp_at_succ

theorem any_range {p : Nat → Bool} (n k : Nat) (h : k < n) : (List.range' k (n - k)).any p = (p k || (List.range' (k + 1) (n - (k + 1))).any p) := by
  rw [show n - k = (n - (k + 1)) + 1 by omega, List.range'_succ, List.any_cons]

set_option maxHeartbeats 1000000 in
theorem rdelayed_any (w : World) (q g cap : Nat) (ts : List Tk) (L : List Dl) (vE vA vI vQ : Value) (h : RProg w q g cap ts L vE vA vI vQ) (ho : ROk ts L) (fr j : Nat) (hfj : fr ≤ j) (hj : j < ts.length) :
    Calls Tryd.prog 65 #[.pointer (some ⟨q, 0, none⟩), .int .i64 (fr : Int), .int .i64 (j : Int)] w fun e w' => e = .returned (.bool (delayedR ts fr j)) ∧ Below w.heap.size w w' := by
  have hlen := ho.len
  obtain ⟨gE, capE, rfl, _, hgE⟩ := h.ends.form (by omega)
  have HR := hide h
  have HO := hide ho
  clear h ho
  go_enter Tryd.func65, Tryd.ntmps65
  go_wp2
  go_loopw [7] (fun f wr => ∃ k : Nat, k ≤ j ∧ f = .int .i64 k ∧ Below w.heap.size w wr ∧ ((List.range' k (j - k)).any fun f => lAt ts f == kFby && decide (j < behindF ts (f + 1))) = delayedR ts fr j) (fun f _ => j - (intOf f).toNat)
  case atStart => exact ⟨fr, hfj, rfl, Below.refl _ _, rfl⟩
  case round =>
    obtain ⟨k, hk, rfl, hbel, hrec⟩ := hrel
    have c0 := (HR.out.below hbel).c0
    have c1 := (HR.out.below hbel).c1
    by_cases hlt : k < j
    · obtain ⟨a, ha⟩ : ∃ a, a = rtok (tkAt ts k) := ⟨_, rfl⟩
      obtain ⟨x0, x1, x2, x3⟩ := HR.out.toks.cells hbel (show k < ts.length by omega) a ha
      have hkw := (HO.out.F k).kw kFby (by decide)
      rw [← ha] at hkw
      have r1 := end_later HR.out.ends hbel hgE (show k + 1 < ts.length by omega)
      have j1 : (0 : Int) ≤ (k : Int) := by omega
      have j2 : (k : Int) < (ts.length : Int) := by omega
      have j3 : (0 : Int) ≤ (k : Int) + 1 := by omega
      have j4 : (k : Int) + 1 < (ts.length : Int) := by omega
      have j5 : (k : Int) < (j : Int) := by omega
      have hbl := behindF_le ts (k + 1) (by omega)
      rw [any_range _ _ hlt] at hrec
      generalize behindF ts (k + 1) = b at r1 hrec hbl
      by_cases hf : a.l = kFby
      · have q1 := str_yes (t := a.word) hf
        simp only [kFby] at q1
        have hl : (lAt ts k == kFby) = true := by rw [beq_iff_eq]; exact hkw.1 hf
        rw [hl, Bool.true_and] at hrec
        by_cases hb : j < b
        · have q2 : (j : Int) < (b : Int) := by omega
          rw [decide_eq_true hb, Bool.true_or] at hrec
          have HRC := hide hrec
          clear hrec hl hf hb hkw ha
          go_wp2
          go_ret
          exact ⟨by rw [← HRC.out]; rfl, by first | exact hbel | exact below_drewN hbel _⟩
        · have q2 : ¬ (j : Int) < (b : Int) := by omega
          rw [decide_eq_false hb, Bool.false_or] at hrec
          have HRC := hide hrec
          clear hrec hl hf hb hkw ha
          go_wp2
          go_roundw
          case rel => exact ⟨k + 1, by omega, by go_num, by first | exact hbel | exact below_drewN hbel _, HRC.out⟩
          case measure => simp [intOf]; omega
      · have q1 := str_no (t := a.word) hf
        simp only [kFby] at q1
        have hl : (lAt ts k == kFby) = false := by rw [beq_eq_false_iff_ne]; exact fun e => hf (hkw.2 e)
        rw [hl, Bool.false_and, Bool.false_or] at hrec
        have HRC := hide hrec
        clear hrec hl hf hkw ha
        go_wp2
        go_roundw
        case rel => exact ⟨k + 1, by omega, by go_num, by first | exact hbel | exact below_drewN hbel _, HRC.out⟩
        case measure => simp [intOf]; omega
    · have e0 : j - k = 0 := by omega
      rw [e0] at hrec
      have HRC := hide hrec
      have z1 : ¬ (k : Int) < (j : Int) := by omega
      clear hrec e0
      go_wp2
      go_ret
      exact ⟨by rw [← HRC.out]; rfl, hbel⟩

end Go.Proofs.YtmndgoapkmhglaaDoor
