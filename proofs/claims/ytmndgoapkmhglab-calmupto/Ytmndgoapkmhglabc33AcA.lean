import Derived.Test.Ytmndgoapkmhglabc26JudI
import Derived.Test.Ytmndgoapkmhglabc32OpenL
namespace Go.Proofs.Ytmndgoapkmhglab
open Go.RowKit
attribute [local go_sem ↓] Go.wp_at_zero Go.wp_at_succ
set_option maxHeartbeats 1000000 in
theorem pwithin_any (x l m : Int) (w : World) :
    Calls Try.prog 73 #[.int .i64 x, .int .i64 l, .int .i64 m] w fun e w' => e = .returned (.bool (inB x l m)) ∧ Below w.heap.size w w' := by
  by_cases h1 : l ≤ x
  · have h1' : x ≥ l := h1
    by_cases h2 : x ≤ m
    · go_enter Try.func73, Try.ntmps73
      go_wp2
      go_ret
      exact ⟨by simp [inB, h1, h2], Below.refl _ _⟩
    · go_enter Try.func73, Try.ntmps73
      go_wp2
      go_ret
      exact ⟨by simp [inB, h1, h2], Below.refl _ _⟩
  · have h1' : ¬ x ≥ l := h1
    go_enter Try.func73, Try.ntmps73
    go_wp2
    go_ret
    exact ⟨by simp [inB]; omega, Below.refl _ _⟩
set_option maxHeartbeats 1000000 in
theorem pboth_any (o : OpF) (l m : Int) (w : World) :
    Calls Try.prog 74 #[.agg #[.int .i64 o.k, .int .i64 o.a, .int .i64 o.b, .int .i64 o.c], .int .i64 l, .int .i64 m] w fun e w' => e = .returned (.bool (bothB o l m)) ∧ Below w.heap.size w w' := by
  obtain ⟨b0, hb0⟩ : ∃ b0, b0 = w.alloc (.cells #[.int .i64 o.k, .int .i64 o.a, .int .i64 o.b, .int .i64 o.c] 43) := ⟨_, rfl⟩
  have HW0 : Hid (Below w.heap.size w b0) := hide (by rw [hb0]; exact (Below.refl _ _).alloc (Nat.le_refl _) _)
  have HC : Hid (∀ W : World, Below b0.heap.size b0 W → W.cell? ⟨w.heap.size, 2, none⟩ = some (.int .i64 o.b) ∧ W.cell? ⟨w.heap.size, 3, none⟩ = some (.int .i64 o.c)) := hide fun W hW => by
    have hy : W.heap[w.heap.size]? = some (.cells #[.int .i64 o.k, .int .i64 o.a, .int .i64 o.b, .int .i64 o.c] 43 (0, 0)) := by
      rw [hW.block _ (by rw [hb0]; simp), hb0]; exact heap_alloc_new _ _
    refine ⟨?_, ?_⟩ <;> (rw [cell_of_row _ _ _ _ _ _ hy]; rfl)
  have HB : Hid (bothB o l m = (inB o.b l m && inB o.c l m)) := hide rfl
  have HP1 := hide (pwithin_any o.b l m)
  have HP2 := hide (pwithin_any o.c l m)
  generalize inB o.b l m = p1 at *
  generalize inB o.c l m = p2 at *
  go_enter Try.func74, Try.ntmps74
  go_wp2_with fail
  rw [← hb0]
  clear hb0
  refine (HP1.out b0).mono ?_
  rintro e w1 ⟨rfl, hb1⟩
  obtain ⟨c2, c3⟩ := HC.out w1 hb1
  have HB1 : Hid (Below w.heap.size w w1) := hide (HW0.out.trans (hb1.mono HW0.out.size))
  clear hb1
  cases p1 with
  | false =>
    go_wp2
    go_ret
    exact ⟨by rw [HB.out]; rfl, HB1.out⟩
  | true =>
    go_wp2_with fail
    refine (HP2.out w1).mono ?_
    rintro e w2 ⟨rfl, hb2⟩
    have HB2 : Hid (Below w.heap.size w w2) := hide (HB1.out.trans (hb2.mono HB1.out.size))
    clear hb2 c2 c3
    go_wp2
    go_ret
    exact ⟨by rw [HB.out]; rfl, HB2.out⟩
set_option maxHeartbeats 1000000 in
set_option maxRecDepth 100000 in
theorem ppeopled_any (w : World) (ve : Value) (es : List Dc) (B : Nat) (he : w.ownsRow B 126 7 ve es.length (dcCells es)) (hl : es.length ≤ 1501) (q : Int) :
    Calls Try.prog 72 #[ve, .int .i64 q] w fun e w' => e = .returned (.bool (hereK (es.map Dc.place) q)) ∧ Below w.heap.size w w' := by
  obtain ⟨av, cap, rfl, hsh⟩ := own_shape he
  have HO := hide (own_zero he)
  have HSH := hide hsh
  clear he hsh
  go_enter Try.func72, Try.ntmps72
  go_wp2
  go_loopw [9] (fun i wr => ∃ k : Nat, k ≤ es.length ∧ i = .int .i64 k ∧ Below w.heap.size w wr ∧ hereK ((es.drop k).map Dc.place) q = hereK (es.map Dc.place) q) (fun i _ => es.length - (intOf i).toNat)
  case atStart => exact ⟨0, Nat.zero_le _, rfl, Below.refl _ _, rfl⟩
  case round =>
    obtain ⟨k, hk, rfl, hbel, hrec⟩ := hrel
    by_cases hlt : k < es.length
    · obtain ⟨g, rfl, _, hg2⟩ := HSH.out (by omega)
      obtain ⟨a, ha⟩ : ∃ a, a = es[k]'hlt := ⟨_, rfl⟩
      rw [drop_at es k hlt, ← ha] at hrec
      obtain ⟨x0, x1, x2, x3, x4, x5, x6⟩ := dc_later HO.out hbel hg2 hlt a ha
      have j1 : (0 : Int) ≤ (k : Int) := by omega
      have j2 : (k : Int) < (es.length : Int) := by omega
      have HR : Hid (hereK (es.map Dc.place) q = (((a.place : Int) == q) || hereK ((es.drop (k + 1)).map Dc.place) q)) := hide (by rw [← hrec]; rfl)
      clear ha hrec
      obtain ⟨pq, hpq⟩ : ∃ pq, (((a.place : Nat) : Int) == q) = pq := ⟨_, rfl⟩
      rw [hpq] at HR
      cases pq with
      | true =>
        go_wp2
        go_ret
        exact ⟨by rw [HR.out]; rfl, hbel.alloc hbel.size _⟩
      | false =>
        go_wp2
        go_roundw
        case rel => exact ⟨k + 1, by omega, by go_num, hbel.alloc hbel.size _, by rw [HR.out]; rfl⟩
        case measure => simp [intOf]; omega
    · have HR : Hid (hereK (es.map Dc.place) q = false) := hide (by rw [← hrec, List.drop_of_length_le (by omega)]; rfl)
      clear hrec
      go_wp2
      go_ret
      exact ⟨by rw [HR.out]; rfl, hbel⟩
abbrev OpF.av (o : OpF) : Value := .agg #[.int .i64 o.k, .int .i64 o.a, .int .i64 o.b, .int .i64 o.c]
def aheadV (sc : List OpF) (i : Nat) : Value := .tuple #[((aheadP sc i).map fun k => (actF sc k).av).getD (.agg #[.int .i64 0, .int .i64 0, .int .i64 0, .int .i64 0]), .bool (aheadP sc i).isSome]
set_option maxHeartbeats 1000000 in
set_option maxRecDepth 100000 in
theorem pahead_any (w : World) (v : Value) (sc : List OpF) (h : OpsAt w v sc) (i : Nat) (hi : i < sc.length) :
    Calls Try.prog 77 #[v, .int .i64 i] w fun e w' => e = .returned (aheadV sc i) ∧ Below w.heap.size w w' := by
  obtain ⟨A, C, rfl, hm, hc⟩ := h
  obtain ⟨b, o, rfl, hb, hr⟩ := hc (by omega)
  have HR := hide hr
  have hw : IntKind.i64.wrap ((i : Int) - 1) = (i : Int) - 1 := by rw [IntKind.wrap_i64]; omega
  have HAV : Hid (aheadV sc i = .tuple #[((aheadG sc i i).map fun k => (actF sc k).av).getD (.agg #[.int .i64 0, .int .i64 0, .int .i64 0, .int .i64 0]), .bool (aheadG sc i i).isSome]) := hide rfl
  clear hc hr
  go_enter Try.func77, Try.ntmps77
  go_wp2
  go_loopw [6] (fun vk wr => ∃ k : Nat, k ≤ i ∧ vk = .int .i64 ((k : Int) - 1) ∧ Below w.heap.size w wr ∧ w.heap.size < wr.heap.size ∧ wr.heap[w.heap.size]? = some (.cells #[.int .i64 0, .int .i64 0, .int .i64 0, .int .i64 0] 43 (0, 0)) ∧ aheadG sc i k = aheadG sc i i) (fun vk _ => (intOf vk + 1).toNat)
  case atStart => exact ⟨i, Nat.le_refl _, by first | rfl | rw [hw], (Below.refl _ _).alloc (Nat.le_refl _) _, by simp, heap_alloc_new _ _, rfl⟩
  case round =>
    obtain ⟨k, hk, rfl, hbr, hNl, hNc, hl⟩ := hrel
    have HL := hide hl
    have HBR := hide hbr
    have HNC := hide hNc
    have z0 := (cell_of_row wr w.heap.size 0 _ _ _ hNc)
    have z1 := (cell_of_row wr w.heap.size 1 _ _ _ hNc)
    have z2 := (cell_of_row wr w.heap.size 2 _ _ _ hNc)
    have z3 := (cell_of_row wr w.heap.size 3 _ _ _ hNc)
    simp at z0 z1 z2 z3
    have f0 := (frozen_of_row wr w.heap.size 0 _ _ hNc)
    have f1 := (frozen_of_row wr w.heap.size 1 _ _ hNc)
    have f2 := (frozen_of_row wr w.heap.size 2 _ _ hNc)
    have f3 := (frozen_of_row wr w.heap.size 3 _ _ hNc)
    clear hl hNc
    cases k with
    | succ k =>
      have hkl : k < sc.length := by omega
      have e1 : ((k + 1 : Nat) : Int) - 1 = (k : Int) := by omega
      rw [e1]
      have X := HR.out k hkl
      rw [actF_get hkl] at X
      have x0 := (hbr.cell (p := ⟨b, o + k * 4, none⟩) hb).trans X.1
      have x1 := (hbr.cell (p := ⟨b, o + k * 4 + 1, none⟩) hb).trans X.2.1
      have x2 := (hbr.cell (p := ⟨b, o + k * 4 + 2, none⟩) hb).trans X.2.2.1
      have x3 := (hbr.cell (p := ⟨b, o + k * 4 + 3, none⟩) hb).trans X.2.2.2
      have y0 := (hbr.cell (p := ⟨b, o + i * 4, none⟩) hb).trans (HR.out i hi).1
      rw [actF_get hi] at y0
      have j1 : (0 : Int) ≤ (i : Int) := by omega
      have j2 : (i : Int) < (sc.length : Int) := by omega
      have j3 : (0 : Int) ≤ (k : Int) := by omega
      have j4 : (k : Int) < (sc.length : Int) := by omega
      have j5 : (k : Int) ≥ 0 := by omega
      have HG : Hid (aheadG sc i i = if (actF sc k).k = (actF sc i).k then some k else aheadG sc i k) := hide (by rw [← HL.out]; rfl)
      have hkw : IntKind.i64.wrap ((k : Int) - 1) = (k : Int) - 1 := by rw [IntKind.wrap_i64]; omega
      clear hbr X
      by_cases he : (actF sc k).k = (actF sc i).k
      · have HF : Hid (aheadG sc i i = some k) := hide (by rw [HG.out, if_pos he])
        have q1 : ((actF sc k).k == (actF sc i).k) = true := by rw [he]; simp
        have HV : Hid (aheadV sc i = .tuple #[.agg #[.int .i64 (actF sc k).k, .int .i64 (actF sc k).a, .int .i64 (actF sc k).b, .int .i64 (actF sc k).c], .bool true]) := hide (by rw [HAV.out, HF.out]; rfl)
        clear he HG
        generalize (actF sc k).k = u0 at *
        generalize (actF sc k).a = u1 at *
        generalize (actF sc k).b = u2 at *
        generalize (actF sc k).c = u3 at *
        generalize (actF sc i).k = v0 at *
        go_wp2_with fail
        go_quiet (fail)
        go_wp2
        (try simp only [Exit.inBlock, Exit.then])
        refine bodyPost_ret (v := .tuple #[.agg #[.int .i64 u0, .int .i64 u1, .int .i64 u2, .int .i64 u3], .bool true]) (by simp [results, Try.results77, go_sem, z0, z1, z2, z3]) rfl ?_
        refine ⟨by rw [HV.out], ?_⟩
        have hb0 : Below w.heap.size w (wr.drewN nq) := below_drewN HBR.out _
        exact ((((hb0.setCell (Nat.le_refl _) _).setCell (Nat.le_refl _) _).setCell (Nat.le_refl _) _).setCell (Nat.le_refl _) _)
      · have HF : Hid (aheadG sc i k = aheadG sc i i) := hide (by rw [HG.out, if_neg he])
        have q1 : ((actF sc k).k == (actF sc i).k) = false := by rw [beq_eq_false_iff_ne]; exact he
        clear he HG x1 x2 x3
        generalize (actF sc k).k = u0 at *
        generalize (actF sc i).k = v0 at *
        go_wp2_with fail
        go_quiet (fail)
        go_wp2
        go_roundw
        case rel => exact ⟨k, by omega, by first | rfl | rw [hkw], by first | exact HBR.out | exact below_drewN HBR.out _, by first | exact hNl | (simp; exact hNl), by first | exact HNC.out | (simp; exact HNC.out), HF.out⟩
        case measure => simp [intOf]
    | zero =>
      have e1 : ((0 : Nat) : Int) - 1 = -1 := rfl
      rw [e1]
      have HF : Hid (aheadG sc i i = none) := hide (by rw [← HL.out]; rfl)
      go_wp2
      (try simp only [Exit.inBlock, Exit.then])
      refine bodyPost_ret (v := .tuple #[.agg #[.int .i64 0, .int .i64 0, .int .i64 0, .int .i64 0], .bool false]) (by simp [results, Try.results77, go_sem, z0, z1, z2, z3]) rfl ?_
      refine ⟨by rw [HAV.out, HF.out]; rfl, ?_⟩
      exact ((((HBR.out.setCell (Nat.le_refl _) _).setCell (Nat.le_refl _) _).setCell (Nat.le_refl _) _).setCell (Nat.le_refl _) _)
end Go.Proofs.Ytmndgoapkmhglab
