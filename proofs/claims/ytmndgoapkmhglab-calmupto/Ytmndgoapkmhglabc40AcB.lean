import Derived.Test.Ytmndgoapkmhglabc22JudJ
import Derived.Test.Ytmndgoapkmhglabc29PlyL
/- the program's acts: within, bothWithin, peopled, ahead; and which bounds fit. -/
namespace Go.Proofs.Ytmndgoapkmhglab
open Go.RowKit
attribute [local go_sem ↓] Go.wp_at_zero Go.wp_at_succ

set_option maxHeartbeats 1000000 in
theorem pwithin_any (x l m : Int) (w : World) :
    Calls Try.prog 73 #[.int .i64 x, .int .i64 l, .int .i64 m] w fun e w' => e = .returned (.bool (inB x l m)) ∧ Below w.heap.size w w' := by
  by_cases h1 : l ≤ x
  · have h1' : x ≥ l := h1
    by_cases h2 : x ≤ m
    · go_enter Try.func73, Try.ntmps73
      go_wp2
      go_ret
      exact ⟨by simp [inB, h1, h2], Below.refl _ _⟩
    · go_enter Try.func73, Try.ntmps73
      go_wp2
      go_ret
      exact ⟨by simp [inB, h1, h2], Below.refl _ _⟩
  · have h1' : ¬ x ≥ l := h1
    go_enter Try.func73, Try.ntmps73
    go_wp2
    go_ret
    exact ⟨by simp [inB]; omega, Below.refl _ _⟩

set_option maxHeartbeats 1000000 in
theorem pboth_any (o : OpF) (l m : Int) (w : World) :
    Calls Try.prog 74 #[.agg #[.int .i64 o.k, .int .i64 o.a, .int .i64 o.b, .int .i64 o.c], .int .i64 l, .int .i64 m] w fun e w' => e = .returned (.bool (bothB o l m)) ∧ Below w.heap.size w w' := by
  obtain ⟨b0, hb0⟩ : ∃ b0, b0 = w.alloc (.cells #[.int .i64 o.k, .int .i64 o.a, .int .i64 o.b, .int .i64 o.c] 43) := ⟨_, rfl⟩
  have HW0 : Hid (Below w.heap.size w b0) := hide (by rw [hb0]; exact (Below.refl _ _).alloc (Nat.le_refl _) _)
  have HC : Hid (∀ W : World, Below b0.heap.size b0 W → W.cell? ⟨w.heap.size, 2, none⟩ = some (.int .i64 o.b) ∧ W.cell? ⟨w.heap.size, 3, none⟩ = some (.int .i64 o.c)) := hide fun W hW => by
    have hy : W.heap[w.heap.size]? = some (.cells #[.int .i64 o.k, .int .i64 o.a, .int .i64 o.b, .int .i64 o.c] 43 (0, 0)) := by
      rw [hW.block _ (by rw [hb0]; simp), hb0]; exact heap_alloc_new _ _
    refine ⟨?_, ?_⟩ <;> (rw [cell_of_row _ _ _ _ _ _ hy]; rfl)
  have HB : Hid (bothB o l m = (inB o.b l m && inB o.c l m)) := hide rfl
  have HP1 := hide (pwithin_any o.b l m)
  have HP2 := hide (pwithin_any o.c l m)
  generalize inB o.b l m = p1 at *
  generalize inB o.c l m = p2 at *
  go_enter Try.func74, Try.ntmps74
  go_wp2_with fail
  rw [← hb0]
  clear hb0
  refine (HP1.out b0).mono ?_
  rintro e w1 ⟨rfl, hb1⟩
  obtain ⟨c2, c3⟩ := HC.out w1 hb1
  have HB1 : Hid (Below w.heap.size w w1) := hide (HW0.out.trans (hb1.mono HW0.out.size))
  clear hb1
  cases p1 with
  | false =>
    go_wp2
    go_ret
    exact ⟨by rw [HB.out]; rfl, HB1.out⟩
  | true =>
    go_wp2_with fail
    refine (HP2.out w1).mono ?_
    rintro e w2 ⟨rfl, hb2⟩
    have HB2 : Hid (Below w.heap.size w w2) := hide (HB1.out.trans (hb2.mono HB1.out.size))
    clear hb2 c2 c3
    go_wp2
    go_ret
    exact ⟨by rw [HB.out]; rfl, HB2.out⟩

set_option maxHeartbeats 1000000 in
set_option maxRecDepth 100000 in
theorem ppeopled_any (w : World) (ve : Value) (es : List Dc) (B : Nat) (he : w.ownsRow B 126 7 ve es.length (dcCells es)) (hl : es.length ≤ 1501) (q : Int) :
    Calls Try.prog 72 #[ve, .int .i64 q] w fun e w' => e = .returned (.bool (hereK (es.map Dc.place) q)) ∧ Below w.heap.size w w' := by
  obtain ⟨av, cap, rfl, hsh⟩ := own_shape he
  have HO := hide (own_zero he)
  have HSH := hide hsh
  clear he hsh
  go_enter Try.func72, Try.ntmps72
  go_wp2
  go_loopw [9] (fun i wr => ∃ k : Nat, k ≤ es.length ∧ i = .int .i64 k ∧ Below w.heap.size w wr ∧ hereK ((es.drop k).map Dc.place) q = hereK (es.map Dc.place) q) (fun i _ => es.length - (intOf i).toNat)
  case atStart => exact ⟨0, Nat.zero_le _, rfl, Below.refl _ _, rfl⟩
  case round =>
    obtain ⟨k, hk, rfl, hbel, hrec⟩ := hrel
    by_cases hlt : k < es.length
    · obtain ⟨g, rfl, _, hg2⟩ := HSH.out (by omega)
      obtain ⟨a, ha⟩ : ∃ a, a = es[k]'hlt := ⟨_, rfl⟩
      rw [drop_at es k hlt, ← ha] at hrec
      obtain ⟨x0, x1, x2, x3, x4, x5, x6⟩ := dc_later HO.out hbel hg2 hlt a ha
      have j1 : (0 : Int) ≤ (k : Int) := by omega
      have j2 : (k : Int) < (es.length : Int) := by omega
      have HR : Hid (hereK (es.map Dc.place) q = (((a.place : Int) == q) || hereK ((es.drop (k + 1)).map Dc.place) q)) := hide (by rw [← hrec]; rfl)
      clear ha hrec
      obtain ⟨pq, hpq⟩ : ∃ pq, (((a.place : Nat) : Int) == q) = pq := ⟨_, rfl⟩
      rw [hpq] at HR
      cases pq with
      | true =>
        go_wp2
        go_ret
        exact ⟨by rw [HR.out]; rfl, hbel.alloc hbel.size _⟩
      | false =>
        go_wp2
        go_roundw
        case rel => exact ⟨k + 1, by omega, by go_num, hbel.alloc hbel.size _, by rw [HR.out]; rfl⟩
        case measure => simp [intOf]; omega
    · have HR : Hid (hereK (es.map Dc.place) q = false) := hide (by rw [← hrec, List.drop_of_length_le (by omega)]; rfl)
      clear hrec
      go_wp2
      go_ret
      exact ⟨by rw [HR.out]; rfl, hbel⟩

/-- an act as one value. -/
abbrev OpF.av (o : OpF) : Value := .agg #[.int .i64 o.k, .int .i64 o.a, .int .i64 o.b, .int .i64 o.c]
def aheadV (sc : List OpF) (i : Nat) : Value := .tuple #[((aheadP sc i).map fun k => (actF sc k).av).getD (.agg #[.int .i64 0, .int .i64 0, .int .i64 0, .int .i64 0]), .bool (aheadP sc i).isSome]

set_option maxHeartbeats 1000000 in
set_option maxRecDepth 100000 in
theorem pahead_any (w : World) (v : Value) (sc : List OpF) (h : OpsAt w v sc) (i : Nat) (hi : i < sc.length) :
    Calls Try.prog 77 #[v, .int .i64 i] w fun e w' => e = .returned (aheadV sc i) ∧ Below w.heap.size w w' := by
  obtain ⟨A, C, rfl, hm, hc⟩ := h
  obtain ⟨b, o, rfl, hb, hr⟩ := hc (by omega)
  have HR := hide hr
  have hw : IntKind.i64.wrap ((i : Int) - 1) = (i : Int) - 1 := by rw [IntKind.wrap_i64]; omega
  have HAV : Hid (aheadV sc i = .tuple #[((aheadG sc i i).map fun k => (actF sc k).av).getD (.agg #[.int .i64 0, .int .i64 0, .int .i64 0, .int .i64 0]), .bool (aheadG sc i i).isSome]) := hide rfl
  clear hc hr
  go_enter Try.func77, Try.ntmps77
  go_wp2
  go_loopw [6] (fun vk wr => ∃ k : Nat, k ≤ i ∧ vk = .int .i64 ((k : Int) - 1) ∧ Below w.heap.size w wr ∧ w.heap.size < wr.heap.size ∧ wr.heap[w.heap.size]? = some (.cells #[.int .i64 0, .int .i64 0, .int .i64 0, .int .i64 0] 43 (0, 0)) ∧ aheadG sc i k = aheadG sc i i) (fun vk _ => (intOf vk + 1).toNat)
  case atStart => exact ⟨i, Nat.le_refl _, by first | rfl | rw [hw], (Below.refl _ _).alloc (Nat.le_refl _) _, by simp, heap_alloc_new _ _, rfl⟩
  case round =>
    obtain ⟨k, hk, rfl, hbr, hNl, hNc, hl⟩ := hrel
    have HL := hide hl
    have HBR := hide hbr
    have HNC := hide hNc
    have z0 := (cell_of_row wr w.heap.size 0 _ _ _ hNc)
    have z1 := (cell_of_row wr w.heap.size 1 _ _ _ hNc)
    have z2 := (cell_of_row wr w.heap.size 2 _ _ _ hNc)
    have z3 := (cell_of_row wr w.heap.size 3 _ _ _ hNc)
    simp at z0 z1 z2 z3
    have f0 := (frozen_of_row wr w.heap.size 0 _ _ hNc)
    have f1 := (frozen_of_row wr w.heap.size 1 _ _ hNc)
    have f2 := (frozen_of_row wr w.heap.size 2 _ _ hNc)
    have f3 := (frozen_of_row wr w.heap.size 3 _ _ hNc)
    clear hl hNc
    cases k with
    | succ k =>
      have hkl : k < sc.length := by omega
      have e1 : ((k + 1 : Nat) : Int) - 1 = (k : Int) := by omega
      rw [e1]
      have X := HR.out k hkl
      rw [actF_get hkl] at X
      have x0 := (hbr.cell (p := ⟨b, o + k * 4, none⟩) hb).trans X.1
      have x1 := (hbr.cell (p := ⟨b, o + k * 4 + 1, none⟩) hb).trans X.2.1
      have x2 := (hbr.cell (p := ⟨b, o + k * 4 + 2, none⟩) hb).trans X.2.2.1
      have x3 := (hbr.cell (p := ⟨b, o + k * 4 + 3, none⟩) hb).trans X.2.2.2
      have y0 := (hbr.cell (p := ⟨b, o + i * 4, none⟩) hb).trans (HR.out i hi).1
      rw [actF_get hi] at y0
      have j1 : (0 : Int) ≤ (i : Int) := by omega
      have j2 : (i : Int) < (sc.length : Int) := by omega
      have j3 : (0 : Int) ≤ (k : Int) := by omega
      have j4 : (k : Int) < (sc.length : Int) := by omega
      have j5 : (k : Int) ≥ 0 := by omega
      have HG : Hid (aheadG sc i i = if (actF sc k).k = (actF sc i).k then some k else aheadG sc i k) := hide (by rw [← HL.out]; rfl)
      have hkw : IntKind.i64.wrap ((k : Int) - 1) = (k : Int) - 1 := by rw [IntKind.wrap_i64]; omega
      clear hbr X
      by_cases he : (actF sc k).k = (actF sc i).k
      · have HF : Hid (aheadG sc i i = some k) := hide (by rw [HG.out, if_pos he])
        have q1 : ((actF sc k).k == (actF sc i).k) = true := by rw [he]; simp
        have HV : Hid (aheadV sc i = .tuple #[.agg #[.int .i64 (actF sc k).k, .int .i64 (actF sc k).a, .int .i64 (actF sc k).b, .int .i64 (actF sc k).c], .bool true]) := hide (by rw [HAV.out, HF.out]; rfl)
        clear he HG
        generalize (actF sc k).k = u0 at *
        generalize (actF sc k).a = u1 at *
        generalize (actF sc k).b = u2 at *
        generalize (actF sc k).c = u3 at *
        generalize (actF sc i).k = v0 at *
        go_wp2_with fail
        go_quiet (fail)
        go_wp2
        (try simp only [Exit.inBlock, Exit.then])
        refine bodyPost_ret (v := .tuple #[.agg #[.int .i64 u0, .int .i64 u1, .int .i64 u2, .int .i64 u3], .bool true]) (by simp [results, Try.results77, go_sem, z0, z1, z2, z3]) rfl ?_
        refine ⟨by rw [HV.out], ?_⟩
        have hb0 : Below w.heap.size w (wr.drewN nq) := below_drewN HBR.out _
        exact ((((hb0.setCell (Nat.le_refl _) _).setCell (Nat.le_refl _) _).setCell (Nat.le_refl _) _).setCell (Nat.le_refl _) _)
      · have HF : Hid (aheadG sc i k = aheadG sc i i) := hide (by rw [HG.out, if_neg he])
        have q1 : ((actF sc k).k == (actF sc i).k) = false := by rw [beq_eq_false_iff_ne]; exact he
        clear he HG x1 x2 x3
        generalize (actF sc k).k = u0 at *
        generalize (actF sc i).k = v0 at *
        go_wp2_with fail
        go_quiet (fail)
        go_wp2
        go_roundw
        case rel => exact ⟨k, by omega, by first | rfl | rw [hkw], by first | exact HBR.out | exact below_drewN HBR.out _, by first | exact hNl | (simp; exact hNl), by first | exact HNC.out | (simp; exact HNC.out), HF.out⟩
        case measure => simp [intOf]
    | zero =>
      have e1 : ((0 : Nat) : Int) - 1 = -1 := rfl
      rw [e1]
      have HF : Hid (aheadG sc i i = none) := hide (by rw [← HL.out]; rfl)
      go_wp2
      (try simp only [Exit.inBlock, Exit.then])
      refine bodyPost_ret (v := .tuple #[.agg #[.int .i64 0, .int .i64 0, .int .i64 0, .int .i64 0], .bool false]) (by simp [results, Try.results77, go_sem, z0, z1, z2, z3]) rfl ?_
      refine ⟨by rw [HAV.out, HF.out]; rfl, ?_⟩
      exact ((((HBR.out.setCell (Nat.le_refl _) _).setCell (Nat.le_refl _) _).setCell (Nat.le_refl _) _).setCell (Nat.le_refl _) _)

set_option maxHeartbeats 1000000 in
theorem pfit_any (b : BdF) (w : World) :
    Calls Try.prog 32 #[b.val] w fun e w' => e = .returned (.bool (fitF b)) ∧ Below w.heap.size w w' := by
  obtain ⟨t0, t1, d0, d1⟩ := b
  by_cases h1 : t0 < 1
  · go_enter Try.func32, Try.ntmps32
    go_wp2
    go_ret
    exact ⟨by simp [fitF, h1], (Below.refl _ _).alloc (Nat.le_refl _) _⟩
  by_cases h2 : t1 < t0
  · go_enter Try.func32, Try.ntmps32
    go_wp2
    go_ret
    exact ⟨by simp [fitF, h2], (Below.refl _ _).alloc (Nat.le_refl _) _⟩
  by_cases h3 : 1000000 < t1
  · have h3' : t1 > 1000000 := h3
    go_enter Try.func32, Try.ntmps32
    go_wp2
    go_ret
    exact ⟨by simp [fitF, h3], (Below.refl _ _).alloc (Nat.le_refl _) _⟩
  have h3' : ¬ t1 > 1000000 := h3
  by_cases h4 : 0 ≤ d0
  · have h4' : d0 ≥ 0 := h4
    by_cases h5 : d0 ≤ d1
    · have h5' : d1 ≥ d0 := h5
      by_cases h6 : d1 < t0
      · go_enter Try.func32, Try.ntmps32
        go_wp2
        go_ret
        exact ⟨by simp [fitF, h1, h2, h3, h4, h5, h6], (Below.refl _ _).alloc (Nat.le_refl _) _⟩
      · go_enter Try.func32, Try.ntmps32
        go_wp2
        go_ret
        exact ⟨by simp [fitF, h6], (Below.refl _ _).alloc (Nat.le_refl _) _⟩
    · have h5' : ¬ d1 ≥ d0 := h5
      go_enter Try.func32, Try.ntmps32
      go_wp2
      go_ret
      exact ⟨by simp [fitF]; omega, (Below.refl _ _).alloc (Nat.le_refl _) _⟩
  · have h4' : ¬ d0 ≥ 0 := h4
    go_enter Try.func32, Try.ntmps32
    go_wp2
    go_ret
    exact ⟨by simp [fitF]; omega, (Below.refl _ _).alloc (Nat.le_refl _) _⟩

end Go.Proofs.Ytmndgoapkmhglab

/- the program's acts: apart, Playable, Keep. -/
namespace Go.Proofs.Ytmndgoapkmhglab
open Go.RowKit
attribute [local go_sem ↓] Go.wp_at_zero Go.wp_at_succ

theorem ahead_none {sc : List OpF} {i : Nat} (h : aheadP sc i = none) : aheadV sc i = .tuple #[.agg #[.int .i64 0, .int .i64 0, .int .i64 0, .int .i64 0], .bool false] := by unfold aheadV; rw [h]; rfl
theorem ahead_at {sc : List OpF} {i k : Nat} (h : aheadP sc i = some k) : aheadV sc i = .tuple #[.agg #[.int .i64 (actF sc k).k, .int .i64 (actF sc k).a, .int .i64 (actF sc k).b, .int .i64 (actF sc k).c], .bool true] := by unfold aheadV; rw [h]; rfl
theorem act_cells {w wr : World} {B b o : Nat} {sc : List OpF} (hr : ∀ i, (h : i < sc.length) → w.cell? ⟨b, o + i * 4, none⟩ = some (.int .i64 sc[i].k) ∧ w.cell? ⟨b, o + i * 4 + 1, none⟩ = some (.int .i64 sc[i].a) ∧ w.cell? ⟨b, o + i * 4 + 2, none⟩ = some (.int .i64 sc[i].b) ∧ w.cell? ⟨b, o + i * 4 + 3, none⟩ = some (.int .i64 sc[i].c)) (hb : Below B w wr) (hB : b < B) {i : Nat} (hi : i < sc.length) :
    wr.cell? ⟨b, o + i * 4, none⟩ = some (.int .i64 (actF sc i).k) ∧ wr.cell? ⟨b, o + i * 4 + 1, none⟩ = some (.int .i64 (actF sc i).a) ∧ wr.cell? ⟨b, o + i * 4 + 2, none⟩ = some (.int .i64 (actF sc i).b) ∧ wr.cell? ⟨b, o + i * 4 + 3, none⟩ = some (.int .i64 (actF sc i).c) := by
  obtain ⟨x0, x1, x2, x3⟩ := hr i hi
  rw [actF_get hi] at x0 x1 x2 x3
  exact ⟨(hb.cell (p := ⟨b, o + i * 4, none⟩) hB).trans x0, (hb.cell (p := ⟨b, o + i * 4 + 1, none⟩) hB).trans x1, (hb.cell (p := ⟨b, o + i * 4 + 2, none⟩) hB).trans x2, (hb.cell (p := ⟨b, o + i * 4 + 3, none⟩) hB).trans x3⟩
theorem box_cells {w W : World} {a0 a1 a2 a3 : Value} {t : TypeId} (h : Below (w.heap.size + 1) (w.alloc (.cells #[a0, a1, a2, a3] t)) W) : W.cell? ⟨w.heap.size, 0, none⟩ = some a0 ∧ W.cell? ⟨w.heap.size, 1, none⟩ = some a1 ∧ W.cell? ⟨w.heap.size, 2, none⟩ = some a2 ∧ W.cell? ⟨w.heap.size, 3, none⟩ = some a3 := by
  have hy : W.heap[w.heap.size]? = some (.cells #[a0, a1, a2, a3] t (0, 0)) := by
    rw [h.block _ (by omega)]; exact heap_alloc_new _ _
  refine ⟨?_, ?_, ?_, ?_⟩ <;> (rw [cell_of_row _ _ _ _ _ _ hy]; rfl)

set_option maxHeartbeats 2000000 in
set_option maxRecDepth 100000 in
theorem papart_any (w : World) (v : Value) (sc : List OpF) (h : OpsAt w v sc) (ht : ∀ i, i < sc.length → 0 ≤ (actF sc i).a ∧ (actF sc i).a ≤ 1099511627776) :
    Calls Try.prog 75 #[v] w fun e w' => e = .returned (.bool ((List.range sc.length).all (apartA sc))) ∧ Below w.heap.size w w' := by
  have HS := hide h
  have HT := hide ht
  obtain ⟨A, C, rfl, hm, hc⟩ := h
  have HA := hide hc
  clear hc ht
  go_enter Try.func75, Try.ntmps75
  go_wp2
  go_loopw [9] (fun vi wr => ∃ i : Nat, i ≤ sc.length ∧ vi = .int .i64 i ∧ Below w.heap.size w wr ∧ (List.range i).all (apartA sc) = true) (fun vi _ => sc.length - (intOf vi).toNat)
  case atStart => exact ⟨0, Nat.zero_le _, rfl, Below.refl _ _, rfl⟩
  case round =>
    obtain ⟨i, hi, rfl, hbr, hall⟩ := hrel
    have HAL := hide hall
    clear hall
    by_cases hil : i < sc.length
    · obtain ⟨b, o, rfl, hb, hr⟩ := HA.out (by omega)
      obtain ⟨x0, x1, x2, x3⟩ := act_cells hr hbr hb hil
      have j3 : (0 : Int) ≤ (i : Int) := by omega
      have j4 : (i : Int) < (sc.length : Int) := by omega
      have HBR := hide hbr
      have HAI : Hid (apartA sc i = match aheadP sc i with | none => true | some k => bothB (actF sc k) 0 ((actF sc i).a - (actF sc k).a - 1)) := hide rfl
      clear hr hbr
      go_wp2_with fail
      have HBX : Hid (Below w.heap.size w (wr.alloc (.cells #[.int .i64 (actF sc i).k, .int .i64 (actF sc i).a, .int .i64 (actF sc i).b, .int .i64 (actF sc i).c] 43))) := hide (HBR.out.alloc HBR.out.size _)
      refine (pahead_any _ _ sc (HS.out.below HBX.out) i hil).mono ?_
      rintro e w1 ⟨rfl, hb1⟩
      have c1 : ∀ u, (w1.alloc u).cell? ⟨wr.heap.size, 1, none⟩ = some (.int .i64 (actF sc i).a) := fun u => (box_cells (by simpa using hb1.alloc (by simpa using hb1.size) u)).2.1
      have HB1 : Hid (Below w.heap.size w w1) := hide (HBX.out.trans (hb1.mono HBX.out.size))
      clear hb1 x0 x1 x2 x3
      cases hc : aheadP sc i with
      | none =>
        rw [ahead_none hc]
        have HT2 : Hid (apartA sc i = true) := hide (by rw [HAI.out, hc])
        clear hc
        go_wp2
        go_roundw
        case rel => exact ⟨i + 1, by omega, by go_num, HB1.out.alloc HB1.out.size _, all_step HAL.out HT2.out⟩
        case measure => simp [intOf]; omega
      | some k =>
        rw [ahead_at hc]
        have g1 := (aheadG_some hc).1
        have t1 := HT.out i hil
        have t2 := HT.out k (by omega)
        have HT2 : Hid (apartA sc i = bothB (actF sc k) 0 ((actF sc i).a - (actF sc k).a - 1)) := hide (by rw [HAI.out, hc])
        clear hc HAI
        generalize actF sc k = ak at *
        have hw1 : IntKind.i64.wrap ((actF sc i).a - ak.a) = (actF sc i).a - ak.a := by rw [IntKind.wrap_i64]; omega
        have hw2 : IntKind.i64.wrap ((actF sc i).a - ak.a - 1) = (actF sc i).a - ak.a - 1 := by rw [IntKind.wrap_i64]; omega
        generalize (actF sc i).a = ai at *
        obtain ⟨a0, a1, a2, a3⟩ := ak
        simp only [] at hw1 hw2
        clear t1 t2
        go_wp2_with fail
        refine (pboth_any ⟨a0, a1, a2, a3⟩ 0 (ai - a1 - 1) _).mono ?_
        rintro e w2 ⟨rfl, hb2⟩
        have HB2 : Hid (Below w.heap.size w w2) := hide ((HB1.out.alloc HB1.out.size _).trans (hb2.mono (by have := HB1.out.size; simp; omega)))
        rw [← show apartA sc i = bothB ⟨a0, a1, a2, a3⟩ 0 (ai - a1 - 1) from HT2.out]
        clear hb2 HT2 c1
        cases hp : apartA sc i with
        | false =>
          have HF : Hid ((List.range sc.length).all (apartA sc) = false) := hide (all_fail hil hp)
          clear hp
          go_wp2
          go_ret
          exact ⟨by rw [HF.out]; rfl, HB2.out⟩
        | true =>
          have HF : Hid ((List.range (i + 1)).all (apartA sc) = true) := hide (all_step HAL.out hp)
          clear hp
          go_wp2
          go_roundw
          case rel => exact ⟨i + 1, by omega, by go_num, HB2.out, HF.out⟩
          case measure => simp [intOf]; omega
    · have ek : i = sc.length := by omega
      subst ek
      go_wp2
      go_ret
      exact ⟨by rw [HAL.out]; rfl, hbr⟩

set_option maxHeartbeats 2000000 in
set_option maxRecDepth 100000 in
theorem pplayable_any (w : World) (q : Nat) (ds : List Dc) (ns : List Nd) (vd vn : Value) (h : ProgAt w q ds ns vd vn) (hdl : ds.length ≤ 1501) (v : Value) (sc : List OpF) (hs : OpsAt w v sc) :
    Calls Try.prog 47 #[.pointer (some ⟨q, 0, none⟩), v] w fun e w' => e = .returned (.bool (playP ((eqsF ds).map Dc.place) sc)) ∧ Below w.heap.size w w' := by
  have HS := hide hs
  have HP := hide h
  obtain ⟨A, C, rfl, hm, hc⟩ := hs
  by_cases h4 : sc.length ≤ 400
  · have z0 : ¬ (sc.length : Int) > 400 := by omega
    obtain ⟨ws, hws⟩ : ∃ ws, ws = (eqsF ds).map Dc.place := ⟨_, rfl⟩
    have HPL : Hid (playP ws sc = ((List.range sc.length).all (okA ws sc) && (List.range sc.length).all (apartA sc))) := hide (by unfold playP; rw [decide_eq_true h4, Bool.true_and])
    have hel : (eqsF ds).length ≤ 1501 := Nat.le_trans (List.length_filter_le _ _) hdl
    have HA := hide hc
    have HWS := hide hws
    rw [← hws]
    clear hc h hws
    go_enter Try.func47, Try.ntmps47
    go_wp2_with fail
    refine (equations_any w q ds ns vd vn HP.out hdl).mono ?_
    rintro e w0 ⟨ve, rfl, he, hb0⟩
    have HE := hide he
    have HB0 := hide hb0
    clear he hb0
    go_wp2
    go_loopw [6, 16] (fun vl vi wr => ∃ i : Nat, i ≤ sc.length ∧ vi = .int .i64 i ∧ vl = .int .i64 (lastP sc i) ∧ Below w0.heap.size w0 wr ∧ (List.range i).all (okA ws sc) = true) (fun _ vi _ => sc.length - (intOf vi).toNat)
    case atStart => exact ⟨0, Nat.zero_le _, rfl, rfl, Below.refl _ _, rfl⟩
    case round =>
      obtain ⟨i, hi, rfl, rfl, hbr, hall⟩ := hrel
      have HAL := hide hall
      have HBR := hide hbr
      have HWR : Hid (Below w.heap.size w wr) := hide (HB0.out.trans (hbr.mono HB0.out.size))
      clear hall hbr
      by_cases hil : i < sc.length
      · obtain ⟨b, o, rfl, hb, hr⟩ := HA.out (by omega)
        obtain ⟨x0, x1, x2, x3⟩ := act_cells hr HWR.out hb hil
        have j3 : (0 : Int) ≤ (i : Int) := by omega
        have j4 : (i : Int) < (sc.length : Int) := by omega
        have HOK : Hid (okA ws sc i = (hereK ws (actF sc i).k && inB (actF sc i).a (lastP sc i) 1099511627776 && bothB (actF sc i) 0 1099511627776)) := hide rfl
        have HFL : Hid (okA ws sc i = false → playP ws sc = false) := hide (fun e => by rw [HPL.out, all_fail hil e, Bool.false_and])
        have HLS : Hid (lastP sc (i + 1) = (actF sc i).a) := hide rfl
        generalize lastP sc i = la at *
        clear hr
        have hbA : Below w0.heap.size w0 (wr.alloc (.cells #[.int .i64 (actF sc i).k, .int .i64 (actF sc i).a, .int .i64 (actF sc i).b, .int .i64 (actF sc i).c] 43)) := HBR.out.alloc HBR.out.size _
        have HBA := hide hbA
        have HPE := hide (fun W (hW : Below w0.heap.size w0 W) => ppeopled_any W ve (eqsF ds) _ (bel_own HE.out hW) hel (actF sc i).k)
        rw [← HWS.out] at HPE
        have HPW := hide (pwithin_any (actF sc i).a la 1099511627776)
        have HPB := hide (pboth_any (actF sc i) 0 1099511627776)
        generalize hereK ws (actF sc i).k = p1 at *
        generalize inB (actF sc i).a la 1099511627776 = p2 at *
        generalize bothB (actF sc i) 0 1099511627776 = p3 at *
        clear hbA
        go_wp2_with fail
        refine (HPE.out _ HBA.out).mono ?_
        rintro e w1 ⟨rfl, hb1⟩
        have hb1' : Below (wr.heap.size + 1) (wr.alloc (.cells #[.int .i64 (actF sc i).k, .int .i64 (actF sc i).a, .int .i64 (actF sc i).b, .int .i64 (actF sc i).c] 43)) w1 := by simpa using hb1
        have HB1' := hide hb1'
        obtain ⟨c0, c1, c2, c3⟩ := box_cells hb1'
        have HB1 : Hid (Below w0.heap.size w0 w1) := hide (HBA.out.trans (hb1.mono HBA.out.size))
        clear hb1 hb1' x0 x1 x2 x3
        cases p1 with
        | false =>
          have HF : Hid (playP ws sc = false) := hide (HFL.out (by rw [HOK.out]; rfl))
          clear HOK
          go_wp2
          go_ret
          exact ⟨by rw [HF.out]; rfl, HB0.out.trans (HB1.out.mono HB0.out.size)⟩
        | true =>
          go_wp2_with fail
          refine (HPW.out w1).mono ?_
          rintro e w2 ⟨rfl, hb2⟩
          obtain ⟨d0, d1, d2, d3⟩ := box_cells (HB1'.out.trans (hb2.mono (by simpa using HB1'.out.size)))
          have hb2' := HB1'.out.trans (hb2.mono (by simpa using HB1'.out.size))
          have HB2' := hide hb2'
          have HB2 : Hid (Below w0.heap.size w0 w2) := hide (HB1.out.trans (hb2.mono HB1.out.size))
          clear hb2 hb2' c0 c1 c2 c3
          cases p2 with
          | false =>
            have HF : Hid (playP ws sc = false) := hide (HFL.out (by rw [HOK.out]; rfl))
            clear HOK
            go_wp2
            go_ret
            exact ⟨by rw [HF.out]; rfl, HB0.out.trans (HB2.out.mono HB0.out.size)⟩
          | true =>
            go_wp2_with fail
            refine (HPB.out w2).mono ?_
            rintro e w3 ⟨rfl, hb3⟩
            obtain ⟨e0, e1, e2, e3⟩ := box_cells (HB2'.out.trans (hb3.mono (by simpa using HB2'.out.size)))
            have HB3 : Hid (Below w0.heap.size w0 w3) := hide (HB2.out.trans (hb3.mono HB2.out.size))
            clear hb3 d0 d1 d2 d3
            cases p3 with
            | false =>
              have HF : Hid (playP ws sc = false) := hide (HFL.out (by rw [HOK.out]; rfl))
              clear HOK
              go_wp2
              go_ret
              exact ⟨by rw [HF.out]; rfl, HB0.out.trans (HB3.out.mono HB0.out.size)⟩
            | true =>
              have HF : Hid (okA ws sc i = true) := hide (by rw [HOK.out]; rfl)
              clear HOK
              go_wp2
              go_roundw
              case rel => exact ⟨i + 1, by omega, by go_num, by rw [HLS.out], HB3.out, all_step HAL.out HF.out⟩
              case measure => simp [intOf]; omega
      · have ek : i = sc.length := by omega
        subst ek
        have HTM := hide (ok_time (all_iff.1 HAL.out))
        have HF : Hid (playP ws sc = (List.range sc.length).all (apartA sc)) := hide (by rw [HPL.out, HAL.out, Bool.true_and])
        generalize (lastP sc sc.length) = la at *
        go_wp2_with fail
        refine (papart_any wr _ sc (HS.out.below HWR.out) HTM.out).mono ?_
        rintro e w1 ⟨rfl, hb1⟩
        rw [← HF.out]
        have HB1 : Hid (Below w.heap.size w w1) := hide (HWR.out.trans (hb1.mono HWR.out.size))
        obtain ⟨pp, hpp⟩ : ∃ pp, pp = playP ws sc := ⟨_, rfl⟩
        have HPP := hide hpp
        rw [← hpp]
        clear hb1 HF hpp
        go_wp2
        go_ret
        exact ⟨by rw [← HPP.out]; rfl, HB1.out⟩
  · have z0 : (sc.length : Int) > 400 := by omega
    have HF : Hid (playP ((eqsF ds).map Dc.place) sc = false) := hide (by unfold playP; rw [decide_eq_false h4]; rfl)
    clear hc h
    go_enter Try.func47, Try.ntmps47
    go_wp2
    go_ret
    exact ⟨by rw [HF.out]; rfl, Below.refl _ _⟩

end Go.Proofs.Ytmndgoapkmhglab
