import Derived.Deep.RegionHeld3
import Derived.Test.Ytmndgoapkmhglabo03EvBx
import Derived.Test.Ytmndgoapkmhglabo18JudA
import Derived.Test.Ytmndgoapkmhglabo24PyB
import Derived.Test.Ytmndgoapkmhglabo28JudM
import Derived.Test.Ytmndgoapkmhglabo34HeldP
import Derived.Test.Ytmndgoapkmhglabo42OpenA
import Derived.Test.Ytmndgoapkmhglabo43OnD
namespace Go.Proofs.Ytmndgoapkmhglab
open Go.RowKit
attribute [local go_sem ↓] Go.wp_at_zero Go.wp_at_succ
set_option maxHeartbeats 4000000 in
set_option maxRecDepth 100000 in
theorem kevent_walk (w : World) (Z b : Nat) (aL : Option Addr) (n cL gS gT : Nat) (G : Nat → Nat → LiF) (st tl : Nat → Nat) (hB : Bk w Z b aL n cL gS gT (G 0) st tl) (q : Nat) (hq : q < 4) (aa ab ac : Int) (hZ : Z ≤ w.heap.size)
    (T : List Nat) (aT : Option Addr) (cT : Nat) (hT : ∀ m, (h : m < T.length) → ∃ g, aT = some ⟨g, 0, none⟩ ∧ g < Z ∧ w.cell? ⟨g, m, none⟩ = some (.int .i64 ((T[m] : Nat) : Int))) (hTl : T.length ≤ 6100) (hn0 : n = 0 → aL = none)
    (ek ea en : Int) (aV : Option Addr) (nV cV : Nat) (R Fb : Bool) (hst : st q ≤ 1000)
    (h1 : ∀ W m, (h : m < T.length) → Bk W Z b aL n cL gS gT (G m) st tl → Z ≤ W.heap.size → Calls Try.prog 42 #[.pointer (some ⟨b, 0, none⟩), .int .i64 ((T[m] : Nat) : Int), .agg #[.int .i64 (q : Int), .int .i64 aa, .int .i64 ab, .int .i64 ac]] W fun e w' => e = .returned (.bool true) ∧ Bk w' Z b aL n cL gS gT (G (m + 1)) st tl ∧ Below Z W w' ∧ ∀ j, j < W.heap.size → aL ≠ some ⟨j, 0, none⟩ → w'.heap[j]? = W.heap[j]?)
    (h2 : ∀ W, Bk W Z b aL n cL gS gT (G T.length) st tl → Calls Try.prog 43 #[.pointer (some ⟨b, 0, none⟩), .agg #[.int .i64 (q : Int), .int .i64 aa, .int .i64 ab, .int .i64 ac]] W fun e w' => e = .returned (.bool false) ∧ Below W.heap.size W w')
    (h3 : ∀ W, Bk W Z b aL n cL gS gT (G T.length) st tl → Calls Try.prog 44 #[.pointer (some ⟨b, 0, none⟩), .agg #[.int .i64 (q : Int), .int .i64 aa, .int .i64 ab, .int .i64 ac]] W fun e w' => e = .returned (.bool R) ∧ Below W.heap.size W w')
    (h4 : ∀ W, Bk W Z b aL n cL gS gT (G T.length) st tl → Calls Try.prog 45 #[.pointer (some ⟨b, 0, none⟩), .agg #[.int .i64 (q : Int), .int .i64 aa, .int .i64 ab, .int .i64 ac]] W fun e w' => e = .returned (.bool Fb) ∧ Below W.heap.size W w')
    (h5 : ∀ W, Bk W Z b aL n cL gS gT (G T.length) st tl → Z ≤ W.heap.size → Calls Try.prog 46 #[.pointer (some ⟨b, 0, none⟩), .agg #[.int .i64 (q : Int), .int .i64 aa, .int .i64 ab, .int .i64 ac]] W fun e w' => (∃ v, e = .returned v) ∧ Bk w' Z b aL n cL gS gT (tellL (G T.length) q (aa + ac) n) st (fun p => if p = q then tl q + 1 else tl p) ∧ Below Z W w' ∧ ∀ j, j < W.heap.size → aL ≠ some ⟨j, 0, none⟩ → j ≠ gT → w'.heap[j]? = W.heap[j]?) :
    Calls Try.prog 17 #[.pointer (some ⟨b, 0, none⟩), .agg #[.int .i64 (q : Int), .int .i64 aa, .int .i64 ab, .int .i64 ac], .agg #[.int .i64 ek, .int .i64 ea, .int .i64 (if R = true then 1 else if Fb = true then 2 else 0), .int .i64 en, .slice aT T.length cT, .slice aV nV cV]] w fun e w' => e = .returned (.bool true) ∧ Below Z w w' ∧ (R = true → Bk w' Z b aL n cL gS gT (G T.length) (fun p => if p = q then st q + 1 else st p) tl) ∧ (R = false → Fb = true → Bk w' Z b aL n cL gS gT (tellL (G T.length) q (aa + ac) n) st (fun p => if p = q then tl q + 1 else tl p)) ∧ (R = false → Fb = false → Bk w' Z b aL n cL gS gT (G T.length) st tl) := by
  obtain ⟨dd, hdd⟩ : ∃ dd : Int, dd = if R = true then 1 else if Fb = true then 2 else 0 := ⟨_, rfl⟩
  rw [← hdd]
  obtain ⟨w0, hw0⟩ : ∃ w0, w0 = w.alloc (.cells #[.int .i64 (q : Int), .int .i64 aa, .int .i64 ab, .int .i64 ac] 43) := ⟨_, rfl⟩
  have hb0 : Below w.heap.size w w0 := by rw [hw0]; exact (Below.refl _ _).alloc (Nat.le_refl _) _
  have hs0 : w0.heap.size = w.heap.size + 1 := by rw [hw0]; simp
  have hA0 : ActAt w0 w.heap.size ⟨q, aa, ab, ac⟩ := by rw [hw0]; exact ActAt.boxed w ⟨q, aa, ab, ac⟩
  obtain ⟨w1, hw1⟩ : ∃ w1, w1 = w0.alloc (.cells #[.int .i64 ek, .int .i64 ea, .int .i64 dd, .int .i64 en, .slice aT T.length cT, .slice aV nV cV] 41) := ⟨_, rfl⟩
  have hb1 : Below w0.heap.size w0 w1 := by rw [hw1]; exact (Below.refl _ _).alloc (Nat.le_refl _) _
  have hs1 : w1.heap.size = w.heap.size + 2 := by rw [hw1]; simp; omega
  have hA1 : ActAt w1 w.heap.size ⟨q, aa, ab, ac⟩ := World.rowIs.of_block hA0 (hb1.block _ hA0.lt)
  have hE1 : EvBox w1 (w.heap.size + 1) ek ea dd en (.slice aT T.length cT) (.slice aV nV cV) := by rw [hw1, ← hs0]; exact EvBox.boxed w0 _ _ _ _ _ _
  have hb1' : Below w.heap.size w w1 := hb0.trans (hb1.mono hb0.size)
  have hB1 := hB.below hb1'
  have hne : ∀ j, w.heap.size ≤ j → aL ≠ some ⟨j, 0, none⟩ := fun j hj e => by
    rcases Nat.eq_zero_or_pos n with h0 | h0
    · rw [hn0 h0] at e; cases e
    · obtain ⟨g, e2, h6, _⟩ := hB.ls h0
      rw [e] at e2
      cases e2
      have := h6.lt
      omega
  have hnz : ∀ j, j < Z → aL ≠ some ⟨j, 0, none⟩ := fun j hj e => by
    rcases Nat.eq_zero_or_pos n with h0 | h0
    · rw [hn0 h0] at e; cases e
    · obtain ⟨g, e2, h6, _, _, _, h7⟩ := hB.ls h0
      rw [e] at e2
      cases e2
      omega
  have hgSl := hB.sr.lt
  have hgTl := hB.tr.lt
  have HB1 := hide hB1
  have HA1 := hide hA1
  have HE1 := hide hE1
  have HBZ : Hid (Below Z w w1) := hide (hb1'.mono hZ)
  have HW1 := hide hw1
  have HW0 := hide hw0
  have HNE := hide hne
  have HNZ := hide hnz
  have HT := hide hT
  have H1 := hide h1
  have H2 := hide h2
  have H3 := hide h3
  have H4 := hide h4
  have H5 := hide h5
  have HDD := hide hdd
  have HS1 := hide hs1
  have HZ := hide hZ
  have j1 : (0 : Int) ≤ (q : Int) := by omega
  have j2 : (q : Int) < 4 := by omega
  have z0 := hA1.cells.1
  simp only [] at z0
  have e4 : w1.cell? ⟨w.heap.size + 1, 4, none⟩ = some (.slice aT T.length cT) := World.rowIs.cell hE1 (i := 4) (by omega)
  clear hB hB1 hA0 hA1 hE1 hb0 hb1 hb1' hw1 hw0 hne hnz hT h1 h2 h3 h4 h5 hdd hs0 hs1 hZ
  go_enter Try.func17, Try.ntmps17
  go_wp2
  rw [← HW0.out, ← HW1.out]
  clear z0 e4
  go_loopw [7] (fun vi wr => ∃ i : Nat, i ≤ T.length ∧ vi = .int .i64 i ∧ Bk wr Z b aL n cL gS gT (G i) st tl ∧ Below Z w wr ∧ ActAt wr w.heap.size ⟨q, aa, ab, ac⟩ ∧ EvBox wr (w.heap.size + 1) ek ea dd en (.slice aT T.length cT) (.slice aV nV cV) ∧ w.heap.size + 2 ≤ wr.heap.size) (fun vi _ => T.length - (intOf vi).toNat)
  case atStart => exact ⟨0, Nat.zero_le _, rfl, HB1.out, HBZ.out, HA1.out, HE1.out, Nat.le_of_eq HS1.out.symm⟩
  case round =>
    clear HB1 HBZ HA1 HE1 HS1 HW0 HW1
    obtain ⟨i, hi, rfl, hBr, hbr, hAr, hEr, hsr⟩ := hrel
    have e4 : wr.cell? ⟨w.heap.size + 1, 4, none⟩ = some (.slice aT T.length cT) := World.rowIs.cell hEr (i := 4) (by omega)
    obtain ⟨z0, z1, z2, z3⟩ := hAr.cells
    simp only [] at z0 z1 z2 z3
    have hZr : Z ≤ wr.heap.size := by have := HZ.out; omega
    by_cases hil : i < T.length
    · obtain ⟨g, rfl, hgZ, hcT⟩ := HT.out i hil
      have t0 := (hbr.cell (p := ⟨g, i, none⟩) hgZ).trans hcT
      have HTK : Hid (∀ W, Below wr.heap.size wr W → Calls Try.prog 42 #[.pointer (some ⟨b, 0, none⟩), .int .i64 ((T[i] : Nat) : Int), .agg #[.int .i64 (q : Int), .int .i64 aa, .int .i64 ab, .int .i64 ac]] W fun e w' => e = .returned (.bool true) ∧ Bk w' Z b aL n cL gS gT (G (i + 1)) st tl ∧ Below Z wr w' ∧ ActAt w' w.heap.size ⟨q, aa, ab, ac⟩ ∧ EvBox w' (w.heap.size + 1) ek ea dd en (.slice (some ⟨g, 0, none⟩) T.length cT) (.slice aV nV cV) ∧ w'.cell? ⟨g, i, none⟩ = some (.int .i64 ((T[i] : Nat) : Int))) := hide (fun W hW => (H1.out W i hil (hBr.below hW) (Nat.le_trans hZr hW.size)).mono (fun e w' ⟨h1, h2, h3, h4⟩ => by
        have hsW := hW.size
        have k1 := (h4 w.heap.size (by omega) (HNE.out _ (Nat.le_refl _))).trans (hW.block _ (by omega))
        have k2 := (h4 (w.heap.size + 1) (by omega) (HNE.out _ (by omega))).trans (hW.block _ (by omega))
        exact ⟨h1, h2, (hW.mono hZr).trans h3, World.rowIs.of_block hAr k1, World.rowIs.of_block hEr k2, (h3.cell (p := ⟨g, i, none⟩) hgZ).trans ((hW.cell (p := ⟨g, i, none⟩) (by show g < wr.heap.size; omega)).trans t0)⟩))
      have j3 : (0 : Int) ≤ (i : Int) := by omega
      have j4 : (i : Int) < (T.length : Int) := by omega
      have HBW := hide hbr
      generalize T[i] = tm at *
      clear hBr hbr hAr hEr hcT
      go_wp2_with fail
      go_region_held3 (fun w' => w'.cell? ⟨w.heap.size + 1, 4, none⟩ = some (.slice (some ⟨g, 0, none⟩) T.length cT) ∧ w'.cell? ⟨g, i, none⟩ = some (.int .i64 (tm : Int)) ∧ w'.cell? ⟨w.heap.size, 0, none⟩ = some (.int .i64 (q : Int)) ∧ w'.cell? ⟨w.heap.size, 1, none⟩ = some (.int .i64 aa) ∧ w'.cell? ⟨w.heap.size, 2, none⟩ = some (.int .i64 ab) ∧ w'.cell? ⟨w.heap.size, 3, none⟩ = some (.int .i64 ac)) (go_keep)
        ((go_at_call 42; refine (HTK.out _ (Below.refl _ _).drew).mono ?_; rintro e wa ⟨rfl, hBa, hba, hAa, hEa, t5⟩; have t4 := World.rowIs.cell hEa (i := 4) (by omega); have t6 := hAa.cells.1; have t7 := hAa.cells.2.1; have t8 := hAa.cells.2.2.1; have t9 := hAa.cells.2.2.2; simp only [] at t4 t6 t7 t8 t9))
      rename_i hHeld
      clear hHeld t4 t5 t6 t7 t8 t9 HTK e4 z0 z1 z2 z3 t0
      have HBA := hide hBa
      have HAA := hide hAa
      have HEA := hide hEa
      have HBB := hide (HBW.out.trans hba)
      have hsz := hba.size
      clear hBa hAa hEa hba
      go_wp2
      go_roundw
      case rel => exact ⟨i + 1, by omega, by go_num, HBA.out, HBB.out, HAA.out, HEA.out, by omega⟩
      case measure => simp [intOf]; omega
    · have ei : i = T.length := by omega
      subst ei
      have HBW := hide hbr
      have HBR := hide hBr
      have HAR := hide hAr
      have HER := hide hEr
      clear hbr hBr hAr hEr HT H1
      go_wp2_with fail
      refine (H2.out wr HBR.out).mono ?_
      rintro e w2 ⟨rfl, hb2⟩
      have HB2 := hide hb2
      have HBK2 := hide (HBR.out.below hb2)
      have s2 := hb2.size
      have hA2 : ActAt w2 w.heap.size ⟨q, aa, ab, ac⟩ := World.rowIs.of_block HAR.out (hb2.block _ (World.rowIs.lt HAR.out))
      obtain ⟨z0, z1, z2, z3⟩ := hA2.cells
      simp only [] at z0 z1 z2 z3
      have HA2 := hide hA2
      clear hb2 hA2
      go_wp2_with fail
      refine (H3.out w2 HBK2.out).mono ?_
      rintro e w3 ⟨rfl, hb3⟩
      have HB3 : Hid (Below wr.heap.size wr w3) := hide (HB2.out.trans (hb3.mono HB2.out.size))
      have HBK3 := hide (HBK2.out.below hb3)
      have s3 := hb3.size
      have hA3 : ActAt w3 w.heap.size ⟨q, aa, ab, ac⟩ := World.rowIs.of_block HA2.out (hb3.block _ (World.rowIs.lt HA2.out))
      clear z0 z1 z2 z3
      obtain ⟨z0, z1, z2, z3⟩ := hA3.cells
      simp only [] at z0 z1 z2 z3
      have HA3 := hide hA3
      clear hb3 hA3
      go_wp2_with fail
      refine (H4.out w3 HBK3.out).mono ?_
      rintro e w4 ⟨rfl, hb4⟩
      have HB4 : Hid (Below wr.heap.size wr w4) := hide (HB3.out.trans (hb4.mono HB3.out.size))
      have hB4 := HBK3.out.below hb4
      have s4 := hb4.size
      have hA4 : ActAt w4 w.heap.size ⟨q, aa, ab, ac⟩ := World.rowIs.of_block HA3.out (hb4.block _ (World.rowIs.lt HA3.out))
      have hE4 : EvBox w4 (w.heap.size + 1) ek ea dd en (.slice aT T.length cT) (.slice aV nV cV) := World.rowIs.of_block HER.out (HB4.out.block _ (World.rowIs.lt HER.out))
      have HBW4 : Hid (Below Z w w4) := hide (HBW.out.trans (HB4.out.mono hZr))
      have hZ4 : Z ≤ w4.heap.size := by omega
      clear z0 z1 z2 z3
      obtain ⟨z0, z1, z2, z3⟩ := hA4.cells
      simp only [] at z0 z1 z2 z3
      have HBK4 := hide hB4
      have HE4 := hide hE4
      have e2 : w4.cell? ⟨w.heap.size + 1, 2, none⟩ = some (.int .i64 dd) := World.rowIs.cell hE4 (i := 2) (by omega)
      cases R with
      | true =>
        have hd1 : dd = 1 := by rw [HDD.out]; rfl
        subst hd1
        have r1 := hB4.c1
        have r2 := hB4.cs hq
        have f2 := hB4.sr.frozen q
        obtain ⟨wy, hwy⟩ : ∃ wy, wy = (w4.setCell ⟨gS, q, none⟩ (.int .i64 ((st q : Int) + 1))).drew := ⟨_, rfl⟩
        have hBy : Bk wy Z b aL n cL gS gT (G T.length) (fun p => if p = q then st q + 1 else st p) tl := by
          rw [hwy]
          have h7 := hB4.setS (p := q) (st q + 1)
          rw [show ((st q + 1 : Nat) : Int) = (st q : Int) + 1 by omega] at h7
          exact h7.of_blocks (fun _ _ _ => rfl)
        have hEy : EvBox wy (w.heap.size + 1) ek ea 1 en (.slice aT T.length cT) (.slice aV nV cV) := by
          rw [hwy]
          exact World.rowIs.of_block (World.rowIs.setOther hE4 (a := ⟨gS, q, none⟩) (by show w.heap.size + 1 ≠ gS; omega) _) rfl
        have y2 : wy.cell? ⟨w.heap.size + 1, 2, none⟩ = some (.int .i64 1) := World.rowIs.cell hEy (i := 2) (by omega)
        have HBZ : Hid (Below Z w wy) := hide (by rw [hwy]; exact (HBW4.out.setCell (by show Z ≤ gS; exact hB4.z2) _).drew)
        have HBY := hide hBy
        have HWY := hide hwy
        have hw1 : IntKind.i64.wrap ((st q : Int) + 1) = (st q : Int) + 1 := by rw [IntKind.wrap_i64]; omega
        clear hBy hEy hwy hB4 hA4 hE4 hb4
        go_wp2_with fail
        go_big_region
        go_wp2_with fail
        rw [← HWY.out]
        go_wp2
        go_ret
        exact ⟨rfl, HBZ.out, HBY.out⟩
      | false =>
        cases Fb with
        | true =>
          have hd1 : dd = 2 := by rw [HDD.out]; rfl
          subst hd1
          have HEK : Hid (∀ w5 : World, (∀ j, j < w4.heap.size → aL ≠ some ⟨j, 0, none⟩ → j ≠ gT → w5.heap[j]? = w4.heap[j]?) → w5.cell? ⟨w.heap.size + 1, 2, none⟩ = some (.int .i64 2)) := hide (fun w5 h => (World.cell?_of_block (w := w4) (a := ⟨w.heap.size + 1, 2, none⟩) (h (w.heap.size + 1) (by omega) (HNE.out (w.heap.size + 1) (by omega)) (by omega))).trans e2)
          have HT5 := hide (H5.out w4 HBK4.out hZ4)
          clear hB4 hA4 hE4 hb4 e2
          go_wp2_with fail
          refine HT5.out.mono ?_
          rintro e w5 ⟨⟨v, rfl⟩, hB5, hb5, hk5⟩
          have e2 := HEK.out w5 hk5
          have HB5 := hide hB5
          have HBZ : Hid (Below Z w w5) := hide (HBW4.out.trans hb5)
          clear hB5 hb5 hk5 z0 z1 z2 z3 HT5
          go_wp2
          go_ret
          exact ⟨rfl, HBZ.out, HB5.out⟩
        | false =>
          have hd1 : dd = 0 := by rw [HDD.out]; rfl
          subst hd1
          clear hB4 hA4 hE4 hb4
          go_wp2
          go_ret
          exact ⟨rfl, HBW4.out, HBK4.out⟩
end Go.Proofs.Ytmndgoapkmhglab
namespace Go.Proofs.Ytmndgoapkmhglab
open Go.RowKit
def BkP (w : World) (Z b : Nat) (aL : Option Addr) (cL gS gT : Nat) (N : List LnF) (P : PastF) : Prop :=
  Bk w Z b aL N.length cL gS gT (lnP N P ⟨0, 0, 0, 0⟩ 0) (fun p => cntF P (p : Int) 1) (fun p => cntF P (p : Int) 2)
theorem kevent_any (w : World) (Z b : Nat) (aL : Option Addr) (cL gS gT : Nat) (N : List LnF) (V : Int → Nat → List Int) (P : PastF) (hB : BkP w Z b aL cL gS gT N P) (q : Nat) (hq : q < 4) (aa ab ac : Int) (hZ : Z ≤ w.heap.size)
    (hO : PastOk N P aa) (hI : RunInv N P) (hA : Apart N) (hP : P.length ≤ 400) (ha : (0 ≤ aa ∧ aa ≤ 1099511627776) ∧ (0 ≤ ab ∧ ab ≤ 1099511627776) ∧ (0 ≤ ac ∧ ac ≤ 1099511627776)) (hn0 : N.length = 0 → aL = none)
    (aT : Option Addr) (cT : Nat) (hT : ∀ m, (h : m < (tookF N P ⟨q, aa, ab, ac⟩).length) → ∃ g, aT = some ⟨g, 0, none⟩ ∧ g < Z ∧ w.cell? ⟨g, m, none⟩ = some (.int .i64 (((tookF N P ⟨q, aa, ab, ac⟩)[m] : Nat) : Int))) (ek ea en : Int) (aV : Option Addr) (nV cV : Nat) :
    Calls Try.prog 17 #[.pointer (some ⟨b, 0, none⟩), .agg #[.int .i64 (q : Int), .int .i64 aa, .int .i64 ab, .int .i64 ac], .agg #[.int .i64 ek, .int .i64 ea, .int .i64 (wakeF N V P ⟨q, aa, ab, ac⟩).did, .int .i64 en, .slice aT (tookF N P ⟨q, aa, ab, ac⟩).length cT, .slice aV nV cV]] w fun e w' => e = .returned (.bool true) ∧ BkP w' Z b aL cL gS gT N (P ++ [(⟨q, aa, ab, ac⟩, wakeF N V P ⟨q, aa, ab, ac⟩)]) ∧ Below Z w w' := by
  obtain ⟨a, hae⟩ : ∃ a : OpF, a = ⟨q, aa, ab, ac⟩ := ⟨_, rfl⟩
  have ak : a.k = (q : Int) := by rw [hae]
  have aa' : a.a = aa := by rw [hae]
  have ab' : a.b = ab := by rw [hae]
  have ac' : a.c = ac := by rw [hae]
  rw [← hae] at hT ⊢
  have hO' : PastOk N P a.a := by rw [aa']; exact hO
  have hTl : (tookF N P a).length ≤ 6100 := by
    have h1 : (tookF N P a).length ≤ N.length := by
      unfold tookF
      refine Nat.le_trans (List.length_filter_le _ _) ?_
      rw [List.length_range]
      exact Nat.le_refl _
    exact Nat.le_trans h1 hB.few
  have hsm : ∀ m l, l < N.length → _ := fun m l hl => lnP_small a hI hP (m := m) hl
  have hcl := cnt_len P (q : Int)
  have hB0 : Bk w Z b aL N.length cL gS gT (lnP N P a 0) (fun p => cntF P (p : Int) 1) (fun p => cntF P (p : Int) 2) := Bk.congr hB (fun l _ => lnP_start N P _ a l) (fun _ _ => rfl) (fun _ _ => rfl)
  have hdid : (wakeF N V P a).did = if readyF N P a = true then 1 else if freeF N P a = true then 2 else 0 := rfl
  have hW := kevent_walk w Z b aL N.length cL gS gT (lnP N P a) (fun p => cntF P (p : Int) 1) (fun p => cntF P (p : Int) 2) hB0 q hq aa ab ac hZ (tookF N P a) aT cT hT hTl hn0 ek ea en aV nV cV (readyF N P a) (freeF N P a) (by show cntF P (q : Int) 1 ≤ 1000; omega)
    (fun W m hm hBW hZW => by
      obtain ⟨k1, k2, k3, k4, k5⟩ := took_can hO' hI hm
      have hc := ktook_any W Z b aL N.length cL gS gT (lnP N P a m) (fun p => cntF P (p : Int) 1) (fun p => cntF P (p : Int) 2) hBW q hq aa ab ac _ k1 hZW (hsm m _ k1).1 ⟨ha.1.1, ha.1.2, ha.2.1.1, ha.2.1.2⟩ (by show (lnAt N _).dst = (q : Int); rw [k2, ak]) (by show ((takM N P a m _ : Nat) : Int) < ((cntF P _ 2 : Nat) : Int); omega) (by show comesN N P _ ≤ aa; rw [← aa']; exact k4) (by
        show ((takM N P a m _ : Nat) : Int) + ((lateN N _ : Nat) : Int) = ((cntF P (q : Int) 1 : Nat) : Int)
        rw [ak] at k5
        omega)
      refine hc.mono fun e w' ⟨h1, h2, h3, h4⟩ => ⟨h1, h2.congr (fun l _ => ?_) (fun _ _ => rfl) (fun _ _ => rfl), h3, h4⟩
      rw [← lnP_took hm l, aa', ab'])
    (fun W hBW => kleft_any W Z b aL N.length cL gS gT _ _ _ hBW q hq aa ab ac (fun l hl => (hsm _ l hl).1) (fun l hl h1 h2 h3 => by
      have h1' : (lnAt N l).dst = (q : Int) := h1
      have h2' : ((takM N P a (tookF N P a).length l : Nat) : Int) < ((cntF P (lnAt N l).src 2 : Nat) : Int) := h2
      have h3' : comesN N P l ≤ aa := h3
      have := left_none hO' hI hl (by rw [h1', ak]) (by omega) (by rw [aa']; exact h3')
      show ((takM N P a (tookF N P a).length l : Nat) : Int) + ((lateN N l : Nat) : Int) ≠ ((cntF P (q : Int) 1 : Nat) : Int)
      rw [ak] at this
      omega))
    (fun W hBW => kready_any W Z b aL N.length cL gS gT _ _ _ hBW q hq aa ab ac (readyF N P a) (fun l hl => (hsm _ l hl).1) (by show cntF P (q : Int) 1 ≤ 1000; omega) (by
      rw [ready_book hO' hI, ak]
      refine and_congr Iff.rfl (forall_congr' fun l => forall_congr' fun hl => forall_congr' fun hd => ?_)
      show _ ↔ ((takM N P a (tookF N P a).length l : Nat) : Int) + ((lateN N l : Nat) : Int) = ((cntF P (q : Int) 1 : Nat) : Int) + 1
      omega))
    (fun W hBW => kfree_any W Z b aL N.length cL gS gT _ _ _ hBW q hq aa ab ac (freeF N P a) (fun l hl => (hsm _ l hl).1) (by show cntF P (q : Int) 2 ≤ 1000; omega) (by
      rw [free_book hO' hI hA (by rw [aa']; exact ha.1.1), ak]
      refine and_congr Iff.rfl (forall_congr' fun l => forall_congr' fun hl => forall_congr' fun hd => ?_)
      show _ ↔ ((takM N P a (tookF N P a).length l : Nat) : Int) = ((cntF P (lnAt N l).src 2 : Nat) : Int) ∧ knoM N P a (tookF N P a).length l ≤ aa
      rw [aa']
      exact and_congr (by omega) Iff.rfl))
    (fun W hBW hZW => ktell_any W Z b aL N.length cL gS gT _ _ _ hBW q hq aa ab ac hZW (fun l hl => (hsm _ l hl).2) ⟨ha.1.1, ha.1.2, ha.2.2.1, ha.2.2.2⟩ (by show cntF P (q : Int) 2 ≤ 1000; omega))
  rw [← hdid] at hW
  refine hW.mono fun e w' ⟨h1, h2, h3, h4, h5⟩ => ⟨h1, ?_, h2⟩
  have hcn : ∀ (p : Nat) (what : Int), cntF (P ++ [(a, wakeF N V P a)]) (p : Int) what = cntF P (p : Int) what + (if p = q ∧ (wakeF N V P a).did = what then 1 else 0) := fun p what => by
    rw [cnt_next, ak]
    congr 1
    by_cases h : p = q
    · subst h; simp
    · have h' : ¬ ((q : Int) = (p : Int)) := by omega
      simp [h, h']
  show Bk w' Z b aL N.length cL gS gT _ _ _
  cases hr : readyF N P a with
  | true =>
    have hd : (wakeF N V P a).did = 1 := by rw [hdid, hr]; rfl
    refine (h3 hr).congr (fun l hl => (lnP_quiet V _ hl (by rw [hd]; decide)).symm) (fun p _ => ?_) (fun p _ => ?_)
    · rw [hcn p 1, hd]
      by_cases e : p = q
      · rw [if_pos e, if_pos ⟨e, rfl⟩, e]
      · rw [if_neg e, if_neg (fun h => e h.1)]; rfl
    · rw [hcn p 2, hd, if_neg (fun h => by have := h.2; omega)]; rfl
  | false =>
    cases hf : freeF N P a with
    | true =>
      have hd : (wakeF N V P a).did = 2 := by rw [hdid, hr, hf]; rfl
      refine (h4 hr hf).congr (fun l hl => ?_) (fun p _ => ?_) (fun p _ => ?_)
      · rw [lnP_tell V _ hl hd, ak, aa', ac']
      · rw [hcn p 1, hd, if_neg (fun h => by have := h.2; omega)]; rfl
      · rw [hcn p 2, hd]
        by_cases e : p = q
        · rw [if_pos e, if_pos ⟨e, rfl⟩, e]
        · rw [if_neg e, if_neg (fun h => e h.1)]; rfl
    | false =>
      have hd : (wakeF N V P a).did = 0 := by rw [hdid, hr, hf]; rfl
      refine (h5 hr hf).congr (fun l hl => (lnP_quiet V _ hl (by rw [hd]; decide)).symm) (fun p _ => ?_) (fun p _ => ?_)
      · rw [hcn p 1, hd, if_neg (fun h => by have := h.2; omega)]; rfl
      · rw [hcn p 2, hd, if_neg (fun h => by have := h.2; omega)]; rfl
end Go.Proofs.Ytmndgoapkmhglab
namespace Go.Proofs.Ytmndgoapkmhglab
open Go.RowKit
attribute [local go_sem ↓] Go.wp_at_zero Go.wp_at_succ
set_option maxHeartbeats 1000000 in
set_option maxRecDepth 100000 in
theorem check_any (s : ByteArray) (w : World) (hs : s.size ≤ maxLen) (hg : s.size ≤ 1500 → ∀ p, parseF s = .ok p → Good p.decls (boundN p)) :
    Calls Try.prog 25 #[.string s] w fun e w' => e = .returned (.tuple #[.int .i64 ((textF s).1 : Int), .int .i64 ((textF s).2 : Int)]) ∧ Below w.heap.size w w' := by
  go_enter Try.func25, Try.ntmps25
  go_wp2_with fail
  refine (text_any s w hs hg).mono ?_
  rintro e w1 ⟨⟨vd, vn, rfl, hr⟩, hb1⟩
  have hv : (∃ a n c, vd = .slice a n c) ∧ (∃ a n c, vn = .slice a n c) := by
    rcases hr with ⟨_, rfl, rfl⟩ | ⟨_, p, _, h1, h2, _⟩
    · exact ⟨⟨_, _, _, rfl⟩, ⟨_, _, _, rfl⟩⟩
    · exact ⟨h1, h2⟩
  obtain ⟨⟨a1, n1, c1, rfl⟩, ⟨a2, n2, c2, rfl⟩⟩ := hv
  clear hr hg hs
  go_wp2_with fail
  go_ret2
  exact ⟨rfl, hb1.alloc hb1.size _⟩
theorem drop_byt (s : ByteArray) (k : Nat) (h : k < s.size) : ∃ c : UInt8, s.data.toList.drop k = c :: s.data.toList.drop (k + 1) ∧ c.toNat = byt s k := by
  have hl := size_list s
  refine ⟨s.data.toList[k]'(by omega), List.drop_eq_getElem_cons (by omega), ?_⟩
  unfold byt
  rw [List.getD_eq_getElem?_getD, List.getElem?_eq_getElem (by omega)]
  rfl
def numB (s : ByteArray) (k : Nat) : Int := match numL k (s.data.toList.drop k) with
  | some v => (v : Int)
  | none => -1
theorem numB_skip (s : ByteArray) (k : Nat) (h : k < s.size) (hc : ¬ (48 ≤ byt s k ∧ byt s k ≤ 57)) : numB s k = numB s (k + 1) := by
  obtain ⟨c, hd, he⟩ := drop_byt s k h
  unfold numB
  rw [hd]
  have : W 2 c = false := by
    unfold W
    cases hw : (cls c.toNat == 2) with
    | false => rfl
    | true => have := cls_two (beq_iff_eq.1 hw); omega
  simp only [numL, this]
  rfl
theorem numB_end (s : ByteArray) (k : Nat) (h : s.size ≤ k) : numB s k = -1 := by
  have hl := size_list s
  unfold numB
  rw [List.drop_eq_nil_of_le (by omega)]
  rfl
theorem numB_dig (s : ByteArray) (k : Nat) (h : k < s.size) (hc : 48 ≤ byt s k ∧ byt s k ≤ 57) : numB s k = ((k + ((s.data.toList.drop (k + 1)).takeWhile (W 2)).length : Nat) : Int) := by
  obtain ⟨c, hd, he⟩ := drop_byt s k h
  unfold numB
  rw [hd]
  have : W 2 c = true := by unfold W; rw [he, cls_2 hc.1 hc.2]; rfl
  simp only [numL, this]
  rfl
theorem dig_more (s : ByteArray) (k : Nat) (h : k < s.size) (hc : 48 ≤ byt s k ∧ byt s k ≤ 57) : ((s.data.toList.drop k).takeWhile (W 2)).length = ((s.data.toList.drop (k + 1)).takeWhile (W 2)).length + 1 := by
  obtain ⟨c, hd, he⟩ := drop_byt s k h
  rw [hd, List.takeWhile_cons, if_pos (by unfold W; rw [he, cls_2 hc.1 hc.2]; rfl)]
  rfl
theorem dig_stop (s : ByteArray) (k : Nat) (hc : s.size ≤ k ∨ ¬ (48 ≤ byt s k ∧ byt s k ≤ 57)) : ((s.data.toList.drop k).takeWhile (W 2)).length = 0 := by
  by_cases h : k < s.size
  · obtain ⟨c, hd, he⟩ := drop_byt s k h
    have : W 2 c = false := by
      unfold W
      cases hw : (cls c.toNat == 2) with
      | false => rfl
      | true => have := cls_two (beq_iff_eq.1 hw); omega
    rw [hd, List.takeWhile_cons, this]
    rfl
  · have hl := size_list s
    rw [List.drop_eq_nil_of_le (by omega)]
    rfl
set_option maxHeartbeats 1000000 in
theorem number_any (s : ByteArray) (k0 : Nat) (w : World) (hs : s.size ≤ 1048576) (hk0 : k0 ≤ s.size) :
    Calls Try.prog 70 #[.string s, .int .i64 (k0 : Int)] w fun e w' => e = .returned (.int .i64 (numB s k0)) ∧ w = w' := by
  obtain ⟨R, hR⟩ : ∃ R, R = numB s k0 := ⟨_, rfl⟩
  rw [← hR]
  have HR := hide hR
  clear hR
  go_enter Try.func70, Try.ntmps70
  go_wp2
  go_loop [5] (fun v => ∃ k : Nat, k ≤ s.size ∧ v = .int .i64 k ∧ R = numB s k) (fun v => s.size - (intOf v).toNat)
  case atStart => exact ⟨k0, hk0, rfl, HR.out⟩
  case round =>
    obtain ⟨k, hk, rfl, hrk⟩ := hrel
    have HK := hide hrk
    clear hrk
    by_cases hlt : k < s.size
    · have eb := byt_eq s k hlt
      by_cases h1 : byt s k < 48
      · have HN : Hid (R = numB s (k + 1)) := hide (by rw [HK.out, numB_skip s k hlt (by omega)])
        have z1 : (byt s k : Int) < 48 := by omega
        clear h1
        go_wp2
        go_round
        case rel => exact ⟨k + 1, by omega, by go_num, HN.out⟩
        case measure => simp [intOf]; omega
      · by_cases h2 : 57 < byt s k
        · have HN : Hid (R = numB s (k + 1)) := hide (by rw [HK.out, numB_skip s k hlt (by omega)])
          have z1 : ¬ (byt s k : Int) < 48 := by omega
          have z2 : 57 < (byt s k : Int) := by omega
          clear h1 h2
          go_wp2
          go_round
          case rel => exact ⟨k + 1, by omega, by go_num, HN.out⟩
          case measure => simp [intOf]; omega
        · have z1 : ¬ (byt s k : Int) < 48 := by omega
          have z2 : ¬ 57 < (byt s k : Int) := by omega
          have HD : Hid (R = ((k + ((s.data.toList.drop (k + 1)).takeWhile (W 2)).length : Nat) : Int)) := hide (by rw [HK.out, numB_dig s k hlt (by omega)])
          clear h1 h2
          go_wp2
          go_loop [5] (fun v => ∃ m : Nat, m < s.size ∧ v = .int .i64 m ∧ R = ((m + ((s.data.toList.drop (m + 1)).takeWhile (W 2)).length : Nat) : Int)) (fun v => s.size - (intOf v).toNat)
          case atStart => exact ⟨k, hlt, rfl, HD.out⟩
          case round =>
            obtain ⟨m, hm, rfl, hrm⟩ := hrel
            have HM := hide hrm
            clear hrm z1 z2 eb
            by_cases hlt2 : m + 1 < s.size
            · have eb := byt_eq s (m + 1) hlt2
              have z0 : (m : Int) + 1 < (s.size : Int) := by omega
              by_cases h1 : byt s (m + 1) < 48
              · have HS := hide (dig_stop s (m + 1) (.inr (by omega)))
                have z1 : ¬ 48 ≤ (byt s (m + 1) : Int) := by omega
                clear h1
                go_wp2
                go_ret
                exact ⟨by rw [HM.out, HS.out]; rfl, rfl⟩
              · by_cases h2 : 57 < byt s (m + 1)
                · have HS := hide (dig_stop s (m + 1) (.inr (by omega)))
                  have z1 : 48 ≤ (byt s (m + 1) : Int) := by omega
                  have z2 : ¬ (byt s (m + 1) : Int) ≤ 57 := by omega
                  clear h1 h2
                  go_wp2
                  go_ret
                  exact ⟨by rw [HM.out, HS.out]; rfl, rfl⟩
                · have HS := hide (dig_more s (m + 1) hlt2 (by omega))
                  have z1 : 48 ≤ (byt s (m + 1) : Int) := by omega
                  have z2 : (byt s (m + 1) : Int) ≤ 57 := by omega
                  clear h1 h2
                  go_wp2
                  go_round
                  case rel => exact ⟨m + 1, by omega, by go_num, by rw [HM.out, HS.out]; omega⟩
                  case measure => simp [intOf]; omega
            · have HS := hide (dig_stop s (m + 1) (.inl (by omega)))
              have z0 : ¬ (m : Int) + 1 < (s.size : Int) := by omega
              go_wp2
              go_ret
              exact ⟨by rw [HM.out, HS.out]; rfl, rfl⟩
    · have HN : Hid (R = -1) := hide (by rw [HK.out, numB_end s k (by omega)])
      have ek : k = s.size := by omega
      have z0 : ¬ (k : Int) < (s.size : Int) := by omega
      clear ek
      go_wp2
      go_ret
      exact ⟨by rw [HN.out]; rfl, rfl⟩
theorem check_all (s : ByteArray) (w : World) (hs : s.size ≤ maxLen) :
    Calls Try.prog 25 #[.string s] w fun e w' => e = .returned (.tuple #[.int .i64 ((textF s).1 : Int), .int .i64 ((textF s).2 : Int)]) ∧ Below w.heap.size w w' :=
  check_any s w hs (fun h p hp => good_parse s h p hp)
def ansA : ByteArray := { data := #[105, 110, 32, 97, 59, 105, 110, 116, 32, 120, 32, 97, 116, 32, 48, 61, 40, 97, 43, 40, 48, 32, 102, 98, 121, 32, 120, 41, 41, 59] }
def ansB : ByteArray := { data := #[105, 110, 116, 32, 120, 32, 97, 116, 32, 48, 61, 120, 59] }
theorem ansA_text : textF ansA = (0, 0) := by decide +kernel
theorem ansB_text : textF ansB = (6, 4) := by decide +kernel
set_option maxHeartbeats 1000000 in
set_option maxRecDepth 100000 in
theorem answers_any (w : World) : Calls Try.prog 24 #[] w fun e w' => e = .returned (.bool true) ∧ Below w.heap.size w w' := by
  have cA := check_all ansA w (by decide)
  rw [ansA_text] at cA
  have cB := fun w => check_all ansB w (by decide)
  rw [ansB_text] at cB
  unfold ansA at cA
  unfold ansB at cB
  go_enter Try.func24, Try.ntmps24
  go_wp2_with fail
  refine cA.mono ?_
  rintro e w1 ⟨rfl, hb1⟩
  clear cA
  go_wp2_with fail
  refine (cB _).mono ?_
  rintro e w2 ⟨rfl, hb2⟩
  clear cB
  go_wp2_with fail
  go_ret
  exact ⟨rfl, hb1.trans (hb2.mono hb1.size)⟩
end Go.Proofs.Ytmndgoapkmhglab
