import Derived.Deep.Matrix
import Derived.SizedLaws
import Derived.Carry
import Derived.ProofKit
import Derived.Test.YtecegaflhdgfaaaM31OpsA
import Derived.Test.YtecegaflhdgfaaaM38StrE
import Derived.Test.YtecegaflhdgfaaaM43PEx
/- the statement on the machine, over what the program's Exec hands over. -/
namespace Go.Proofs.Ytecegaflhdgfaaa
open Go.RowKit
attribute [local go_sem ↓] Go.wp_at_zero Go.wp_at_succ

set_option maxHeartbeats 4000000 in
set_option maxRecDepth 100000 in
theorem machine_any (w : World) (Ao Ac An Au : Option Addr) (Co Cc Cn Cu : Nat) (c : CdF) (h : ArgC w Ao Ac An Au Co Cc Cn Cu c) (n : Int) (Ax Ay Az : Option Addr) (Cx Cy Cz : Nat) (xs ys zs : List Int) (hx : ArgR w Ax Cx xs) (hy : ArgR w Ay Cy ys) (hz : ArgR w Az Cz zs) :
    Calls Try.prog 10 #[.agg #[.slice Ao c.ops.length Co, .slice Ac c.cells.length Cc, .slice An c.next.length Cn, .slice Au c.out.length Cu], .int .i64 n, .slice Ax xs.length Cx, .slice Ay ys.length Cy, .slice Az zs.length Cz] w fun e w' => e = .returned (.bool true) ∧ Below w.heap.size w w' := by
  have HA := hide h
  have HX := hide hx
  have HY := hide hy
  have HZ := hide hz
  clear h hx hy hz
  obtain ⟨b0, hb0⟩ : ∃ b0, b0 = w.alloc (.cells #[.slice Ao c.ops.length Co, .slice Ac c.cells.length Cc, .slice An c.next.length Cn, .slice Au c.out.length Cu] 60) := ⟨_, rfl⟩
  have HW0 : Hid (Below w.heap.size w b0) := hide (by rw [hb0]; exact (Below.refl _ _).alloc (Nat.le_refl _) _)
  have HC : Hid (∀ W : World, Below b0.heap.size b0 W → W.cell? ⟨w.heap.size, 0, none⟩ = some (.slice Ao c.ops.length Co) ∧ W.cell? ⟨w.heap.size, 1, none⟩ = some (.slice Ac c.cells.length Cc) ∧ W.cell? ⟨w.heap.size, 2, none⟩ = some (.slice An c.next.length Cn) ∧ W.cell? ⟨w.heap.size, 3, none⟩ = some (.slice Au c.out.length Cu)) := hide fun W hW => by
    have hy := box_at hb0 hW
    refine ⟨?_, ?_, ?_, ?_⟩ <;> (rw [cell_of_row _ _ _ _ _ _ hy]; rfl)
  go_enter Try.func10, Try.ntmps10
  go_wp2_with fail
  rw [← hb0]
  refine (lcopied_any b0 Ao Ac An Au Co Cc Cn Cu c (HA.out.below HW0.out)).mono ?_
  clear hb0
  rintro e w1 ⟨vO, vC, vN, vU, rfl, hcp, hb1⟩
  obtain ⟨g1, hg1, hg2, rfl, hg3⟩ := hcp.ops
  obtain ⟨aC, nC, kC, rfl⟩ := hcp.cells.shape
  obtain ⟨aN, nN, kN, rfl⟩ := hcp.next.shape
  obtain ⟨aU, nU, kU, rfl⟩ := hcp.out.shape
  obtain ⟨b1, hb1'⟩ : ∃ b1, b1 = w1.alloc (.cells #[.slice (some ⟨g1, 0, none⟩) c.ops.length c.ops.length, .slice aC nC kC, .slice aN nN kN, .slice aU nU kU] 60) := ⟨_, rfl⟩
  have hBa : Below w1.heap.size w1 b1 := by rw [hb1']; exact (Below.refl _ _).alloc (Nat.le_refl _) _
  have HD : Hid (∀ W : World, Below b1.heap.size b1 W → W.cell? ⟨w1.heap.size, 0, none⟩ = some (.slice (some ⟨g1, 0, none⟩) c.ops.length c.ops.length) ∧ W.cell? ⟨w1.heap.size, 1, none⟩ = some (.slice aC nC kC) ∧ W.cell? ⟨w1.heap.size, 2, none⟩ = some (.slice aN nN kN) ∧ W.cell? ⟨w1.heap.size, 3, none⟩ = some (.slice aU nU kU)) := hide fun W hW => by
    have hy := box_at hb1' hW
    refine ⟨?_, ?_, ?_, ?_⟩ <;> (rw [cell_of_row _ _ _ _ _ _ hy]; rfl)
  have HB1 : Hid (Below b0.heap.size b0 b1) := hide (hb1.trans (hBa.mono hb1.size))
  have HW1 : Hid (Below w.heap.size w b1) := hide (HW0.out.trans (HB1.out.mono HW0.out.size))
  have HCP := hide (hcp.below hBa)
  have HE1 := hide hb1'
  clear hcp hb1 hg1 hg2 hg3 hBa hb1'
  go_wp2_with fail
  rw [← HE1.out]
  clear HE1
  refine (lroomy_any b1 Ax Cx xs (HX.out.below HW1.out).row HX.out.nil HX.out.few).mono ?_
  rintro e w2 ⟨vx, rfl, hv, hb⟩
  have HVX := hide hv
  have HB2 := hide hb
  have HW2 : Hid (Below w.heap.size w w2) := hide (HW1.out.trans (hb.mono HW1.out.size))
  clear hv hb
  go_wp2_with fail
  refine (lroomy_any w2 Ay Cy ys (HY.out.below HW2.out).row HY.out.nil HY.out.few).mono ?_
  rintro e w3 ⟨vy, rfl, hv, hb⟩
  have HVY := hide hv
  have HB3 := hide hb
  have HW3 : Hid (Below w.heap.size w w3) := hide (HW2.out.trans (hb.mono HW2.out.size))
  clear hv hb
  go_wp2_with fail
  refine (lroomy_any w3 Az Cz zs (HZ.out.below HW3.out).row HZ.out.nil HZ.out.few).mono ?_
  rintro e w4 ⟨vz, rfl, hv, hb⟩
  have HW4 : Hid (Below w.heap.size w w4) := hide (HW3.out.trans (hb.mono HW3.out.size))
  have HK4 : Hid (Below b1.heap.size b1 w4) := hide ((HB2.out.trans (HB3.out.mono HB2.out.size)).trans (hb.mono (Nat.le_trans HB2.out.size HB3.out.size)))
  have HVZ4 := hide hv
  have HVY4 := hide (HVY.out.below hb)
  have HVX4 := hide ((HVX.out.below HB3.out).below hb)
  have HCP4 := hide (HCP.out.below HK4.out)
  obtain ⟨d0, d1, d2, d3⟩ := HD.out w4 HK4.out
  clear hv hb HVX HVY HCP HB2 HB3 HW1 HW2 HW3
  go_wp2_with fail
  refine (pexec_any w4 _ _ _ _ c (HCP4.out.at (HA.out.below HW4.out)) n vx vy vz xs ys zs (HVX4.out.row HX.out.nil (by have := HX.out.few; omega)) (HVY4.out.row HY.out.nil (by have := HY.out.few; omega)) (HVZ4.out.row HZ.out.nil (by have := HZ.out.few; omega))).mono ?_
  rintro e w5 ⟨vo, vn, rfl, hq, hb5⟩
  have HW5 : Hid (Below w.heap.size w w5) := hide (HW4.out.trans (hb5.mono HW4.out.size))
  have HB5 := hide hb5
  have HQ := hide hq
  have HK5 : Hid (Below b0.heap.size b0 w4) := hide (HB1.out.trans (HK4.out.mono HB1.out.size))
  obtain ⟨c0, c1, c2, c3⟩ := HC.out w5 (HK5.out.trans (hb5.mono HK5.out.size))
  clear hq hb5 d0 d1 d2 d3
  have HAC : Hid (CodeAt w5 (.slice Ao c.ops.length Co) (.slice Ac c.cells.length Cc) (.slice An c.next.length Cn) (.slice Au c.out.length Cu) c) := hide (by
    have ha := HA.out.below HW5.out
    exact ⟨ha.ops, ha.cells.1, ha.next.1, ha.out.1⟩)
  go_wp2_with fail
  refine (rExec_any w5 _ _ _ _ c HAC.out n _ _ _ xs ys zs (HX.out.below HW5.out).row (HY.out.below HW5.out).row (HZ.out.below HW5.out).row).mono ?_
  rintro e w6 ⟨va, vb, rfl, hra, hrb, hla, hlb, hb6⟩
  have HE : Hid (Exs w4 w5 w6 (execF c n xs ys zs) vo vn va vb) := hide ⟨HQ.out, hra, hrb, hb6, hla, hlb⟩
  clear hra hrb hb6 HQ HAC hla hlb c0 c1 c2 c3
  generalize execF c n xs ys zs = r at *
  have q1 : ((r.1 : Int) != (r.1 : Int)) = false := by simp
  go_wp2_with fail
  refine (lsame_any w6 vo va r.2.1 r.2.1 HE.out.first.1 HE.out.first.2).mono ?_
  rintro e w7 ⟨rfl, hb7⟩
  have HB7 := hide hb7
  clear hb7
  rw [show (r.2.1 == r.2.1) = true by simp]
  go_wp2_with fail
  refine (num_of _ _).mono ?_
  rintro e w7' ⟨rfl, rfl⟩
  go_wp2_with fail
  refine (lown_any w7 w4.heap.size vo r.2.1 (-78) (below_own (below_own HE.out.q.out HE.out.bel) HB7.out) (by have := HE.out.lo; omega)).mono ?_
  rintro e w8 ⟨o, rfl, -, -, -, ho, hg8⟩
  have HO := hide ho
  have HG8 := hide hg8
  have HS := hide (HE.out.second HB7.out hg8)
  have HG8B : Hid (Below w4.heap.size w4 w8) := hide (by
    have s4 := HB5.out.size
    have s5 := HE.out.bel.size
    have s6 := HB7.out.size
    exact ((HB5.out.trans (HE.out.bel.mono s4)).trans (HB7.out.mono (by omega))).trans (below_grown hg8 (fun b e => (HE.out.q.out.lt b e).1) (by omega)))
  obtain ⟨A1, C1, e1, _⟩ := ho.a
  obtain ⟨A2, C2, e2, _⟩ := ho.b
  obtain ⟨A3, C3, e3, _⟩ := ho.c
  obtain ⟨A4, C4, e4, _⟩ := ho.d
  obtain ⟨o1, o2, o3, o4, on, om⟩ := o
  simp only at e1 e2 e3 e4
  subst e1 e2 e3 e4
  obtain ⟨b8, hb8⟩ : ∃ b8, b8 = w8.alloc (.cells #[.slice A1 on C1, .slice A2 (on + 1) C2, .slice A3 (on + 2) C3, .slice A4 (on + 6) C4, .int .i64 om] 68) := ⟨_, rfl⟩
  have HB8 : Hid (Below w8.heap.size w8 b8) := hide (by rw [hb8]; exact (Below.refl _ _).alloc (Nat.le_refl _) _)
  have HO8 : Hid (∀ W : World, Below b8.heap.size b8 W → W.heap[w8.heap.size]? = some (.cells #[.slice A1 on C1, .slice A2 (on + 1) C2, .slice A3 (on + 2) C3, .slice A4 (on + 6) C4, .int .i64 om] 68 (0, 0)) ∧ w8.heap.size < W.heap.size) := hide fun W hW => ⟨box_at hb8 hW, Nat.lt_of_lt_of_le (by rw [hb8]; simp) hW.size⟩
  have HE8 := hide hb8
  clear hg8 ho hb8
  go_wp2_with fail
  rw [← HE8.out]
  clear HE8
  refine (lsame_any b8 vn vb r.2.2 r.2.2 (HS.out.2.1.below HB8.out) (HS.out.2.2.below HB8.out)).mono ?_
  rintro e w9 ⟨rfl, hb9⟩
  have HB9 : Hid (Below w8.heap.size w8 w9) := hide (HB8.out.trans (hb9.mono HB8.out.size))
  have HB9b := hide hb9
  clear hb9
  rw [show (r.2.2 == r.2.2) = true by simp]
  go_wp2_with fail
  refine (lown_any w9 w4.heap.size vn r.2.2 (-79) (below_own HS.out.1 HB9.out) (by have := HE.out.ln; omega)).mono ?_
  rintro e w10 ⟨p, rfl, -, -, -, hp, hg10⟩
  have HF : Hid (OwnAt w10 (fun b => vo.ownBlock = some b ∨ w7.heap.size ≤ b) ⟨.slice A1 on C1, .slice A2 (on + 1) C2, .slice A3 (on + 2) C3, .slice A4 (on + 6) C4, on, om⟩) := hide (HE.out.full HB7.out HO.out HB9.out hg10)
  have HK10 : Hid (Below w4.heap.size w4 w10) := hide (HE.out.keep HB5.out HB7.out HG8.out HB9.out hg10)
  have HP := hide hp
  obtain ⟨P1, D1, e1, _⟩ := hp.a
  obtain ⟨P2, D2, e2, _⟩ := hp.b
  obtain ⟨P3, D3, e3, _⟩ := hp.c
  obtain ⟨P4, D4, e4, _⟩ := hp.d
  obtain ⟨p1, p2, p3, p4, pn, pm⟩ := p
  simp only at e1 e2 e3 e4
  subst e1 e2 e3 e4
  have hbo : w10.heap[w8.heap.size]? = some (.cells #[.slice A1 on C1, .slice A2 (on + 1) C2, .slice A3 (on + 2) C3, .slice A4 (on + 6) C4, .int .i64 om] 68 (0, 0)) := by
    obtain ⟨k1, k2⟩ := HO8.out w9 HB9b.out
    refine (hg10.block _ k2 (fun e => ?_)).trans k1
    have h1 := (HE.out.q.next.lt _ e.symm).2
    have s5 := HE.out.bel.size
    have s6 := HB7.out.size
    have s7 := HG8.out.size
    omega
  have hlo : w8.heap.size < w10.heap.size := (Array.getElem?_eq_some_iff.1 hbo).1
  obtain ⟨b10, hb10⟩ : ∃ b10, b10 = w10.alloc (.cells #[.slice P1 pn D1, .slice P2 (pn + 1) D2, .slice P3 (pn + 2) D3, .slice P4 (pn + 6) D4, .int .i64 pm] 68) := ⟨_, rfl⟩
  have hB10 : Below w10.heap.size w10 b10 := by rw [hb10]; exact (Below.refl _ _).alloc (Nat.le_refl _) _
  have HOC : Hid (∀ W : World, Below b10.heap.size b10 W → W.cell? ⟨w8.heap.size, 0, none⟩ = some (.slice A1 on C1) ∧ W.cell? ⟨w8.heap.size, 1, none⟩ = some (.slice A2 (on + 1) C2) ∧ W.cell? ⟨w8.heap.size, 2, none⟩ = some (.slice A3 (on + 2) C3) ∧ W.cell? ⟨w8.heap.size, 3, none⟩ = some (.slice A4 (on + 6) C4) ∧ W.cell? ⟨w8.heap.size, 4, none⟩ = some (.int .i64 om)) := hide fun W hW => by
    have hy := (hW.block _ (Nat.lt_of_lt_of_le hlo hB10.size)).trans ((hB10.block _ hlo).trans hbo)
    refine ⟨?_, ?_, ?_, ?_, ?_⟩ <;> (rw [cell_of_row _ _ _ _ _ _ hy]; rfl)
  have HPC : Hid (∀ W : World, Below b10.heap.size b10 W → W.cell? ⟨w10.heap.size, 0, none⟩ = some (.slice P1 pn D1) ∧ W.cell? ⟨w10.heap.size, 1, none⟩ = some (.slice P2 (pn + 1) D2) ∧ W.cell? ⟨w10.heap.size, 2, none⟩ = some (.slice P3 (pn + 2) D3) ∧ W.cell? ⟨w10.heap.size, 3, none⟩ = some (.slice P4 (pn + 6) D4) ∧ W.cell? ⟨w10.heap.size, 4, none⟩ = some (.int .i64 pm)) := hide fun W hW => by
    have hy := box_at hb10 hW
    refine ⟨?_, ?_, ?_, ?_, ?_⟩ <;> (rw [cell_of_row _ _ _ _ _ _ hy]; rfl)
  have HK : Hid (Below w4.heap.size w4 b10) := hide (HK10.out.trans (hB10.mono HK10.out.size))
  have HF10 := hide (HF.out.below hB10)
  have HP10 := hide (HP.out.below hB10)
  have HE10 := hide hb10
  clear hp hg10 hbo hlo hB10 hb10 HF HP HO HG8 HG8B HS HE HO8 HB8 HB9 HB9b HB7 HK10 HB5
  obtain ⟨x0, x1, x2, x3, x4⟩ := HOC.out b10 (Below.refl _ _)
  rw [HE10.out] at x0 x1 x2 x3 x4
  go_wp2_with fail
  rw [← HE10.out]
  clear HE10 x0 x1 x2 x3 x4
  refine (lholds_any b10 _ _ HF10.out).mono ?_
  rintro e w11 ⟨rfl, hb11⟩
  have HB11 := hide hb11
  obtain ⟨x0, x1, x2, x3, x4⟩ := HPC.out w11 hb11
  clear hb11
  go_wp2_with fail
  refine (lholds_any w11 _ _ (HP10.out.below HB11.out)).mono ?_
  rintro e w12 ⟨rfl, hb12⟩
  have HK12 : Hid (Below w4.heap.size w4 w12) := hide (HK.out.trans ((HB11.out.trans (hb12.mono HB11.out.size)).mono HK.out.size))
  clear x0 x1 x2 x3 x4 hb12
  obtain ⟨c0, c1, c2, c3⟩ := HC.out w12 (HK5.out.trans (HK12.out.mono HK5.out.size))
  obtain ⟨d0, d1, d2, d3⟩ := HD.out w12 (HK4.out.trans (HK12.out.mono HK4.out.size))
  have HW12 : Hid (Below w.heap.size w w12) := hide (HW4.out.trans (HK12.out.mono HW4.out.size))
  go_wp2_with fail
  refine (lalike_any w12 _ Ao Ac An Au Co Cc Cn Cu c _ _ _ _ (HA.out.below HW12.out) (HCP4.out.below HK12.out)).mono ?_
  rintro e w13 ⟨rfl, hb13⟩
  have HK13 : Hid (Below w4.heap.size w4 w13) := hide (HK12.out.trans (hb13.mono HK12.out.size))
  have HW13 : Hid (Below w.heap.size w w13) := hide (HW12.out.trans (hb13.mono HW12.out.size))
  clear hb13 c0 c1 c2 c3 d0 d1 d2 d3
  go_wp2_with fail
  refine (lwhole_any w13 _ Ax Cx xs vx (HVX4.out.below HK13.out) (HX.out.below HW13.out).row HX.out.nil HX.out.few).mono ?_
  rintro e w14 ⟨rfl, hb14⟩
  have HK14 : Hid (Below w4.heap.size w4 w14) := hide (HK13.out.trans (hb14.mono HK13.out.size))
  have HW14 : Hid (Below w.heap.size w w14) := hide (HW13.out.trans (hb14.mono HW13.out.size))
  clear hb14
  go_wp2_with fail
  refine (lwhole_any w14 _ Ay Cy ys vy (HVY4.out.below HK14.out) (HY.out.below HW14.out).row HY.out.nil HY.out.few).mono ?_
  rintro e w15 ⟨rfl, hb15⟩
  have HK15 : Hid (Below w4.heap.size w4 w15) := hide (HK14.out.trans (hb15.mono HK14.out.size))
  have HW15 : Hid (Below w.heap.size w w15) := hide (HW14.out.trans (hb15.mono HW14.out.size))
  clear hb15
  go_wp2_with fail
  refine (lwhole_any w15 _ Az Cz zs vz (HVZ4.out.below HK15.out) (HZ.out.below HW15.out).row HZ.out.nil HZ.out.few).mono ?_
  rintro e w16 ⟨rfl, hb16⟩
  have HW16 : Hid (Below w.heap.size w w16) := hide (HW15.out.trans (hb16.mono HW15.out.size))
  clear hb16
  go_wp2
  go_ret
  exact ⟨rfl, HW16.out⟩

end Go.Proofs.Ytecegaflhdgfaaa

/- an argument that is a list of lists, opened. -/
namespace Go.Proofs.Ytecegaflhdgfaaa
open Go.ChangeShapes Go.WideShapes Go.RowKit Go.Deep

theorem Try.cellsInts : Try.prog.cellsOf 48 = 1 := by kernel_rfl
theorem Try.cellsInt : Try.prog.cellsOf 3 = 1 := by kernel_rfl
theorem Try.bytesInts : Try.prog.bytesOf 48 = 24 := by kernel_rfl
theorem Try.bytesInt : Try.prog.bytesOf 3 = 8 := by kernel_rfl
theorem Try.laidOut : laidOutB Try.prog = true := by kernel_rfl

theorem plain_add (b o r : Nat) : (⟨b, o, none⟩ : Addr).add r = ⟨b, o + r, none⟩ := Addr.add_lit b o r

theorem wf_i64 {n : Int} (h : (Lit.int .i64 n).wf = true) : -9223372036854775808 ≤ n ∧ n ≤ 9223372036854775807 := by
  simp only [Lit.wf, Bool.and_eq_true, decide_eq_true_eq] at h
  exact h

theorem spot_none {w : World} {a : Addr} {v : Value} (h : w.cell? (a.add 0) = some v) : a.spot = none := by
  obtain ⟨b, o, sp⟩ := a
  simpa [Addr.add] using World.cell?_spot h

theorem weights_all {H : Type} {P : Program} {e : TypeId} {d : DataW H} : ∀ (l : List (DataW H)), d ∈ l → ∀ n ∈ d.weights P e, n ∈ DataW.weightsAll P e l := by
  intro l
  induction l with
  | nil => intro h; simp at h
  | cons x r ih =>
    intro h n hn
    simp only [DataW.weightsAll, List.mem_append]
    rcases List.mem_cons.1 h with rfl | h
    · exact .inl hn
    · exact .inr (ih h n hn)

set_option maxRecDepth 100000 in
theorem open_lists {H : Type} {enc : TypeId × Value → H} {W : World} {A0 : Option Addr} {len0 cap0 : Nat} {d : DataW H} {ps : List MemPlace} (h : DataW.Trod enc Try.prog W 0 (fun _ => true) true 43 (.slice A0 len0 cap0) d ps)
    (hw : ∀ n ∈ d.weights Try.prog 43, n ≤ reachBytes) :
    ∃ (ins : List (List Int)) (AS : Nat → Option Addr) (CS : Nat → Nat), len0 = ins.length ∧ ArgL W A0 cap0 ins AS CS ∧ ∀ l ∈ ins, ∀ x ∈ l, (Lit.int .i64 x).wf = true := by
  obtain ⟨fuel, hf⟩ := h
  have hrb : reachBytes = 140737488351232 := rfl
  rcases open_int_rows Try.underlying43 Try.underlying48 Try.underlying3 Try.cellsInts Try.cellsInt hf with ⟨hcs, hx⟩ | ⟨a, len, cap, A, L, C, Z, hcs, _, hl, hm, hx, hrows⟩
  · simp [Value.cells] at hcs
    obtain ⟨rfl, rfl, rfl⟩ := hcs
    exact ⟨[], fun _ => none, fun _ => 0, rfl, ⟨by simp, fun _ => rfl, fun hp => by simp at hp, fun r hr => by simp at hr, fun r hr => by simp at hr⟩, fun l hl => by simp at hl⟩
  · simp [Value.cells] at hcs
    obtain ⟨rfl, rfl, rfl⟩ := hcs
    simp only [Prod.mk.injEq] at hx
    obtain ⟨rfl, rfl⟩ := hx
    have hsz : (len0 + (cap0 - len0)) * 24 ≤ reachBytes := by
      have := hw ((len0 + (cap0 - len0)) * 24) (by simp [DataW.weights, Try.underlying43, Try.bytesInts])
      exact this
    have hrow : ∀ r, r < len0 → (A r ≠ none → C r * 8 ≤ reachBytes) := fun r hr hne => by
      obtain ⟨_, h1, _, h2, _, h3, _⟩ := hrows r (by omega)
      refine hw _ ?_
      simp only [DataW.weights, Try.underlying43, List.mem_cons, List.mem_append]
      refine .inr (.inl (weights_all (d := intRow .i64 (A r) (L r) (Z r)) _ (List.mem_map.2 ⟨r, List.mem_range.2 hr, rfl⟩) _ ?_))
      cases hA : A r with
      | none => exact absurd hA hne
      | some a' =>
        simp only [intRow, DataW.weights, Try.underlying48, List.mem_cons]
        refine .inl ?_
        rw [Try.bytesInt]
        simp [lits]
        omega
    have hLl : ∀ r, r < len0 → ((Z r).take (L r)).length = L r := fun r hr => by
      obtain ⟨_, h1, _, h2, _⟩ := hrows r (by omega)
      rw [List.length_take]; omega
    have hget : ∀ r, (hr : r < ((List.range len0).map fun r => (Z r).take (L r)).length) → ((List.range len0).map fun r => (Z r).take (L r))[r] = (Z r).take (L r) := fun r hr => by simp
    refine ⟨(List.range len0).map fun r => (Z r).take (L r), A, C, by simp, ⟨by simp; omega, fun h => (by cases h), fun hp => ?_, fun r hr => ?_, fun r hr => ?_⟩, fun l hl x hx => ?_⟩
    · simp at hp
      obtain ⟨b, o, sp⟩ := a
      have hs : sp = none := spot_none (hrows 0 (by omega)).1
      subst hs
      refine ⟨b, o, rfl, ?_, fun r hr => ?_⟩
      · have := World.block_lt_of_cell? _ _ (hrows 0 (by omega)).1
        simpa [Addr.add] using this
      · have hr' : r < len0 := by simpa using hr
        rw [hget r hr, hLl r hr', ← plain_add]
        exact (hrows r (by omega)).1
    · have hr' : r < len0 := by simpa using hr
      obtain ⟨_, h1, _, h2, _, h3, h4⟩ := hrows r (by omega)
      rw [hget r hr]
      have hCr : A r = none ∨ C r * 8 ≤ reachBytes := by
        by_cases hA : A r = none
        · exact .inl hA
        · exact .inr (hrow r hr' hA)
      refine ⟨⟨A r, C r, by rw [hLl r hr'], ?_, fun hp => ?_⟩, fun hA => ?_, ?_⟩
      · rw [hLl r hr']
        rcases hCr with hA | hC
        · have := h3 hA; omega
        · omega
      · rw [hLl r hr'] at hp
        cases hA : A r with
        | none => have := h3 hA; omega
        | some a' =>
          obtain ⟨_, hcell⟩ := h4 a' hA
          obtain ⟨b, o, sp⟩ := a'
          have hs : sp = none := spot_none (hcell 0 (by omega))
          subst hs
          refine ⟨b, o, rfl, ?_, fun c hc => ?_⟩
          · have := World.block_lt_of_cell? _ _ (hcell 0 (by omega))
            simpa [Addr.add] using this
          · rw [hLl r hr'] at hc
            rw [← plain_add, hcell c (by omega)]
            simp [List.getElem_take, List.getD_eq_getElem?_getD, List.getElem?_eq_getElem (show c < (Z r).length by omega)]
      · have := h3 hA
        rw [List.eq_nil_iff_length_eq_zero, hLl r hr']
        omega
      · rw [hLl r hr']
        rcases hCr with hA | hC
        · have := h3 hA; omega
        · omega
    · have hr' : r < len0 := by simpa using hr
      rw [hget r hr, hLl r hr']
      exact (hrows r (by omega)).2.1
    · obtain ⟨r, hr, rfl⟩ := List.mem_map.1 hl
      obtain ⟨_, _, _, _, h5, _⟩ := hrows r (by have := List.mem_range.1 hr; omega)
      exact h5 x (List.mem_of_mem_take hx)

end Go.Proofs.Ytecegaflhdgfaaa
