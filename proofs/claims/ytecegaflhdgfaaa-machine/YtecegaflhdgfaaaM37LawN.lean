import Derived.Laws.StructEq
import Derived.Test.YtecegaflhdgfaaaM21JudB
import Derived.Test.YtecegaflhdgfaaaM36LawDw
/- the statements' own helpers: alike. -/
namespace Go.Proofs.Ytecegaflhdgfaaa
open Go.RowKit
attribute [local go_sem ↓] Go.wp_at_zero Go.wp_at_succ

theorem op_cells {w : World} {v : Value} {ops : List OpF} (h : OpsAt w v ops) : ∃ A C, v = .slice A ops.length C ∧ ops.length ≤ 4398046511104 ∧ (0 < ops.length → ∃ b o, A = some ⟨b, o, none⟩ ∧ b < w.heap.size ∧ ∀ i (hi : i < ops.length), w.cell? ⟨b, o + i * 4, none⟩ = some (.int .i64 ops[i].k) ∧ w.cell? ⟨b, o + i * 4 + 1, none⟩ = some (.int .i64 ops[i].a) ∧ w.cell? ⟨b, o + i * 4 + 2, none⟩ = some (.int .i64 ops[i].b) ∧ w.cell? ⟨b, o + i * 4 + 3, none⟩ = some (.int .i64 ops[i].c)) := h

theorem op_same (w : World) (k a b c : Int) : (binOp .neq 97 (.agg #[.int .i64 k, .int .i64 a, .int .i64 b, .int .i64 c]) (.agg #[.int .i64 k, .int .i64 a, .int .i64 b, .int .i64 c])).run Try.prog w = .ok (.bool false) w := by
  have hu : Try.prog.underlying 97 = some (.struct (Try.prog.fieldsOf 97)) := by kernel_rfl
  have hp : Try.prog.stoodInHeld 97 = false := by kernel_rfl
  have hf : (Try.prog.fieldsOf 97).toList.map (fun f => (decide (f.name = "_"), f.type, f.offset)) = [(false, 3, 0), (false, 3, 1), (false, 3, 2), (false, 3, 3)] := by kernel_rfl
  rw [run_neq_struct, run_equalIn_struct w 9999 _ _ _ hu hp]
  clear hu hp
  generalize (Try.prog.fieldsOf 97).toList = fs at *
  obtain ⟨f0, r0, rfl, e0, hf⟩ := List.map_eq_cons_iff.1 hf
  obtain ⟨f1, r1, rfl, e1, hf⟩ := List.map_eq_cons_iff.1 hf
  obtain ⟨f2, r2, rfl, e2, hf⟩ := List.map_eq_cons_iff.1 hf
  obtain ⟨f3, r3, rfl, e3, hf⟩ := List.map_eq_cons_iff.1 hf
  have hr := List.map_eq_nil_iff.1 hf
  subst hr
  simp only [Prod.mk.injEq, decide_eq_false_iff_not] at e0 e1 e2 e3
  obtain ⟨a0, b0, c0⟩ := e0
  obtain ⟨a1, b1, c1⟩ := e1
  obtain ⟨a2, b2, c2⟩ := e2
  obtain ⟨a3, b3, c3⟩ := e3
  simp [Op.eqFields, a0, a1, a2, a3, b0, b1, b2, b3, c0, c1, c2, c3, go_sem]

set_option maxHeartbeats 4000000 in
set_option maxRecDepth 100000 in
theorem lalike_any (w : World) (B : Nat) (Ao Ac An Au : Option Addr) (Co Cc Cn Cu : Nat) (c : CdF) (vO vC vN vU : Value) (h : ArgC w Ao Ac An Au Co Cc Cn Cu c) (hc : CodeCp w B Ac An Au c vO vC vN vU) :
    Calls Try.prog 38 #[.agg #[vO, vC, vN, vU], .agg #[.slice Ao c.ops.length Co, .slice Ac c.cells.length Cc, .slice An c.next.length Cn, .slice Au c.out.length Cu]] w fun e w' => e = .returned (.bool true) ∧ Below w.heap.size w w' := by
  obtain ⟨aC, nC, kC, rfl⟩ := hc.cells.shape
  obtain ⟨aN, nN, kN, rfl⟩ := hc.next.shape
  obtain ⟨aU, nU, kU, rfl⟩ := hc.out.shape
  obtain ⟨A', C', he, hol, hoc⟩ := op_cells h.ops
  simp only [Value.slice.injEq, true_and] at he
  obtain ⟨rfl, rfl⟩ := he
  obtain ⟨Ar, Cr, rfl, -, hrc⟩ := op_cells (hc.ops.at hol)
  have H1 : Hid (∀ W, Below w.heap.size w W → Calls Try.prog 39 #[.slice aC nC kC, .slice Ac c.cells.length Cc] W fun e w' => e = .returned (.bool true) ∧ Below W.heap.size W w') := hide fun W hW => lwhole_any W B Ac Cc c.cells _ (hc.cells.below hW) (h.cells.1.below hW) h.cells.2.1 h.cells.2.2
  have H2 : Hid (∀ W, Below w.heap.size w W → Calls Try.prog 39 #[.slice aN nN kN, .slice An c.next.length Cn] W fun e w' => e = .returned (.bool true) ∧ Below W.heap.size W w') := hide fun W hW => lwhole_any W B An Cn c.next _ (hc.next.below hW) (h.next.1.below hW) h.next.2.1 h.next.2.2
  have H3 : Hid (∀ W, Below w.heap.size w W → Calls Try.prog 39 #[.slice aU nU kU, .slice Au c.out.length Cu] W fun e w' => e = .returned (.bool true) ∧ Below W.heap.size W w') := hide fun W hW => lwhole_any W B Au Cu c.out _ (hc.out.below hW) (h.out.1.below hW) h.out.2.1 h.out.2.2
  have HA := hide hoc
  have HR := hide hrc
  have q1 : ((c.ops.length : Int) != (c.ops.length : Int)) = false := by simp
  obtain ⟨bx, hbx⟩ : ∃ bx, bx = (w.alloc (.cells #[.slice Ar c.ops.length Cr, .slice aC nC kC, .slice aN nN kN, .slice aU nU kU] 60)).alloc (.cells #[.slice Ao c.ops.length Co, .slice Ac c.cells.length Cc, .slice An c.next.length Cn, .slice Au c.out.length Cu] 60) := ⟨_, rfl⟩
  have hsx : bx.heap.size = w.heap.size + 1 + 1 := by rw [hbx]; simp
  have HBX : Hid (Below w.heap.size w bx) := hide (by rw [hbx]; exact ((Below.refl _ _).alloc (Nat.le_refl _) _).alloc (by simp) _)
  have hx0 : bx.heap[w.heap.size]? = some (.cells #[.slice Ar c.ops.length Cr, .slice aC nC kC, .slice aN nN kN, .slice aU nU kU] 60 (0, 0)) := by rw [hbx]; exact heap_alloc2_old _ _ _
  have hx1 : bx.heap[w.heap.size + 1]? = some (.cells #[.slice Ao c.ops.length Co, .slice Ac c.cells.length Cc, .slice An c.next.length Cn, .slice Au c.out.length Cu] 60 (0, 0)) := by rw [hbx]; exact heap_alloc2_new _ _ _
  have HC : Hid (∀ W : World, Below bx.heap.size bx W → (W.cell? ⟨w.heap.size, 0, none⟩ = some (.slice Ar c.ops.length Cr) ∧ W.cell? ⟨w.heap.size, 1, none⟩ = some (.slice aC nC kC) ∧ W.cell? ⟨w.heap.size, 2, none⟩ = some (.slice aN nN kN) ∧ W.cell? ⟨w.heap.size, 3, none⟩ = some (.slice aU nU kU)) ∧ (W.cell? ⟨w.heap.size + 1, 0, none⟩ = some (.slice Ao c.ops.length Co) ∧ W.cell? ⟨w.heap.size + 1, 1, none⟩ = some (.slice Ac c.cells.length Cc) ∧ W.cell? ⟨w.heap.size + 1, 2, none⟩ = some (.slice An c.next.length Cn) ∧ W.cell? ⟨w.heap.size + 1, 3, none⟩ = some (.slice Au c.out.length Cu))) := hide fun W hW => by
    have hy0 : W.heap[w.heap.size]? = _ := (hW.block _ (by omega)).trans hx0
    have hy1 : W.heap[w.heap.size + 1]? = _ := (hW.block _ (by omega)).trans hx1
    refine ⟨⟨?_, ?_, ?_, ?_⟩, ?_, ?_, ?_, ?_⟩ <;> first | (rw [cell_of_row _ _ _ _ _ _ hy0]; rfl) | (rw [cell_of_row _ _ _ _ _ _ hy1]; rfl)
  have HX := hide hbx
  clear hoc hrc h hc hx0 hx1 hsx hbx
  go_enter Try.func38, Try.ntmps38
  go_wp2_with fail
  rw [← HX.out]
  clear HX
  go_loopw [5] (fun vi wr => ∃ m : Nat, m ≤ c.ops.length ∧ vi = .int .i64 m ∧ Below bx.heap.size bx wr) (fun vi _ => c.ops.length - (intOf vi).toNat)
  case atStart => exact ⟨0, Nat.zero_le _, rfl, Below.refl _ _⟩
  case round =>
    obtain ⟨m, hm, rfl, hbr⟩ := hrel
    obtain ⟨⟨c0, c1, c2, c3⟩, d0, d1, d2, d3⟩ := HC.out _ hbr
    have HBR := hide hbr
    have hbw : Below w.heap.size w _ := HBX.out.trans (hbr.mono HBX.out.size)
    by_cases hml : m < c.ops.length
    · obtain ⟨b, o, rfl, hb, hr⟩ := HA.out (by omega)
      obtain ⟨b', o', rfl, hb', hr'⟩ := HR.out (by omega)
      obtain ⟨x0, x1, x2, x3⟩ := hr m hml
      obtain ⟨z0, z1, z2, z3⟩ := hr' m hml
      rw [← hbw.cell (p := ⟨b, o + m * 4, none⟩) hb] at x0
      rw [← hbw.cell (p := ⟨b, o + m * 4 + 1, none⟩) hb] at x1
      rw [← hbw.cell (p := ⟨b, o + m * 4 + 2, none⟩) hb] at x2
      rw [← hbw.cell (p := ⟨b, o + m * 4 + 3, none⟩) hb] at x3
      rw [← hbw.cell (p := ⟨b', o' + m * 4, none⟩) hb'] at z0
      rw [← hbw.cell (p := ⟨b', o' + m * 4 + 1, none⟩) hb'] at z1
      rw [← hbw.cell (p := ⟨b', o' + m * 4 + 2, none⟩) hb'] at z2
      rw [← hbw.cell (p := ⟨b', o' + m * 4 + 3, none⟩) hb'] at z3
      have j3 : (0 : Int) ≤ (m : Int) := by omega
      have j4 : (m : Int) < (c.ops.length : Int) := by omega
      have hs := fun W => op_same W c.ops[m].k c.ops[m].a c.ops[m].b c.ops[m].c
      generalize c.ops[m].k = ok at *
      generalize c.ops[m].a = oa at *
      generalize c.ops[m].b = ob at *
      generalize c.ops[m].c = oc at *
      clear hr hr' hbr hbw hb hb'
      go_wp2_with fail
      go_quiet (fail)
      go_wp2
      go_roundw
      case rel => exact ⟨m + 1, by omega, by go_num, by first | exact HBR.out | exact below_drewN HBR.out _⟩
      case measure => simp [intOf]; omega
    · have em : m = c.ops.length := by omega
      subst em
      have z1 : ¬ (c.ops.length : Int) < (c.ops.length : Int) := by omega
      have HBW := hide hbw
      clear hbr hbw
      go_wp2_with fail
      refine (H1.out _ HBW.out).mono ?_
      rintro e w1 ⟨rfl, hb1⟩
      clear c0 c1 c2 c3 d0 d1 d2 d3
      have HB1 : Hid (Below bx.heap.size bx w1) := hide (HBR.out.trans (hb1.mono HBR.out.size))
      obtain ⟨⟨c0, c1, c2, c3⟩, d0, d1, d2, d3⟩ := HC.out _ HB1.out
      clear hb1
      go_wp2_with fail
      refine (H2.out _ (HBX.out.trans (HB1.out.mono HBX.out.size))).mono ?_
      rintro e w2 ⟨rfl, hb2⟩
      clear c0 c1 c2 c3 d0 d1 d2 d3
      have HB2 : Hid (Below bx.heap.size bx w2) := hide (HB1.out.trans (hb2.mono HB1.out.size))
      obtain ⟨⟨c0, c1, c2, c3⟩, d0, d1, d2, d3⟩ := HC.out _ HB2.out
      clear hb2
      go_wp2_with fail
      refine (H3.out _ (HBX.out.trans (HB2.out.mono HBX.out.size))).mono ?_
      rintro e w3 ⟨rfl, hb3⟩
      clear c0 c1 c2 c3 d0 d1 d2 d3
      have HB3 : Hid (Below w.heap.size w w3) := hide (HBX.out.trans ((HB2.out.trans (hb3.mono HB2.out.size)).mono HBX.out.size))
      clear hb3
      go_wp2
      go_ret
      exact ⟨rfl, HB3.out⟩

end Go.Proofs.Ytecegaflhdgfaaa

/- num. -/
namespace Go.Proofs.Ytecegaflhdgfaaa
open Go.RowKit
attribute [local go_sem ↓] Go.wp_at_zero Go.wp_at_succ

theorem num_of (n : Int) (w : World) :
    Calls Try.prog 13 #[.int .i64 n] w fun e w' => e = .returned (.int .i64 n) ∧ w = w' := by
  go_enter Try.func13, Try.ntmps13
  go_wp2
  go_ret
  exact ⟨rfl, rfl⟩

end Go.Proofs.Ytecegaflhdgfaaa
