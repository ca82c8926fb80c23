import Derived.Laws.StructEq
import Derived.Test.YtecegaflhdgfaaaM38StrE
import Derived.Test.YtecegaflhdgfaaaM44OpenL
/- an argument that is code, opened. -/
namespace Go.Proofs.Ytecegaflhdgfaaa
open Go.ChangeShapes Go.WideShapes Go.RowKit Go.Deep

section
variable {H : Type} {enc : TypeId × Value → H} {P : Program} {w : World} {base : Nat} {spare : Nat → Bool} {held : Bool}

/-- four fields of one cell each. -/
theorem trod_four {t t0 t1 t2 t3 : TypeId} {fs : Array Field} {fuel : Nat} {cs : List Value} {x : DataW H × List MemPlace} (hu : P.underlying t = some (.struct fs)) (hf : fs.toList.map (fun f => (f.type, f.offset)) = [(t0, 0), (t1, 1), (t2, 2), (t3, 3)]) (hc : P.cellsOf t = 4)
    (c0 : P.cellsOf t0 = 1) (c1 : P.cellsOf t1 = 1) (c2 : P.cellsOf t2 = 1) (c3 : P.cellsOf t3 = 1) (h : DataW.trod enc P w base spare held fuel t cs = some x) :
    ∃ v0 v1 v2 v3 y0 y1 y2 y3 n, cs = [v0, v1, v2, v3] ∧ x.1 = .agg [y0.1, y1.1, y2.1, y3.1] ∧ DataW.trod enc P w base spare held n t0 [v0] = some y0 ∧ DataW.trod enc P w base spare held n t1 [v1] = some y1 ∧ DataW.trod enc P w base spare held n t2 [v2] = some y2 ∧ DataW.trod enc P w base spare held n t3 [v3] = some y3 ∧
      ∀ m, (m ∈ y0.1.weights P t0 ∨ m ∈ y1.1.weights P t1 ∨ m ∈ y2.1.weights P t2 ∨ m ∈ y3.1.weights P t3) → m ∈ x.1.weights P t := by
  obtain ⟨xs, n, _, rfl, hl, hlen, hg⟩ := DataW.trod_struct hu h
  obtain ⟨f0, r0, q0, e0, hf⟩ := List.map_eq_cons_iff.1 hf
  obtain ⟨f1, r1, rfl, e1, hf⟩ := List.map_eq_cons_iff.1 hf
  obtain ⟨f2, r2, rfl, e2, hf⟩ := List.map_eq_cons_iff.1 hf
  obtain ⟨f3, r3, rfl, e3, hf⟩ := List.map_eq_cons_iff.1 hf
  have hr := List.map_eq_nil_iff.1 hf
  subst hr
  simp only [Prod.mk.injEq] at e0 e1 e2 e3
  obtain ⟨rfl, o0⟩ := e0
  obtain ⟨rfl, o1⟩ := e1
  obtain ⟨rfl, o2⟩ := e2
  obtain ⟨rfl, o3⟩ := e3
  have hfs : fs = #[f0, f1, f2, f3] := by cases fs; simp_all
  subst hfs
  rw [hc] at hl
  match xs, hlen, cs, hl with
  | [y0, y1, y2, y3], _, [v0, v1, v2, v3], _ =>
    have g0 := hg 0 f0 rfl
    have g1 := hg 1 f1 rfl
    have g2 := hg 2 f2 rfl
    have g3 := hg 3 f3 rfl
    simp [o0, o1, o2, o3, c0, c1, c2, c3] at g0 g1 g2 g3
    refine ⟨v0, v1, v2, v3, y0, y1, y2, y3, n, rfl, rfl, g0, g1, g2, g3, fun m hm => ?_⟩
    simp only [List.map_cons, List.map_nil, DataW.weights, hu, DataW.weightsEach, List.mem_append, List.not_mem_nil, or_false]
    exact hm
end

/-- numbers, opened. -/
theorem open_nums {H : Type} {enc : TypeId × Value → H} {W : World} {fuel : Nat} {v : Value} {x : DataW H × List MemPlace} (h : DataW.trod enc Try.prog W 0 (fun _ => true) true fuel 48 [v] = some x) (hw : ∀ n ∈ x.1.weights Try.prog 48, n ≤ reachBytes) :
    ∃ A C xs, v = .slice A xs.length C ∧ ArgR W A C xs := by
  have hrb : reachBytes = 140737488351232 := rfl
  rcases open_ints Try.underlying48 Try.underlying3 Try.cellsInt h with ⟨hcs, rfl⟩ | ⟨a, len, cap, zs, hcs, _, hl, hm, hz, rfl, hcell, _⟩
  · simp at hcs
    subst hcs
    exact ⟨none, 0, [], rfl, ⟨⟨none, 0, rfl, by simp, fun hp => by simp at hp⟩, fun _ => rfl, by simp⟩⟩
  · simp at hcs
    subst hcs
    simp only [if_true] at hz
    have hsz : cap * 8 ≤ reachBytes := by
      refine hw _ ?_
      simp only [DataW.weights, Try.underlying48, List.mem_cons]
      refine .inl ?_
      rw [Try.bytesInt]
      simp [lits]
      omega
    have hlen : (zs.take len).length = len := by rw [List.length_take]; omega
    refine ⟨some a, cap, zs.take len, by rw [hlen], ⟨⟨some a, cap, by rw [hlen], by rw [hlen]; omega, fun hp => ?_⟩, fun h => (by cases h), by rw [hlen]; omega⟩⟩
    rw [hlen] at hp
    obtain ⟨b, o, sp⟩ := a
    have hs : sp = none := spot_none (hcell 0 (by omega))
    subst hs
    refine ⟨b, o, rfl, ?_, fun c hc => ?_⟩
    · have := World.block_lt_of_cell? _ _ (hcell 0 (by omega))
      simpa [Addr.add] using this
    · rw [hlen] at hc
      rw [← plain_add, hcell c (by omega)]
      simp [List.getElem_take, List.getD_eq_getElem?_getD, List.getElem?_eq_getElem (show c < zs.length by omega)]

theorem Try.uOp : Try.prog.underlying 97 = some (.struct (Try.prog.fieldsOf 97)) := by kernel_rfl
theorem Try.fOp : (Try.prog.fieldsOf 97).toList.map (fun f => (f.type, f.offset)) = [(3, 0), (3, 1), (3, 2), (3, 3)] := by kernel_rfl
theorem Try.cOp : Try.prog.cellsOf 97 = 4 := by kernel_rfl
theorem Try.bOp : Try.prog.bytesOf 97 = 32 := by kernel_rfl
theorem Try.uCode : Try.prog.underlying 60 = some (.struct (Try.prog.fieldsOf 60)) := by kernel_rfl
theorem Try.fCode : (Try.prog.fieldsOf 60).toList.map (fun f => (f.type, f.offset)) = [(58, 0), (48, 1), (48, 2), (48, 3)] := by kernel_rfl
theorem Try.cCode : Try.prog.cellsOf 60 = 4 := by kernel_rfl
theorem Try.cOps : Try.prog.cellsOf 58 = 1 := by kernel_rfl

/-- operations, opened. -/
theorem open_ops {H : Type} {enc : TypeId × Value → H} {W : World} {fuel : Nat} {v : Value} {x : DataW H × List MemPlace} (h : DataW.trod enc Try.prog W 0 (fun _ => true) true fuel 58 [v] = some x) (hw : ∀ n ∈ x.1.weights Try.prog 58, n ≤ reachBytes) :
    ∃ A C ops, v = .slice A ops.length C ∧ OpsAt W (.slice A ops.length C) ops := by
  have hrb : reachBytes = 140737488351232 := rfl
  rcases open_slice Try.underlying58 h with ⟨hcs, rfl⟩ | ⟨a, len, cap, m, n, D, Pl, hcs, _, hl, hm, hmm, rfl, hx⟩
  · simp at hcs
    subst hcs
    exact ⟨none, 0, [], rfl, none, 0, rfl, by simp, fun hp => by simp at hp⟩
  · simp at hcs
    subst hcs
    simp only [if_true] at hmm
    subst hmm
    have hsz : m * 32 ≤ reachBytes := by
      refine hw _ ?_
      simp only [DataW.weights, Try.underlying58, List.mem_cons]
      refine .inl ?_
      rw [Try.bOp]
      simp
      omega
    obtain ⟨Z, hZ⟩ := choose_lt (α := Int × Int × Int × Int) (n := m) (p := fun i z => W.cell? (a.add (i * 4)) = some (.int .i64 z.1) ∧ W.cell? ((a.add (i * 4)).add 1) = some (.int .i64 z.2.1) ∧ W.cell? ((a.add (i * 4)).add 2) = some (.int .i64 z.2.2.1) ∧ W.cell? ((a.add (i * 4)).add 3) = some (.int .i64 z.2.2.2)) (fun i hi => by
      obtain ⟨cs', h1, h2⟩ := hx i hi
      rw [Try.cOp] at h1
      obtain ⟨_, _, hcl⟩ := World.cells?_some h1
      obtain ⟨v0, v1, v2, v3, y0, y1, y2, y3, k, rfl, _, g0, g1, g2, g3, _⟩ := trod_four Try.uOp Try.fOp Try.cOp Try.cellsInt Try.cellsInt Try.cellsInt Try.cellsInt h2
      obtain ⟨z0, e0, _⟩ := DataW.trod_int Try.underlying3 g0
      obtain ⟨z1, e1, _⟩ := DataW.trod_int Try.underlying3 g1
      obtain ⟨z2, e2, _⟩ := DataW.trod_int Try.underlying3 g2
      obtain ⟨z3, e3, _⟩ := DataW.trod_int Try.underlying3 g3
      simp only [List.cons.injEq, and_true] at e0 e1 e2 e3
      subst e0 e1 e2 e3
      have k0 := hcl 0 (by omega)
      rw [add_add, Nat.add_zero] at k0
      exact ⟨(z0, z1, z2, z3), k0, hcl 1 (by omega), hcl 2 (by omega), hcl 3 (by omega)⟩)
    have hln : ((List.range len).map fun i => (⟨(Z i).1, (Z i).2.1, (Z i).2.2.1, (Z i).2.2.2⟩ : OpF)).length = len := by simp
    refine ⟨some a, m, (List.range len).map fun i => ⟨(Z i).1, (Z i).2.1, (Z i).2.2.1, (Z i).2.2.2⟩, by rw [hln], some a, m, by rw [hln], by rw [hln]; omega, fun hp => ?_⟩
    rw [hln] at hp
    obtain ⟨b, o, sp⟩ := a
    have hs : sp = none := spot_none (by simpa using (hZ 0 (by omega)).1)
    subst hs
    refine ⟨b, o, rfl, ?_, fun i hi => ?_⟩
    · have := World.block_lt_of_cell? _ _ (hZ 0 (by omega)).1
      simpa [Addr.add] using this
    · rw [hln] at hi
      obtain ⟨k0, k1, k2, k3⟩ := hZ i (by omega)
      rw [plain_add] at k0 k1 k2 k3
      rw [plain_add] at k1 k2 k3
      simp only [List.getElem_map, List.getElem_range]
      exact ⟨k0, k1, k2, k3⟩

/-- code, opened. -/
theorem open_code {H : Type} {enc : TypeId × Value → H} {W : World} {cs : Array Value} {d : DataW H} {ps : List MemPlace} (h : DataW.Trod enc Try.prog W 0 (fun _ => true) true 60 (.agg cs) d ps) (hw : ∀ n ∈ d.weights Try.prog 60, n ≤ reachBytes) :
    ∃ Ao Ac An Au Co Cc Cn Cu c, cs = #[.slice Ao (CdF.ops c).length Co, .slice Ac c.cells.length Cc, .slice An c.next.length Cn, .slice Au c.out.length Cu] ∧ ArgC W Ao Ac An Au Co Cc Cn Cu c := by
  obtain ⟨fuel, hf⟩ := h
  obtain ⟨v0, v1, v2, v3, y0, y1, y2, y3, k, hcs, _, g0, g1, g2, g3, hwt⟩ := trod_four Try.uCode Try.fCode Try.cCode Try.cOps Try.cellsInts Try.cellsInts Try.cellsInts hf
  obtain ⟨Ao, Co, ops, rfl, h0⟩ := open_ops g0 (fun n hn => hw n (hwt n (.inl hn)))
  obtain ⟨Ac, Cc, cl, rfl, h1⟩ := open_nums g1 (fun n hn => hw n (hwt n (.inr (.inl hn))))
  obtain ⟨An, Cn, nx, rfl, h2⟩ := open_nums g2 (fun n hn => hw n (hwt n (.inr (.inr (.inl hn)))))
  obtain ⟨Au, Cu, ou, rfl, h3⟩ := open_nums g3 (fun n hn => hw n (hwt n (.inr (.inr (.inr hn)))))
  refine ⟨Ao, Ac, An, Au, Co, Cc, Cn, Cu, ⟨ops, cl, nx, ou⟩, ?_, ⟨h0, ⟨h1.row, h1.nil, h1.few⟩, ⟨h2.row, h2.nil, h2.few⟩, ⟨h3.row, h3.nil, h3.few⟩⟩⟩
  have : (Value.agg cs).cells = cs := rfl
  rw [this] at hcs
  cases cs
  simp_all

end Go.Proofs.Ytecegaflhdgfaaa
