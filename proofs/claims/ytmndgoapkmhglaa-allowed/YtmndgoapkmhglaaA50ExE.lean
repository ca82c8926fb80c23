import Derived.Test.YtmndgoapkmhglaaA25RefHa
import Derived.Test.YtmndgoapkmhglaaA36ExD
import Derived.Test.YtmndgoapkmhglaaA45HeldP
/- the statements' own helpers: copied, alike. -/
namespace Go.Proofs.Ytmndgoapkmhglaa
open Go.RowKit
attribute [local go_sem ↓] Go.wp_at_zero Go.wp_at_succ

theorem opCells_len (l : List OpF) : (opCells l).length = l.length * 4 := by
  induction l with
  | nil => rfl
  | cons o r ih => simp only [opCells, List.flatMap_cons, List.length_append, List.length_cons, List.length_nil] at *; omega

theorem run_copy_wide {P : Program} (w : World) (dT sT ty elem : TypeId) (g dLen dCap : Nat) (a : Addr) (sLen sCap size : Nat) (cs : List Value)
    (hu : P.underlying dT = some (.slice elem)) (hs : (P.info? elem).map (·.size) = some size) (hn : cs.length = Nat.min sLen dLen * size)
    (hsrc : ∀ j v, cs[j]? = some v → w.cell? (a.add j) = some v) (hc : ∀ j, j < cs.length → (w.cell? ⟨g, 0 + j, none⟩).isSome = true) (hf : ∀ j, j < cs.length → w.frozen? ⟨g, 0 + j, none⟩ = false) (h1 : ∀ v ∈ cs, v.oneCell' = true) :
    (Builtin.copy_ #[dT, sT] ty #[.slice (some ⟨g, 0, none⟩) dLen dCap, .slice (some a) sLen sCap]).run P w = .ok (goInt (Nat.min sLen dLen)) (w.setCells g 0 cs) := by
  have hfc := run_firstCells_some (P := P) w size (Nat.min sLen dLen) a sLen sCap cs hn hsrc
  have hst := run_storeCells_cells (P := P) g 0 cs 0 w (by simpa using hc) (by simpa using hf) h1
  cases hq : P.info? elem with
  | none => simp [hq] at hs
  | some i =>
    have hi : i.size = size := by simpa [hq] using hs
    simp [Builtin.copy_, run_underlying hu, Builtin.lenOf, sizeOf, typeInfo, hq, hi, hfc, hst]
theorem run_copy_noth {P : Program} (w : World) (dT sT ty elem : TypeId) (d a : Option Addr) (dLen dCap sLen sCap size : Nat) (hu : P.underlying dT = some (.slice elem)) (hs : (P.info? elem).map (·.size) = some size) (hn : Nat.min sLen dLen = 0) :
    (Builtin.copy_ #[dT, sT] ty #[.slice d dLen dCap, .slice a sLen sCap]).run P w = .ok (goInt 0) w := by
  cases hq : P.info? elem with
  | none => simp [hq] at hs
  | some i =>
    have hl : ∀ (x : Addr), (loadCells x 0).run P w = .ok #[] w := fun x => by simpa using run_loadCells_list (P := P) w x [] (by simp)
    cases d <;> cases a <;> simp [Builtin.copy_, run_underlying hu, Builtin.lenOf, Builtin.firstCells, sizeOf, typeInfo, hq, hn, storeCells, hl]

theorem Try.infoOp : (Try.prog.info? 105).map (fun i => (i.zero, i.size, i.bytes)) = some (some (.agg #[.int .i64 0, .int .i64 0, .int .i64 0, .int .i64 0]), 4, 32) := by kernel_rfl

theorem opCells_get (l : List OpF) (i : Nat) (hi : i < l.length) : (opCells l)[i * 4]? = some (.int .i64 l[i].k) ∧ (opCells l)[i * 4 + 1]? = some (.int .i64 l[i].a) ∧ (opCells l)[i * 4 + 2]? = some (.int .i64 l[i].b) ∧ (opCells l)[i * 4 + 3]? = some (.int .i64 l[i].c) := by
  have e := fun j hj => flat_get (fun o : OpF => [Value.int .i64 o.k, .int .i64 o.a, .int .i64 o.b, .int .i64 o.c]) 4 (fun _ => rfl) l i j hi hj
  exact ⟨e 0 (by omega), e 1 (by omega), e 2 (by omega), e 3 (by omega)⟩
theorem ops_src {w : World} {A : Option Addr} {C : Nat} {ops : List OpF} (h : OpsAt w (.slice A ops.length C) ops) (hp : 0 < ops.length) : ∃ b o, A = some ⟨b, o, none⟩ ∧ b < w.heap.size ∧ ∀ j v, (opCells ops)[j]? = some v → w.cell? ((⟨b, o, none⟩ : Addr).add j) = some v := by
  obtain ⟨A', C', he, _, hc⟩ := h
  simp only [Value.slice.injEq, true_and] at he
  obtain ⟨rfl, rfl⟩ := he
  obtain ⟨b, o, h1, h2, h3⟩ := hc hp
  refine ⟨b, o, h1, h2, fun j v hv => ?_⟩
  have hj : j < ops.length * 4 := by have := (List.getElem?_eq_some_iff.1 hv).1; rwa [opCells_len] at this
  obtain ⟨i, r, hr, rfl⟩ : ∃ i r, r < 4 ∧ j = i * 4 + r := ⟨j / 4, j % 4, by omega, by omega⟩
  obtain ⟨k0, k1, k2, k3⟩ := h3 i (by omega)
  obtain ⟨g0, g1, g2, g3⟩ := opCells_get ops i (by omega)
  rw [Addr.add_lit]
  have hcs : r = 0 ∨ r = 1 ∨ r = 2 ∨ r = 3 := by omega
  rcases hcs with rfl | rfl | rfl | rfl
  · rw [Nat.add_zero, g0] at hv; cases hv; rw [Nat.add_zero]; exact k0
  · rw [g1] at hv; cases hv; rw [← Nat.add_assoc]; exact k1
  · rw [g2] at hv; cases hv; rw [← Nat.add_assoc]; exact k2
  · rw [g3] at hv; cases hv; rw [← Nat.add_assoc]; exact k3

/-- operations that were copied. -/
def OpsCp (w : World) (B : Nat) (ops : List OpF) (v : Value) : Prop := ∃ G, B ≤ G ∧ G < w.heap.size ∧ v = .slice (some ⟨G, 0, none⟩) ops.length ops.length ∧ ∀ j, j < ops.length * 4 → w.cell? ⟨G, j, none⟩ = (opCells ops)[j]?
theorem OpsCp.below {w w' : World} {B : Nat} {ops : List OpF} {v : Value} (h : OpsCp w B ops v) (hb : Below w.heap.size w w') : OpsCp w' B ops v := by
  obtain ⟨G, h1, h2, h3, h4⟩ := h
  exact ⟨G, h1, Nat.lt_of_lt_of_le h2 hb.size, h3, fun j hj => (hb.cell (p := ⟨G, j, none⟩) h2).trans (h4 j hj)⟩
theorem OpsCp.at {w : World} {B : Nat} {ops : List OpF} {v : Value} (h : OpsCp w B ops v) (hl : ops.length ≤ 4398046511104) : OpsAt w v ops := by
  obtain ⟨G, h1, h2, rfl, h4⟩ := h
  refine ⟨_, _, rfl, hl, fun hp => ⟨G, 0, rfl, h2, fun i hi => ?_⟩⟩
  obtain ⟨g0, g1, g2, g3⟩ := opCells_get ops i hi
  simp only [Nat.zero_add]
  exact ⟨(h4 _ (by omega)).trans g0, (h4 _ (by omega)).trans g1, (h4 _ (by omega)).trans g2, (h4 _ (by omega)).trans g3⟩

/-- what an argument that is code looks like. -/
structure ArgC (w : World) (Ao Ac An Au : Option Addr) (Co Cc Cn Cu : Nat) (c : CdF) : Prop where
  ops : OpsAt w (.slice Ao c.ops.length Co) c.ops
  cells : RowAt w (.slice Ac c.cells.length Cc) c.cells ∧ (Ac = none → c.cells = []) ∧ c.cells.length ≤ 17592186044416
  next : RowAt w (.slice An c.next.length Cn) c.next ∧ (An = none → c.next = []) ∧ c.next.length ≤ 17592186044416
  out : RowAt w (.slice Au c.out.length Cu) c.out ∧ (Au = none → c.out = []) ∧ c.out.length ≤ 17592186044416
theorem ArgC.below {w w' : World} {Ao Ac An Au : Option Addr} {Co Cc Cn Cu : Nat} {c : CdF} (h : ArgC w Ao Ac An Au Co Cc Cn Cu c) (hb : Below w.heap.size w w') : ArgC w' Ao Ac An Au Co Cc Cn Cu c :=
  ⟨h.ops.below hb, ⟨h.cells.1.below hb, h.cells.2⟩, ⟨h.next.1.below hb, h.next.2⟩, ⟨h.out.1.below hb, h.out.2⟩⟩
/-- code that was copied. -/
structure CodeCp (w : World) (B : Nat) (Ac An Au : Option Addr) (c : CdF) (vO vC vN vU : Value) : Prop where
  ops : OpsCp w B c.ops vO
  cells : RoomV w B Ac c.cells vC
  next : RoomV w B An c.next vN
  out : RoomV w B Au c.out vU
theorem CodeCp.below {w w' : World} {B : Nat} {Ac An Au : Option Addr} {c : CdF} {vO vC vN vU : Value} (h : CodeCp w B Ac An Au c vO vC vN vU) (hb : Below w.heap.size w w') : CodeCp w' B Ac An Au c vO vC vN vU :=
  ⟨h.ops.below hb, h.cells.below hb, h.next.below hb, h.out.below hb⟩
theorem CodeCp.at {w : World} {B : Nat} {Ao Ac An Au : Option Addr} {Co Cc Cn Cu : Nat} {c : CdF} {vO vC vN vU : Value} (h : CodeCp w B Ac An Au c vO vC vN vU) (ha : ArgC w Ao Ac An Au Co Cc Cn Cu c) : CodeAt w vO vC vN vU c := by
  obtain ⟨_, _, _, hl, _⟩ := ha.ops
  exact ⟨h.ops.at hl, h.cells.row ha.cells.2.1 (by have := ha.cells.2.2; omega), h.next.row ha.next.2.1 (by have := ha.next.2.2; omega), h.out.row ha.out.2.1 (by have := ha.out.2.2; omega)⟩

theorem RoomV.lower {w : World} {B B' : Nat} {A : Option Addr} {xs : List Int} {v : Value} (h : RoomV w B A xs v) (hb : B' ≤ B) : RoomV w B' A xs v := by
  rcases h with h | ⟨h1, G, h2, h3⟩
  · exact .inl h
  · exact .inr ⟨h1, G, Nat.le_trans hb h2, h3⟩
theorem RoomV.other {w : World} {B g k : Nat} {x : Value} {A : Option Addr} {xs : List Int} {v : Value} (h : RoomV w B A xs v) (hg : g < B) : RoomV (w.setCell ⟨g, k, none⟩ x) B A xs v := by
  rcases h with h | ⟨h1, G, h2, h3, h4⟩
  · exact .inl h
  · exact .inr ⟨h1, G, h2, h3, (Below.heap_setCell _ _ _ _ (by simp; omega)).trans h4⟩
theorem OpsCp.other {w : World} {B g k : Nat} {x : Value} {ops : List OpF} {v : Value} (h : OpsCp w B ops v) (hg : g < B) : OpsCp (w.setCell ⟨g, k, none⟩ x) B ops v := by
  obtain ⟨G, h1, h2, h3, h4⟩ := h
  refine ⟨G, h1, by simpa using h2, h3, fun j hj => ?_⟩
  rw [World.cell?_setCell_other w (a := ⟨g, k, none⟩) (b := ⟨G, j, none⟩) (v := x) (by intro he; injection he; omega)]
  exact h4 j hj
theorem OpsCp.lower {w : World} {B B' : Nat} {ops : List OpF} {v : Value} (h : OpsCp w B ops v) (hb : B' ≤ B) : OpsCp w B' ops v := by
  obtain ⟨G, h1, h2⟩ := h
  exact ⟨G, Nat.le_trans hb h1, h2⟩
theorem RoomV.shape {w : World} {B : Nat} {A : Option Addr} {xs : List Int} {v : Value} (h : RoomV w B A xs v) : ∃ a n c, v = .slice a n c := by
  rcases h with ⟨_, rfl⟩ | ⟨_, G, _, rfl, _⟩
  · exact ⟨_, _, _, rfl⟩
  · exact ⟨_, _, _, rfl⟩

theorem below_setCells {B g : Nat} {w w' : World} (hb : Below B w w') (hg : B ≤ g) : ∀ (cs : List Value) (k : Nat), Below B w (w'.setCells g k cs) := by
  intro cs
  induction cs generalizing w' with
  | nil => intro k; simpa [World.setCells] using hb
  | cons v r ih => intro k; simpa [World.setCells] using ih (hb.setCell hg v) (k + 1)

theorem setCells_size (g : Nat) : ∀ (cs : List Value) (k : Nat) (w : World), (w.setCells g k cs).heap.size = w.heap.size := by
  intro cs
  induction cs with
  | nil => intro k w; rfl
  | cons v r ih => intro k w; simp [World.setCells, ih]

/-- operations are copied into a new list. -/
theorem copy_ops (w W : World) (N : Nat) (ops : List OpF) (A : Option Addr) (C : Nat) (z : Array Value) (hz : z.size = ops.length * 4) (hW : Below w.heap.size w W) (hN : W.heap.size = N) (h : OpsAt w (.slice A ops.length C) ops) :
    ∃ w1, (Builtin.copy_ #[58, 58] 3 #[.slice (some ⟨N, 0, none⟩) ops.length ops.length, .slice A ops.length C]).run Try.prog (W.alloc (.cells z 105)) = .ok (goInt ops.length) w1 ∧ OpsCp w1 N ops (.slice (some ⟨N, 0, none⟩) ops.length ops.length) ∧ Below N W w1 ∧ w1.heap.size = N + 1 := by
  subst hN
  have hsz : (Try.prog.info? 105).map (·.size) = some 4 := by have := Try.infoOp; cases hq : Try.prog.info? 105 with | none => rw [hq] at this; cases this | some i => rw [hq] at this; simp at this; simp [this]
  have hB : Below W.heap.size W (W.alloc (.cells z 105)) := (Below.refl _ _).alloc (Nat.le_refl _) _
  rcases Nat.eq_zero_or_pos ops.length with h0 | hp
  · refine ⟨W.alloc (.cells z 105), ?_, ⟨W.heap.size, Nat.le_refl _, by simp, rfl, fun j hj => by omega⟩, hB, by simp⟩
    rw [run_copy_noth (P := Try.prog) _ 58 58 3 105 _ _ _ _ _ _ 4 Try.underlying58 hsz (by rw [h0]; rfl), h0]
    rfl
  · obtain ⟨b, o, rfl, hb, hsrc⟩ := ops_src h hp
    have hn : (opCells ops).length = Nat.min ops.length ops.length * 4 := by rw [opCells_len, show Nat.min ops.length ops.length = ops.length from Nat.min_self _]
    have hnew : (W.alloc (.cells z 105)).heap[W.heap.size]? = some (.cells z 105 (0, 0)) := heap_alloc_new _ _
    have hr := run_copy_wide (P := Try.prog) (W.alloc (.cells z 105)) 58 58 3 105 W.heap.size ops.length ops.length ⟨b, o, none⟩ ops.length C 4 (opCells ops) Try.underlying58 hsz hn
      (fun j v hv => by
        have h1 := hsrc j v hv
        rw [Addr.add_lit] at h1 ⊢
        rw [World.cell?_alloc_past _ _ _ (Nat.lt_of_lt_of_le hb hW.size)]
        exact (hW.cell (p := ⟨b, o + j, none⟩) hb).trans h1)
      (fun j hj => by
        rw [opCells_len] at hj
        rw [cell_of_row _ _ _ _ _ _ hnew]
        simp [hz]; omega)
      (fun j hj => frozen_of_row _ _ _ _ _ hnew)
      (fun v hv => by
        simp only [opCells, List.mem_flatMap, List.mem_cons, List.not_mem_nil, or_false] at hv
        obtain ⟨x, _, rfl | rfl | rfl | rfl⟩ := hv <;> rfl)
    rw [show Nat.min ops.length ops.length = ops.length from Nat.min_self _] at hr
    refine ⟨_, hr, ⟨W.heap.size, Nat.le_refl _, ?_, rfl, fun j hj => ?_⟩, below_setCells hB (Nat.le_refl _) _ _, ?_⟩
    · rw [setCells_size]; simp
    · have hin := World.cell?_setCells_in W.heap.size (opCells ops) 0 (W.alloc (.cells z 105)) (fun j hj => by
        rw [opCells_len] at hj
        rw [cell_of_row _ _ _ _ _ _ hnew]
        simp [hz]; omega) j (by rw [opCells_len]; exact hj)
      rw [Nat.zero_add] at hin
      rw [hin, List.getElem?_eq_getElem (by rw [opCells_len]; exact hj)]
    · rw [setCells_size]; simp

set_option maxHeartbeats 4000000 in
set_option maxRecDepth 100000 in
theorem lcopied_any (w : World) (Ao Ac An Au : Option Addr) (Co Cc Cn Cu : Nat) (c : CdF) (h : ArgC w Ao Ac An Au Co Cc Cn Cu c) :
    Calls Try.prog 32 #[.agg #[.slice Ao c.ops.length Co, .slice Ac c.cells.length Cc, .slice An c.next.length Cn, .slice Au c.out.length Cu]] w fun e w' => ∃ vO vC vN vU, e = .returned (.agg #[vO, vC, vN, vU]) ∧ CodeCp w' w.heap.size Ac An Au c vO vC vN vU ∧ Below w.heap.size w w' := by
  obtain ⟨i4, hi4, hz4, hs4, hb4⟩ := info_parts Try.infoOp
  have hol : c.ops.length ≤ 4398046511104 := by obtain ⟨_, _, _, hl, _⟩ := h.ops; exact hl
  have hmk : ∀ w : World, (Instr.makeSlice 58 (.int .i64 (c.ops.length : Int)) (.int .i64 (c.ops.length : Int))).run Try.prog w = .ok (.slice (some ⟨w.heap.size, 0, none⟩) c.ops.length c.ops.length) (w.alloc (.cells (madeCells #[.int .i64 0, .int .i64 0, .int .i64 0, .int .i64 0] (c.ops.length * 4)) 105)) := fun w => by
    have := run_make (P := Try.prog) w 58 105 i4 _ Try.underlying58 hi4 hz4 .i64 .i64 c.ops.length c.ops.length (by omega) (by omega) (by rw [hb4]; omega) (by omega)
    rw [hs4] at this
    simpa [Value.cells] using this
  clear hi4 hz4 hs4 hb4
  obtain ⟨W0, hW0⟩ : ∃ W0, W0 = (w.alloc (.cells #[.slice Ao c.ops.length Co, .slice Ac c.cells.length Cc, .slice An c.next.length Cn, .slice Au c.out.length Cu] 60)).alloc (.cells #[.slice none 0 0, .slice none 0 0, .slice none 0 0, .slice none 0 0] 60) := ⟨_, rfl⟩
  have hS0 : W0.heap.size = w.heap.size + 1 + 1 := by rw [hW0]; simp
  have hB0 : Below w.heap.size w W0 := by rw [hW0]; exact ((Below.refl _ _).alloc (Nat.le_refl _) _).alloc (by simp) _
  obtain ⟨w1, hcp, hO1, hB1, hS1⟩ := copy_ops w W0 (w.heap.size + 1 + 1) c.ops Ao Co (madeCells #[.int .i64 0, .int .i64 0, .int .i64 0, .int .i64 0] (c.ops.length * 4)) (size_madeCells _ _) hB0 hS0 h.ops
  have hBw : Below w.heap.size w w1 := hB0.trans (hB1.mono (by omega))
  have hbx0 : W0.heap[w.heap.size]? = some (.cells #[.slice Ao c.ops.length Co, .slice Ac c.cells.length Cc, .slice An c.next.length Cn, .slice Au c.out.length Cu] 60 (0, 0)) := by rw [hW0, heap_alloc_old _ _ (by simp)]; exact heap_alloc_new _ _
  have hbx1 : W0.heap[w.heap.size + 1]? = some (.cells #[.slice none 0 0, .slice none 0 0, .slice none 0 0, .slice none 0 0] 60 (0, 0)) := by rw [hW0]; have := heap_alloc_new (w.alloc (.cells #[.slice Ao c.ops.length Co, .slice Ac c.cells.length Cc, .slice An c.next.length Cn, .slice Au c.out.length Cu] 60)) (.cells #[.slice none 0 0, .slice none 0 0, .slice none 0 0, .slice none 0 0] 60); simpa using this
  have hx0 : w1.heap[w.heap.size]? = _ := (hB1.block _ (by omega)).trans hbx0
  have hx1 : w1.heap[w.heap.size + 1]? = _ := (hB1.block _ (by omega)).trans hbx1
  rw [hW0] at hcp
  clear hW0 hbx0 hbx1
  have hroom : ∀ (A : Option Addr) (C : Nat) (xs : List Int), RowAt w (.slice A xs.length C) xs → (A = none → xs = []) → xs.length ≤ 17592186044416 → Hid (∀ W : World, Below w1.heap.size w1 W → Calls Try.prog 33 #[.slice A xs.length C] W fun e w' => ∃ v, e = .returned v ∧ RoomV w' w1.heap.size A xs v ∧ Below w1.heap.size w1 w' ∧ Below W.heap.size W w') := fun A C xs a1 a2 a3 => hide fun W hW => by
    have hbw : Below w.heap.size w W := hBw.trans (hW.mono hBw.size)
    refine (lroomy_any W A C xs (a1.below hbw) a2 a3).mono ?_
    rintro e w' ⟨v, rfl, hv, hb⟩
    exact ⟨v, rfl, hv.lower hW.size, hW.trans (hb.mono hW.size), hb⟩
  have H1 := hroom Ac Cc c.cells h.cells.1 h.cells.2.1 h.cells.2.2
  have H2 := hroom An Cn c.next h.next.1 h.next.2.1 h.next.2.2
  have H3 := hroom Au Cu c.out h.out.1 h.out.2.1 h.out.2.2
  have HC : Hid (∀ W : World, Below w1.heap.size w1 W → W.cell? ⟨w.heap.size, 1, none⟩ = some (.slice Ac c.cells.length Cc) ∧ W.cell? ⟨w.heap.size, 2, none⟩ = some (.slice An c.next.length Cn) ∧ W.cell? ⟨w.heap.size, 3, none⟩ = some (.slice Au c.out.length Cu)) := hide fun W hW => by
    have hx : W.heap[w.heap.size]? = _ := (hW.block _ (by omega)).trans hx0
    refine ⟨?_, ?_, ?_⟩ <;> rw [cell_of_row _ _ _ _ _ _ hx] <;> rfl
  have HR : Hid (∀ W : World, Below w1.heap.size w1 W → (W.cell? ⟨w.heap.size + 1, 0, none⟩ = some (.slice none 0 0) ∧ W.cell? ⟨w.heap.size + 1, 1, none⟩ = some (.slice none 0 0) ∧ W.cell? ⟨w.heap.size + 1, 2, none⟩ = some (.slice none 0 0) ∧ W.cell? ⟨w.heap.size + 1, 3, none⟩ = some (.slice none 0 0)) ∧ (W.frozen? ⟨w.heap.size + 1, 0, none⟩ = false ∧ W.frozen? ⟨w.heap.size + 1, 1, none⟩ = false ∧ W.frozen? ⟨w.heap.size + 1, 2, none⟩ = false ∧ W.frozen? ⟨w.heap.size + 1, 3, none⟩ = false)) := hide fun W hW => by
    have hx : W.heap[w.heap.size + 1]? = _ := (hW.block _ (by omega)).trans hx1
    refine ⟨⟨?_, ?_, ?_, ?_⟩, frozen_of_row _ _ _ _ _ hx, frozen_of_row _ _ _ _ _ hx, frozen_of_row _ _ _ _ _ hx, frozen_of_row _ _ _ _ _ hx⟩ <;> rw [cell_of_row _ _ _ _ _ _ hx] <;> rfl
  have HO := hide hO1
  have HB := hide hBw
  have HS := hide hS1
  obtain ⟨y1, y2, y3⟩ := HC.out w1 (Below.refl _ _)
  clear h hx0 hx1 hO1 hBw hS1 hB0 hB1 hS0 hroom
  go_enter Try.func32, Try.ntmps32
  go_wp2_with fail
  clear hcp hmk
  go_region_held3 (fun w' => w'.cell? ⟨w.heap.size, 1, none⟩ = some (.slice Ac c.cells.length Cc) ∧ w'.cell? ⟨w.heap.size, 2, none⟩ = some (.slice An c.next.length Cn) ∧ w'.cell? ⟨w.heap.size, 3, none⟩ = some (.slice Au c.out.length Cu)) (go_keep)
    (first
      | (have _x3 := HB3; clear _x3; go_at_call 33; refine (H3.out _ HB3.out).mono ?_; rintro e w4 ⟨vU, rfl, hU, hb4, hc4⟩; obtain ⟨o1, o2, o3⟩ := HC.out _ hb4; obtain ⟨⟨r0, r1, r2, r3⟩, f0, f1, f2, f3⟩ := HR.out _ hb4; obtain ⟨aU, nU, kU, rfl⟩ := hU.shape; have HU1 := hide hU; have HN2 := hide (HN1.out.below hc4); have HC3 := hide (HC2.out.below hc4); have HB4 := hide hb4; clear hU hb4 hc4)
      | (have _x2 := HB2; clear _x2; go_at_call 33; refine (H2.out _ HB2.out).mono ?_; rintro e w3 ⟨vN, rfl, hN, hb3, hc3⟩; obtain ⟨u1, u2, u3⟩ := HC.out _ hb3; obtain ⟨aN, nN, kN, rfl⟩ := hN.shape; have HN1 := hide hN; have HC2 := hide (HC1.out.below hc3); have HB3 := hide hb3; clear hN hb3 hc3)
      | (go_at_call 33; refine (H1.out _ (Below.refl _ _).drew).mono ?_; rintro e w2 ⟨vC, rfl, hC, hb2, hc2⟩; obtain ⟨t1, t2, t3⟩ := HC.out _ hb2; obtain ⟨aC, nC, kC, rfl⟩ := hC.shape; have HC1 := hide hC; have HB2 := hide hb2; clear hC hb2 hc2))
  rename_i hHeld
  have HCP : Hid (CodeCp ((((w4.setCell ⟨w.heap.size + 1, 0, none⟩ (.slice (some ⟨w.heap.size + 1 + 1, 0, none⟩) c.ops.length c.ops.length)).setCell ⟨w.heap.size + 1, 1, none⟩ (.slice aC nC kC)).setCell ⟨w.heap.size + 1, 2, none⟩ (.slice aN nN kN)).setCell ⟨w.heap.size + 1, 3, none⟩ (.slice aU nU kU)) w.heap.size Ac An Au c (.slice (some ⟨w.heap.size + 1 + 1, 0, none⟩) c.ops.length c.ops.length) (.slice aC nC kC) (.slice aN nN kN) (.slice aU nU kU)) := hide (by
    have hs := HS.out
    have ho := HO.out.below HB4.out
    have hg : w.heap.size + 1 < w1.heap.size := by omega
    have hg2 : w.heap.size + 1 < w.heap.size + 1 + 1 := by omega
    have hl : w.heap.size ≤ w1.heap.size := by omega
    exact ⟨((((ho.other hg2).other hg2).other hg2).other hg2).lower (by omega), ((((HC3.out.other hg).other hg).other hg).other hg).lower hl, ((((HN2.out.other hg).other hg).other hg).other hg).lower hl, ((((HU1.out.other hg).other hg).other hg).other hg).lower hl⟩)
  have HBW : Hid (Below w.heap.size w ((((w4.setCell ⟨w.heap.size + 1, 0, none⟩ (.slice (some ⟨w.heap.size + 1 + 1, 0, none⟩) c.ops.length c.ops.length)).setCell ⟨w.heap.size + 1, 1, none⟩ (.slice aC nC kC)).setCell ⟨w.heap.size + 1, 2, none⟩ (.slice aN nN kN)).setCell ⟨w.heap.size + 1, 3, none⟩ (.slice aU nU kU))) := hide (by
    have hb := HB.out.trans (HB4.out.mono HB.out.size)
    have hg : w.heap.size ≤ w.heap.size + 1 := by omega
    exact (((hb.setCell hg _).setCell hg _).setCell hg _).setCell hg _)
  clear hHeld HO HB HS HC3 HN2 HU1 H1 H2 H3 HC HR
  go_wp2
  refine bodyPost_ret (v := .agg #[.slice (some ⟨w.heap.size + 1 + 1, 0, none⟩) c.ops.length c.ops.length, .slice aC nC kC, .slice aN nN kN, .slice aU nU kU]) (by simp [results, Try.results32, go_sem, r0, r1, r2, r3]) rfl ?_
  exact ⟨_, _, _, _, rfl, HCP.out, HBW.out⟩

end Go.Proofs.Ytmndgoapkmhglaa
