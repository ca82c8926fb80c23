import Derived.Deep.Matrix
import Derived.SizedLaws
import Derived.Carry
import Derived.ProofKit
import Derived.Laws.StructEq
import Derived.ArgAppend
import Derived.Test.YtmndgoapkmhglaaA32HeldT
import Derived.Test.YtmndgoapkmhglaaA39RefT
/- an argument that is a list of lists, opened. -/
namespace Go.Proofs.Ytmndgoapkmhglaa
open Go.ChangeShapes Go.WideShapes Go.RowKit Go.Deep

theorem Try.cellsInts : Try.prog.cellsOf 48 = 1 := by kernel_rfl
theorem Try.cellsInt : Try.prog.cellsOf 3 = 1 := by kernel_rfl
theorem Try.bytesInts : Try.prog.bytesOf 48 = 24 := by kernel_rfl
theorem Try.bytesInt : Try.prog.bytesOf 3 = 8 := by kernel_rfl
theorem Try.laidOut : laidOutB Try.prog = true := by kernel_rfl

theorem plain_add (b o r : Nat) : (⟨b, o, none⟩ : Addr).add r = ⟨b, o + r, none⟩ := Addr.add_lit b o r

theorem wf_i64 {n : Int} (h : (Lit.int .i64 n).wf = true) : -9223372036854775808 ≤ n ∧ n ≤ 9223372036854775807 := by
  simp only [Lit.wf, Bool.and_eq_true, decide_eq_true_eq] at h
  exact h

theorem spot_none {w : World} {a : Addr} {v : Value} (h : w.cell? (a.add 0) = some v) : a.spot = none := by
  obtain ⟨b, o, sp⟩ := a
  simpa [Addr.add] using World.cell?_spot h

theorem weights_all {H : Type} {P : Program} {e : TypeId} {d : DataW H} : ∀ (l : List (DataW H)), d ∈ l → ∀ n ∈ d.weights P e, n ∈ DataW.weightsAll P e l := by
  intro l
  induction l with
  | nil => intro h; simp at h
  | cons x r ih =>
    intro h n hn
    simp only [DataW.weightsAll, List.mem_append]
    rcases List.mem_cons.1 h with rfl | h
    · exact .inl hn
    · exact .inr (ih h n hn)

set_option maxRecDepth 100000 in
theorem open_lists {H : Type} {enc : TypeId × Value → H} {W : World} {A0 : Option Addr} {len0 cap0 : Nat} {d : DataW H} {ps : List MemPlace} (h : DataW.Trod enc Try.prog W 0 (fun _ => true) true 43 (.slice A0 len0 cap0) d ps)
    (hw : ∀ n ∈ d.weights Try.prog 43, n ≤ reachBytes) :
    ∃ (ins : List (List Int)) (AS : Nat → Option Addr) (CS : Nat → Nat), len0 = ins.length ∧ ArgL W A0 cap0 ins AS CS ∧ ∀ l ∈ ins, ∀ x ∈ l, (Lit.int .i64 x).wf = true := by
  obtain ⟨fuel, hf⟩ := h
  have hrb : reachBytes = 140737488351232 := rfl
  rcases open_int_rows Try.underlying43 Try.underlying48 Try.underlying3 Try.cellsInts Try.cellsInt hf with ⟨hcs, hx⟩ | ⟨a, len, cap, A, L, C, Z, hcs, _, hl, hm, hx, hrows⟩
  · simp [Value.cells] at hcs
    obtain ⟨rfl, rfl, rfl⟩ := hcs
    exact ⟨[], fun _ => none, fun _ => 0, rfl, ⟨by simp, fun _ => rfl, fun hp => by simp at hp, fun r hr => by simp at hr, fun r hr => by simp at hr⟩, fun l hl => by simp at hl⟩
  · simp [Value.cells] at hcs
    obtain ⟨rfl, rfl, rfl⟩ := hcs
    simp only [Prod.mk.injEq] at hx
    obtain ⟨rfl, rfl⟩ := hx
    have hsz : (len0 + (cap0 - len0)) * 24 ≤ reachBytes := by
      have := hw ((len0 + (cap0 - len0)) * 24) (by simp [DataW.weights, Try.underlying43, Try.bytesInts])
      exact this
    have hrow : ∀ r, r < len0 → (A r ≠ none → C r * 8 ≤ reachBytes) := fun r hr hne => by
      obtain ⟨_, h1, _, h2, _, h3, _⟩ := hrows r (by omega)
      refine hw _ ?_
      simp only [DataW.weights, Try.underlying43, List.mem_cons, List.mem_append]
      refine .inr (.inl (weights_all (d := intRow .i64 (A r) (L r) (Z r)) _ (List.mem_map.2 ⟨r, List.mem_range.2 hr, rfl⟩) _ ?_))
      cases hA : A r with
      | none => exact absurd hA hne
      | some a' =>
        simp only [intRow, DataW.weights, Try.underlying48, List.mem_cons]
        refine .inl ?_
        rw [Try.bytesInt]
        simp [lits]
        omega
    have hLl : ∀ r, r < len0 → ((Z r).take (L r)).length = L r := fun r hr => by
      obtain ⟨_, h1, _, h2, _⟩ := hrows r (by omega)
      rw [List.length_take]; omega
    have hget : ∀ r, (hr : r < ((List.range len0).map fun r => (Z r).take (L r)).length) → ((List.range len0).map fun r => (Z r).take (L r))[r] = (Z r).take (L r) := fun r hr => by simp
    refine ⟨(List.range len0).map fun r => (Z r).take (L r), A, C, by simp, ⟨by simp; omega, fun h => (by cases h), fun hp => ?_, fun r hr => ?_, fun r hr => ?_⟩, fun l hl x hx => ?_⟩
    · simp at hp
      obtain ⟨b, o, sp⟩ := a
      have hs : sp = none := spot_none (hrows 0 (by omega)).1
      subst hs
      refine ⟨b, o, rfl, ?_, fun r hr => ?_⟩
      · have := World.block_lt_of_cell? _ _ (hrows 0 (by omega)).1
        simpa [Addr.add] using this
      · have hr' : r < len0 := by simpa using hr
        rw [hget r hr, hLl r hr', ← plain_add]
        exact (hrows r (by omega)).1
    · have hr' : r < len0 := by simpa using hr
      obtain ⟨_, h1, _, h2, _, h3, h4⟩ := hrows r (by omega)
      rw [hget r hr]
      have hCr : A r = none ∨ C r * 8 ≤ reachBytes := by
        by_cases hA : A r = none
        · exact .inl hA
        · exact .inr (hrow r hr' hA)
      refine ⟨⟨A r, C r, by rw [hLl r hr'], ?_, fun hp => ?_⟩, fun hA => ?_, ?_⟩
      · rw [hLl r hr']
        rcases hCr with hA | hC
        · have := h3 hA; omega
        · omega
      · rw [hLl r hr'] at hp
        cases hA : A r with
        | none => have := h3 hA; omega
        | some a' =>
          obtain ⟨_, hcell⟩ := h4 a' hA
          obtain ⟨b, o, sp⟩ := a'
          have hs : sp = none := spot_none (hcell 0 (by omega))
          subst hs
          refine ⟨b, o, rfl, ?_, fun c hc => ?_⟩
          · have := World.block_lt_of_cell? _ _ (hcell 0 (by omega))
            simpa [Addr.add] using this
          · rw [hLl r hr'] at hc
            rw [← plain_add, hcell c (by omega)]
            simp [List.getElem_take, List.getD_eq_getElem?_getD, List.getElem?_eq_getElem (show c < (Z r).length by omega)]
      · have := h3 hA
        rw [List.eq_nil_iff_length_eq_zero, hLl r hr']
        omega
      · rw [hLl r hr']
        rcases hCr with hA | hC
        · have := h3 hA; omega
        · omega
    · have hr' : r < len0 := by simpa using hr
      rw [hget r hr, hLl r hr']
      exact (hrows r (by omega)).2.1
    · obtain ⟨r, hr, rfl⟩ := List.mem_map.1 hl
      obtain ⟨_, _, _, _, h5, _⟩ := hrows r (by have := List.mem_range.1 hr; omega)
      exact h5 x (List.mem_of_mem_take hx)

end Go.Proofs.Ytmndgoapkmhglaa

/- an argument of four fields, opened. -/
namespace Go.Proofs.Ytmndgoapkmhglaa
open Go.ChangeShapes Go.WideShapes Go.RowKit Go.Deep

section
variable {H : Type} {enc : TypeId × Value → H} {P : Program} {w : World} {base : Nat} {spare : Nat → Bool} {held : Bool}

/-- four fields of one cell each. -/
theorem trod_four {t t0 t1 t2 t3 : TypeId} {fs : Array Field} {fuel : Nat} {cs : List Value} {x : DataW H × List MemPlace} (hu : P.underlying t = some (.struct fs)) (hf : fs.toList.map (fun f => (f.type, f.offset)) = [(t0, 0), (t1, 1), (t2, 2), (t3, 3)]) (hc : P.cellsOf t = 4)
    (c0 : P.cellsOf t0 = 1) (c1 : P.cellsOf t1 = 1) (c2 : P.cellsOf t2 = 1) (c3 : P.cellsOf t3 = 1) (h : DataW.trod enc P w base spare held fuel t cs = some x) :
    ∃ v0 v1 v2 v3 y0 y1 y2 y3 n, cs = [v0, v1, v2, v3] ∧ x.1 = .agg [y0.1, y1.1, y2.1, y3.1] ∧ DataW.trod enc P w base spare held n t0 [v0] = some y0 ∧ DataW.trod enc P w base spare held n t1 [v1] = some y1 ∧ DataW.trod enc P w base spare held n t2 [v2] = some y2 ∧ DataW.trod enc P w base spare held n t3 [v3] = some y3 ∧
      ∀ m, (m ∈ y0.1.weights P t0 ∨ m ∈ y1.1.weights P t1 ∨ m ∈ y2.1.weights P t2 ∨ m ∈ y3.1.weights P t3) → m ∈ x.1.weights P t := by
  obtain ⟨xs, n, _, rfl, hl, hlen, hg⟩ := DataW.trod_struct hu h
  obtain ⟨f0, r0, q0, e0, hf⟩ := List.map_eq_cons_iff.1 hf
  obtain ⟨f1, r1, rfl, e1, hf⟩ := List.map_eq_cons_iff.1 hf
  obtain ⟨f2, r2, rfl, e2, hf⟩ := List.map_eq_cons_iff.1 hf
  obtain ⟨f3, r3, rfl, e3, hf⟩ := List.map_eq_cons_iff.1 hf
  have hr := List.map_eq_nil_iff.1 hf
  subst hr
  simp only [Prod.mk.injEq] at e0 e1 e2 e3
  obtain ⟨rfl, o0⟩ := e0
  obtain ⟨rfl, o1⟩ := e1
  obtain ⟨rfl, o2⟩ := e2
  obtain ⟨rfl, o3⟩ := e3
  have hfs : fs = #[f0, f1, f2, f3] := by cases fs; simp_all
  subst hfs
  rw [hc] at hl
  match xs, hlen, cs, hl with
  | [y0, y1, y2, y3], _, [v0, v1, v2, v3], _ =>
    have g0 := hg 0 f0 rfl
    have g1 := hg 1 f1 rfl
    have g2 := hg 2 f2 rfl
    have g3 := hg 3 f3 rfl
    simp [o0, o1, o2, o3, c0, c1, c2, c3] at g0 g1 g2 g3
    refine ⟨v0, v1, v2, v3, y0, y1, y2, y3, n, rfl, rfl, g0, g1, g2, g3, fun m hm => ?_⟩
    simp only [List.map_cons, List.map_nil, DataW.weights, hu, DataW.weightsEach, List.mem_append, List.not_mem_nil, or_false]
    exact hm
end

end Go.Proofs.Ytmndgoapkmhglaa

/- an argument that is a script, opened. -/
namespace Go.Proofs.Ytmndgoapkmhglaa
open Go.ChangeShapes Go.WideShapes Go.RowKit Go.Deep

theorem Try.uAct : Try.prog.underlying 108 = some (.struct (Try.prog.fieldsOf 108)) := by kernel_rfl
theorem Try.fAct : (Try.prog.fieldsOf 108).toList.map (fun f => (f.type, f.offset)) = [(3, 0), (3, 1), (3, 2), (3, 3)] := by kernel_rfl
theorem Try.cAct : Try.prog.cellsOf 108 = 4 := by kernel_rfl
theorem Try.bAct : Try.prog.bytesOf 108 = 32 := by kernel_rfl

/-- acts, opened. -/
theorem open_acts {H : Type} {enc : TypeId × Value → H} {W : World} {fuel : Nat} {v : Value} {x : DataW H × List MemPlace} (h : DataW.trod enc Try.prog W 0 (fun _ => true) true fuel 74 [v] = some x) (hw : ∀ n ∈ x.1.weights Try.prog 74, n ≤ reachBytes) :
    ∃ A C ops, v = .slice A ops.length C ∧ OpsAt W (.slice A ops.length C) ops := by
  have hrb : reachBytes = 140737488351232 := rfl
  rcases open_slice Try.underlying74 h with ⟨hcs, rfl⟩ | ⟨a, len, cap, m, n, D, Pl, hcs, _, hl, hm, hmm, rfl, hx⟩
  · simp at hcs
    subst hcs
    exact ⟨none, 0, [], rfl, none, 0, rfl, by simp, fun hp => by simp at hp⟩
  · simp at hcs
    subst hcs
    simp only [if_true] at hmm
    subst hmm
    have hsz : m * 32 ≤ reachBytes := by
      refine hw _ ?_
      simp only [DataW.weights, Try.underlying74, List.mem_cons]
      refine .inl ?_
      rw [Try.bAct]
      simp
      omega
    obtain ⟨Z, hZ⟩ := choose_lt (α := Int × Int × Int × Int) (n := m) (p := fun i z => W.cell? (a.add (i * 4)) = some (.int .i64 z.1) ∧ W.cell? ((a.add (i * 4)).add 1) = some (.int .i64 z.2.1) ∧ W.cell? ((a.add (i * 4)).add 2) = some (.int .i64 z.2.2.1) ∧ W.cell? ((a.add (i * 4)).add 3) = some (.int .i64 z.2.2.2)) (fun i hi => by
      obtain ⟨cs', h1, h2⟩ := hx i hi
      rw [Try.cAct] at h1
      obtain ⟨_, _, hcl⟩ := World.cells?_some h1
      obtain ⟨v0, v1, v2, v3, y0, y1, y2, y3, k, rfl, _, g0, g1, g2, g3, _⟩ := trod_four Try.uAct Try.fAct Try.cAct Try.cellsInt Try.cellsInt Try.cellsInt Try.cellsInt h2
      obtain ⟨z0, e0, _⟩ := DataW.trod_int Try.underlying3 g0
      obtain ⟨z1, e1, _⟩ := DataW.trod_int Try.underlying3 g1
      obtain ⟨z2, e2, _⟩ := DataW.trod_int Try.underlying3 g2
      obtain ⟨z3, e3, _⟩ := DataW.trod_int Try.underlying3 g3
      simp only [List.cons.injEq, and_true] at e0 e1 e2 e3
      subst e0 e1 e2 e3
      have k0 := hcl 0 (by omega)
      rw [add_add, Nat.add_zero] at k0
      exact ⟨(z0, z1, z2, z3), k0, hcl 1 (by omega), hcl 2 (by omega), hcl 3 (by omega)⟩)
    have hln : ((List.range len).map fun i => (⟨(Z i).1, (Z i).2.1, (Z i).2.2.1, (Z i).2.2.2⟩ : OpF)).length = len := by simp
    refine ⟨some a, m, (List.range len).map fun i => ⟨(Z i).1, (Z i).2.1, (Z i).2.2.1, (Z i).2.2.2⟩, by rw [hln], some a, m, by rw [hln], by rw [hln]; omega, fun hp => ?_⟩
    rw [hln] at hp
    obtain ⟨b, o, sp⟩ := a
    have hs : sp = none := spot_none (by simpa using (hZ 0 (by omega)).1)
    subst hs
    refine ⟨b, o, rfl, ?_, fun i hi => ?_⟩
    · have := World.block_lt_of_cell? _ _ (hZ 0 (by omega)).1
      simpa [Addr.add] using this
    · rw [hln] at hi
      obtain ⟨k0, k1, k2, k3⟩ := hZ i (by omega)
      rw [plain_add] at k0 k1 k2 k3
      rw [plain_add] at k1 k2 k3
      simp only [List.getElem_map, List.getElem_range]
      exact ⟨k0, k1, k2, k3⟩

end Go.Proofs.Ytmndgoapkmhglaa

/- the statements' own helpers: same, full. -/
namespace Go.Proofs.Ytmndgoapkmhglaa
open Go.RowKit
attribute [local go_sem ↓] Go.wp_at_zero Go.wp_at_succ

set_option maxHeartbeats 1000000 in
theorem lsame_any (w : World) (va vb : Value) (xs ys : List Int) (ha : RowAt w va xs) (hb : RowAt w vb ys) :
    Calls Try.prog 36 #[va, vb] w fun e w' => e = .returned (.bool (xs == ys)) ∧ Below w.heap.size w w' := by
  obtain ⟨A, C, rfl, hm, hc⟩ := ha
  obtain ⟨A', C', rfl, hm', hc'⟩ := hb
  by_cases hl : xs.length = ys.length
  · have q1 : ((xs.length : Int) != (ys.length : Int)) = false := by rw [hl]; simp
    have HA := hide hc
    have HB := hide hc'
    have HL := hide hl
    clear hc hc' hl
    go_enter Try.func36, Try.ntmps36
    go_wp2
    go_loopw [5] (fun vi wr => ∃ m : Nat, m ≤ xs.length ∧ vi = .int .i64 m ∧ Below w.heap.size w wr ∧ ∀ j, j < m → (hx : j < xs.length) → (hy : j < ys.length) → xs[j] = ys[j]) (fun vi _ => xs.length - (intOf vi).toNat)
    case atStart => exact ⟨0, Nat.zero_le _, rfl, Below.refl _ _, fun j hj => by omega⟩
    case round =>
      obtain ⟨m, hm, rfl, hbx, hrec⟩ := hrel
      have HRC := hide hrec
      clear hrec
      by_cases hml : m < xs.length
      · obtain ⟨b, o, rfl, hb, hr⟩ := HA.out (by omega)
        obtain ⟨b', o', rfl, hb', hr'⟩ := HB.out (by have := HL.out; omega)
        have hmy : m < ys.length := by have := HL.out; omega
        have x1 := (hbx.cell (p := ⟨b, o + m, none⟩) hb).trans (hr m hml)
        have x2 := (hbx.cell (p := ⟨b', o' + m, none⟩) hb').trans (hr' m hmy)
        have j3 : (0 : Int) ≤ (m : Int) := by omega
        have j4 : (m : Int) < (xs.length : Int) := by omega
        have j5 : (m : Int) < (ys.length : Int) := by omega
        by_cases he : xs[m] = ys[m]
        · have HN : Hid (∀ j, j < m + 1 → (hx : j < xs.length) → (hy : j < ys.length) → xs[j] = ys[j]) := hide (fun j hj hx hy => by
            by_cases e : j = m
            · subst e; exact he
            · exact HRC.out j (by omega) hx hy)
          have q2 : (xs[m] != ys[m]) = false := by rw [he]; simp
          generalize xs[m] = u at x1 q2
          generalize ys[m] = v at x2 q2
          clear hr hr' he
          go_wp2_with fail
          go_quiet (fail)
          go_wp2
          go_roundw
          case rel => exact ⟨m + 1, by omega, by go_num, by first | exact hbx | exact below_drewN hbx _, HN.out⟩
          case measure => simp [intOf]; omega
        · have HN := hide (row_ne hml hmy he)
          have q2 : (xs[m] != ys[m]) = true := by rw [bne_iff_ne]; exact he
          generalize xs[m] = u at x1 q2
          generalize ys[m] = v at x2 q2
          clear hr hr' he
          go_wp2_with fail
          go_quiet (fail)
          go_wp2
          go_ret
          exact ⟨by rw [HN.out]; rfl, by first | exact hbx | exact below_drewN hbx _⟩
      · have em : m = xs.length := by omega
        subst em
        have HN := hide (row_eq HL.out (fun j hx hy => HRC.out j hx hx hy))
        have z1 : ¬ (xs.length : Int) < (xs.length : Int) := by omega
        clear HRC
        go_wp2
        go_ret
        exact ⟨by rw [HN.out]; rfl, hbx⟩
  · have q1 : ((xs.length : Int) != (ys.length : Int)) = true := by rw [bne_iff_ne]; omega
    have HN : Hid ((xs == ys) = false) := hide (by rw [beq_eq_false_iff_ne]; rintro rfl; exact hl rfl)
    clear hc hc' hl
    go_enter Try.func36, Try.ntmps36
    go_wp2
    go_ret
    exact ⟨by rw [HN.out]; rfl, Below.refl _ _⟩

set_option maxHeartbeats 1000000 in
theorem lfull_any (w : World) (va : Value) (xs : List Int) (mk : Int) (ha : RowAt w va xs) :
    Calls Try.prog 60 #[va, .int .i64 mk] w fun e w' => e = .returned (.bool (xs.all (· == mk))) ∧ Below w.heap.size w w' := by
  obtain ⟨A, C, rfl, hm, hc⟩ := ha
  have HA := hide hc
  clear hc
  go_enter Try.func60, Try.ntmps60
  go_wp2
  go_loopw [5] (fun vi wr => ∃ m : Nat, m ≤ xs.length ∧ vi = .int .i64 m ∧ Below w.heap.size w wr ∧ ∀ j, j < m → (hx : j < xs.length) → xs[j] = mk) (fun vi _ => xs.length - (intOf vi).toNat)
  case atStart => exact ⟨0, Nat.zero_le _, rfl, Below.refl _ _, fun j hj => by omega⟩
  case round =>
    obtain ⟨m, hm, rfl, hbx, hrec⟩ := hrel
    have HRC := hide hrec
    clear hrec
    by_cases hml : m < xs.length
    · obtain ⟨b, o, rfl, hb, hr⟩ := HA.out (by omega)
      have x1 := (hbx.cell (p := ⟨b, o + m, none⟩) hb).trans (hr m hml)
      have j3 : (0 : Int) ≤ (m : Int) := by omega
      have j4 : (m : Int) < (xs.length : Int) := by omega
      by_cases he : xs[m] = mk
      · have HN : Hid (∀ j, j < m + 1 → (hx : j < xs.length) → xs[j] = mk) := hide (fun j hj hx => by
          by_cases e : j = m
          · subst e; exact he
          · exact HRC.out j (by omega) hx)
        have q2 : (xs[m] != mk) = false := by rw [he]; simp
        generalize xs[m] = u at x1 q2
        clear hr he
        go_wp2
        go_roundw
        case rel => exact ⟨m + 1, by omega, by go_num, by first | exact hbx | exact below_drewN hbx _, HN.out⟩
        case measure => simp [intOf]; omega
      · have HN : Hid (xs.all (· == mk) = false) := hide (by rw [List.all_eq_false]; exact ⟨xs[m], List.getElem_mem hml, by simpa using he⟩)
        have q2 : (xs[m] != mk) = true := by rw [bne_iff_ne]; exact he
        generalize xs[m] = u at x1 q2
        clear hr he
        go_wp2
        go_ret
        exact ⟨by rw [HN.out]; rfl, by first | exact hbx | exact below_drewN hbx _⟩
    · have em : m = xs.length := by omega
      subst em
      have HN : Hid (xs.all (· == mk) = true) := hide (by
        rw [List.all_eq_true]
        intro x hx
        obtain ⟨j, hj, rfl⟩ := List.getElem_of_mem hx
        rw [HRC.out j hj hj]; simp)
      have z1 : ¬ (xs.length : Int) < (xs.length : Int) := by omega
      clear HRC
      go_wp2
      go_ret
      exact ⟨by rw [HN.out]; rfl, hbx⟩

end Go.Proofs.Ytmndgoapkmhglaa

/- the statements' own helpers: append onto a list that is kept. -/
namespace Go.Proofs.Ytmndgoapkmhglaa
open Go.RowKit

/-- a list whose cells are all one mark, in blocks of a kind. -/
def AllM (w : World) (K : Nat → Prop) (v : Value) (n : Nat) (mk : Int) : Prop :=
  ∃ (A : Option Addr) (C : Nat), v = .slice A n C ∧ n ≤ 35184372088832 ∧ (0 < n → ∃ b o, A = some ⟨b, o, none⟩ ∧ K b ∧ b < w.heap.size ∧ ∀ c, c < n → w.cell? ⟨b, o + c, none⟩ = some (.int .i64 mk))

theorem AllM.row {w : World} {K : Nat → Prop} {v : Value} {n : Nat} {mk : Int} (h : AllM w K v n mk) : RowAt w v (List.replicate n mk) := by
  obtain ⟨A, C, rfl, hm, hc⟩ := h
  refine ⟨A, C, by rw [List.length_replicate], by rw [List.length_replicate]; exact hm, fun hp => ?_⟩
  rw [List.length_replicate] at hp
  obtain ⟨b, o, h1, _, h3, h4⟩ := hc hp
  exact ⟨b, o, h1, h3, fun c hc => by rw [List.getElem_replicate]; exact h4 c (by simpa using hc)⟩
theorem AllM.keep {w w' : World} {K K' : Nat → Prop} {v : Value} {n : Nat} {mk : Int} (h : AllM w K v n mk) (hs : w.heap.size ≤ w'.heap.size) (hk : ∀ b, b < w.heap.size → K b → K' b)
    (hc : ∀ b, b < w.heap.size → K b → ∀ c, w.cell? ⟨b, c, none⟩ = some (.int .i64 mk) → w'.cell? ⟨b, c, none⟩ = some (.int .i64 mk)) : AllM w' K' v n mk := by
  obtain ⟨A, C, rfl, hm, h⟩ := h
  refine ⟨A, C, rfl, hm, fun hp => ?_⟩
  obtain ⟨b, o, h1, h2, h3, h4⟩ := h hp
  exact ⟨b, o, h1, hk b h3 h2, Nat.lt_of_lt_of_le h3 hs, fun c hcc => hc b h3 h2 _ (h4 c hcc)⟩
theorem AllM.below {w w' : World} {K : Nat → Prop} {v : Value} {n : Nat} {mk : Int} (h : AllM w K v n mk) (hb : Below w.heap.size w w') : AllM w' K v n mk :=
  h.keep hb.size (fun _ _ hk => hk) (fun b hb' _ c hc => (hb.cell (p := ⟨b, c, none⟩) hb').trans hc)

theorem grown_cell {w w' : World} {row : Option Nat} (h : w.grownBy w' row) {b c : Nat} (hb : b < w.heap.size) (hr : row ≠ some b) : w'.cell? ⟨b, c, none⟩ = w.cell? ⟨b, c, none⟩ :=
  World.cell?_of_block (w := w) (a := ⟨b, c, none⟩) (h.block b hb (Ne.symm hr))

theorem own_allM {w : World} {base : Nat} {e : TypeId} {v : Value} {n : Nat} {mk : Int} (hn : n ≤ 35184372088832) (h : w.ownsRow base e 1 v n (List.replicate n (.int .i64 mk))) (K : Nat → Prop) (hK : ∀ b, v.ownBlock = some b → K b) : AllM w K v n mk := by
  rcases h.2 with ⟨rfl, rfl⟩ | ⟨g, cap, cur, rfl, hb, hg, h1, h2, h3, h4⟩
  · exact ⟨none, 0, rfl, hn, fun hp => by omega⟩
  · refine ⟨some ⟨g, 0, none⟩, cap, rfl, hn, fun hp => ⟨g, 0, rfl, hK g rfl, (Array.getElem?_eq_some_iff.1 hg).1, fun c hc => ?_⟩⟩
    rw [h.cellAt (0 + c) (by omega), List.getElem?_replicate, if_pos (by omega)]

theorem setCells_block {b : Nat} : ∀ (vs : List Value) (o : Nat) (w : World) (cs : Array Value) (t : TypeId), w.heap[b]? = some (.cells cs t (0, 0)) →
    ∃ cs', (w.setCells b o vs).heap[b]? = some (.cells cs' t (0, 0)) ∧ cs'.size = cs.size ∧ cs'.toList.take o = cs.toList.take o ∧ (w.setCells b o vs).heap.size = w.heap.size ∧ (∀ k, k ≠ b → (w.setCells b o vs).heap[k]? = w.heap[k]?) ∧ (w.setCells b o vs).os = w.os ∧ (w.setCells b o vs).tape = w.tape ∧ (w.setCells b o vs).output = w.output := by
  intro vs
  induction vs with
  | nil => intro o w cs t h; exact ⟨cs, h, rfl, rfl, rfl, fun _ _ => rfl, rfl, rfl, rfl⟩
  | cons v r ih =>
    intro o w cs t h
    obtain ⟨cs', h1, h2, h3, h4, h5, h6, h7, h8⟩ := ih (o + 1) (w.setCell ⟨b, o, none⟩ v) (cs.setIfInBounds o v) t (heap_setCell_same w b o cs t v h)
    refine ⟨cs', h1, by simpa using h2, ?_, by rw [World.setCells, h4]; simp, fun k hk => (h5 k hk).trans (heap_setCell_other w ⟨b, o, none⟩ k v hk), h6, h7, h8⟩
    have e : cs'.toList.take o = (cs'.toList.take (o + 1)).take o := by rw [List.take_take, Nat.min_eq_left (by omega)]
    rw [e, h3, List.take_take, Nat.min_eq_left (by omega), Array.toList_setIfInBounds, List.take_set_of_le (by omega)]

/-- append of marks onto a list that is full of them, and stays. -/
theorem append_marks {P : Program} (w : World) {ops : Array Oper} {rest : List Oper} {o : Oper} {a : Act} {Q : Exit → Act → World → Prop}
    (hg : o.guard = none) (s x : Operand) (t : TypeId) (hop : o.op = Op.call { callee := Callee.builtin Builtin.append, args := #[s, x], argTypes := #[t, t] })
    (e : TypeId) (i : TypeInfo) (z : Value) (h1 : P.underlying t = some (.slice e)) (h2 : P.info? e = some i) (h3 : i.zero = some z) (h4 : i.size = 1) (h5 : i.bytes = 8) (h6 : z.cells.size = 1)
    (base n m : Nat) (mk : Int) (v : Value) (hs : a.eval s = v) (hown : w.ownsRow base e 1 v n (List.replicate n (.int .i64 mk)))
    (ad : Addr) (c : Nat) (hx : a.eval x = .slice (some ad) m c) (hc : ∀ j, j < m → w.cell? (ad.add j) = some (.int .i64 mk)) (hm : 0 < m) (hnm : n + m ≤ 1000000)
    (h : ∀ v' w', w'.ownsRow base e 1 v n (List.replicate n (.int .i64 mk)) → w.grownBy w' v.ownBlock → (∀ b c, w.cell? ⟨b, c, none⟩ = some (.int .i64 mk) → w'.cell? ⟨b, c, none⟩ = some (.int .i64 mk)) →
      AllM w' (fun b => v.ownBlock = some b ∨ w.heap.size ≤ b) v' (n + m) mk → (∃ A C, v' = .slice A (n + m) C) → wpList P ops Q rest (a.put o.dst v') w') :
    wpList P ops Q (o :: rest) a w := by
  have news : ∀ j u, (List.replicate m (Value.int .i64 mk))[j]? = some u → w.cell? (ad.add j) = some u := fun j u hj => by
    rw [List.getElem?_replicate] at hj
    split at hj
    · cases hj; exact hc j (by assumption)
    · cases hj
  have one : ∀ u ∈ List.replicate m (Value.int .i64 mk), u.oneCell' = true := fun u hu => by rw [(List.mem_replicate.1 hu).2]; rfl
  have rep : List.replicate n (Value.int .i64 mk) ++ List.replicate m (.int .i64 mk) = List.replicate (n + m) (.int .i64 mk) := List.replicate_append_replicate
  have big : n + m ≤ maxLen := by unfold maxLen; omega
  have grow : ∀ v' w', w'.ownsRow w.heap.size e 1 v' (n + m) (List.replicate n (.int .i64 mk) ++ List.replicate m (.int .i64 mk)) → w.grownBy w' none → wpList P ops Q rest (a.put o.dst v') w' := fun v' w' hown' hgr => by
    rw [rep] at hown'
    obtain ⟨A, C, hv', _⟩ := own_shape hown'
    refine h v' w' (hown.kept hgr ?_) ⟨hgr.os, hgr.tape, hgr.output, hgr.size, fun k hk _ => hgr.block k hk (by simp)⟩ (fun b c hcell => ?_) (own_allM (by omega) hown' _ (fun b hb => .inr (hown'.lt b hb).1)) ⟨A, C, hv'⟩
    · cases v.ownBlock with
      | none => exact .inl rfl
      | some k => exact .inr (by simp)
    · rw [grown_cell hgr (World.block_lt_of_cell? _ _ hcell) (by simp)]; exact hcell
  rcases hown.2 with ⟨rfl, rfl⟩ | ⟨g, cap, cur, rfl, hb, hgc, hnc, hcm, hcs, htake⟩
  · exact wpList_append_grows w hg s x t hop e i z 1 8 h1 h2 h3 h4 h5 h6 (by omega) none 0 0 [] hs (fun _ => ⟨rfl, rfl⟩) rfl (fun b hb => by cases hb) ad m c (List.replicate m (.int .i64 mk)) hx (by simp) news one (by omega) big (by omega) (fun v' w' ho hgr => grow v' w' (by simpa using ho) hgr)
  · refine wpList_append_arg w hg s x t hop e i z 1 8 h1 h2 h3 h4 h5 h6 (by omega) g 0 n cap (List.replicate n (.int .i64 mk)) hs (by simp) (fun j u hj => ?_) ad m c (List.replicate m (.int .i64 mk)) hx (by simp) news one ?_ big (by omega) ?_ (fun _ v' w' ho hgr => grow v' w' ho hgr)
    · rw [Nat.zero_add, hown.cellAt j (by have := (List.getElem?_eq_some_iff.1 hj).1; simpa using this)]; exact hj
    · intro hr j hj
      rw [List.length_replicate] at hj
      refine ⟨?_, hown.frozenAt _⟩
      rw [cell_of_row w g _ _ _ _ hgc, Array.getElem?_eq_getElem (by omega)]
      rfl
    · intro hr
      obtain ⟨cs', k1, k2, k3, k4, k5, k6, k7, k8⟩ := setCells_block (List.replicate m (Value.int .i64 mk)) (0 + n * 1) w cur e hgc
      have hin : ∀ j, j < m → (w.setCells g (0 + n * 1) (List.replicate m (Value.int .i64 mk))).cell? ⟨g, 0 + n * 1 + j, none⟩ = some (.int .i64 mk) := fun j hj => by
        rw [World.cell?_setCells_in g _ _ w (fun j hj => by rw [List.length_replicate] at hj; rw [cell_of_row w g _ _ _ _ hgc, Array.getElem?_eq_getElem (by omega)]; rfl) j (by simpa using hj), List.getElem_replicate]
      have keep : ∀ b c, w.cell? ⟨b, c, none⟩ = some (.int .i64 mk) → (w.setCells g (0 + n * 1) (List.replicate m (Value.int .i64 mk))).cell? ⟨b, c, none⟩ = some (.int .i64 mk) := fun b c hcell => by
        by_cases hh : b = g ∧ 0 + n * 1 ≤ c ∧ c < 0 + n * 1 + m
        · obtain ⟨rfl, hc1, hc2⟩ := hh
          have := hin (c - (0 + n * 1)) (by omega)
          rwa [show 0 + n * 1 + (c - (0 + n * 1)) = c by omega] at this
        · rw [World.cell?_setCells_out g _ _ w ⟨b, c, none⟩ (fun hb' _ => by
            have hb'' : b = g := hb'
            show c < 0 + n * 1 ∨ 0 + n * 1 + (List.replicate m (Value.int .i64 mk)).length ≤ c
            rw [List.length_replicate]; omega)]
          exact hcell
      refine h _ _ ⟨by simp, .inr ⟨g, cap, cs', rfl, hb, k1, hnc, hcm, by rw [k2]; exact hcs, ?_⟩⟩ ⟨k6, k7, k8, by rw [k4]; exact Nat.le_refl _, fun k _ hk => k5 k (fun e => hk (by rw [e]; rfl))⟩ keep ?_ ⟨_, _, rfl⟩
      · rw [Nat.zero_add] at k3
        rw [k3]; exact htake
      · refine ⟨some ⟨g, 0, none⟩, cap, rfl, by omega, fun hp => ⟨g, 0, rfl, .inl rfl, by rw [k4]; exact (Array.getElem?_eq_some_iff.1 hgc).1, fun c hc' => ?_⟩⟩
        by_cases hcn : c < n
        · refine keep g (0 + c) ?_
          rw [hown.cellAt (0 + c) (by omega), List.getElem?_replicate, if_pos (by omega)]
        · have := hin (c - n) (by omega)
          rwa [show 0 + n * 1 + (c - n) = 0 + c by omega] at this

theorem marks_block (w : World) (cs : Array Value) (t : TypeId) (m : Nat) (mk : Int) (h : cs.toList = List.replicate m (.int .i64 mk)) : ∀ j, j < m → (w.alloc (.cells cs t)).cell? ((⟨w.heap.size, 0, none⟩ : Addr).add j) = some (.int .i64 mk) := by
  intro j hj
  refine World.news_of_block (cs := cs) (t := t) (fr := (0, 0)) (heap_alloc_new w _) j _ ?_
  rw [h, List.getElem?_replicate, if_pos hj]

theorem grown_trans {w w1 w2 : World} {row : Option Nat} (h1 : w.grownBy w1 row) (h2 : w1.grownBy w2 row) : w.grownBy w2 row :=
  ⟨h2.os.trans h1.os, h2.tape.trans h1.tape, h2.output.trans h1.output, Nat.le_trans h1.size h2.size, fun k hk hne => (h2.block k (Nat.lt_of_lt_of_le hk h1.size) hne).trans (h1.block k hk hne)⟩
theorem grown_alloc (w : World) (o : Obj) (row : Option Nat) : w.grownBy (w.alloc o) row := ⟨rfl, rfl, rfl, by simp, fun k hk _ => Below.heap_alloc _ _ _ hk⟩
theorem grown_drew {w w1 : World} {row : Option Nat} (h : w.grownBy w1 row) : w.grownBy w1.drew row := ⟨h.os, h.tape, h.output, h.size, h.block⟩
/-- a store into a new block. -/
theorem grown_set {w w1 : World} {row : Option Nat} (h : w.grownBy w1 row) {p : Addr} (hp : w.heap.size ≤ p.block) (u : Value) : w.grownBy (w1.setCell p u) row :=
  ⟨h.os, h.tape, h.output, by simpa using h.size, fun k hk hne => (Below.heap_setCell _ _ _ _ (by omega)).trans (h.block k hk hne)⟩

end Go.Proofs.Ytmndgoapkmhglaa

/- the statements' own helpers: own, holds. -/
namespace Go.Proofs.Ytmndgoapkmhglaa
open Go.RowKit
attribute [local go_sem ↓] Go.wp_at_zero Go.wp_at_succ

/-- what its owner has of a list that came out. -/
structure OwnV where
  a : Value
  b : Value
  c : Value
  d : Value
  n : Nat
  m : Int
abbrev OwnV.val (o : OwnV) : Value := .agg #[o.a, o.b, o.c, o.d, .int .i64 o.m]
def OwnV.cells (o : OwnV) : List Value := [o.a, o.b, o.c, o.d, .int .i64 o.m]
structure OwnAt (w : World) (K : Nat → Prop) (o : OwnV) : Prop where
  a : AllM w K o.a o.n o.m
  b : AllM w K o.b (o.n + 1) o.m
  c : AllM w K o.c (o.n + 2) o.m
  d : AllM w K o.d (o.n + 6) o.m
theorem OwnAt.keep {w w' : World} {K K' : Nat → Prop} {o : OwnV} (h : OwnAt w K o) (hs : w.heap.size ≤ w'.heap.size) (hk : ∀ b, b < w.heap.size → K b → K' b)
    (hc : ∀ b, b < w.heap.size → K b → ∀ c, w.cell? ⟨b, c, none⟩ = some (.int .i64 o.m) → w'.cell? ⟨b, c, none⟩ = some (.int .i64 o.m)) : OwnAt w' K' o :=
  ⟨h.a.keep hs hk hc, h.b.keep hs hk hc, h.c.keep hs hk hc, h.d.keep hs hk hc⟩
theorem OwnAt.below {w w' : World} {K : Nat → Prop} {o : OwnV} (h : OwnAt w K o) (hb : Below w.heap.size w w') : OwnAt w' K o :=
  ⟨h.a.below hb, h.b.below hb, h.c.below hb, h.d.below hb⟩

theorem set_mark {xs : List Int} {m : Nat} {mk : Int} (h : m < xs.length) : ((List.replicate m (Value.int .i64 mk)) ++ ((xs.map fun x => Value.int .i64 x).drop m)).set m (.int .i64 mk) = (List.replicate (m + 1) (Value.int .i64 mk)) ++ ((xs.map fun x => Value.int .i64 x).drop (m + 1)) := by
  rw [List.set_append_right _ _ (by simp), List.length_replicate, Nat.sub_self, List.drop_eq_getElem_cons (by simpa using h), List.set_cons_zero, List.replicate_succ', List.append_assoc]
  rfl

theorem box3 {wr w1 w2 w3 : World} {b : Nat} {row : Option Nat} {o1 o2 o3 o : Obj} (hne : some b ≠ row) (hlt : b < wr.heap.size) (hb : wr.heap[b]? = some o) (h1 : (wr.alloc o1).grownBy w1 row) (h2 : (w1.alloc o2).grownBy w2 row) (h3 : (w2.alloc o3).grownBy w3 row) : w3.heap[b]? = some o := by
  have s1 := h1.size
  have s2 := h2.size
  simp at s1 s2
  rw [h3.block b (by simp; omega) hne, Below.heap_alloc _ _ _ (by omega), h2.block b (by simp; omega) hne, Below.heap_alloc _ _ _ (by omega), h1.block b (by simp; omega) hne, Below.heap_alloc _ _ _ hlt]
  exact hb

set_option maxHeartbeats 2000000 in
set_option maxRecDepth 100000 in
theorem lown_any (w : World) (B : Nat) (v : Value) (xs : List Int) (mk : Int) (h : w.ownsRow B 3 1 v xs.length (xs.map fun x => .int .i64 x)) (hn : xs.length ≤ 100000) :
    Calls Try.prog 37 #[v, .int .i64 mk] w fun e w' => ∃ o : OwnV, e = .returned o.val ∧ o.a = v ∧ o.n = xs.length ∧ o.m = mk ∧ OwnAt w' (fun b => v.ownBlock = some b ∨ w.heap.size ≤ b) o ∧ w.grownBy w' v.ownBlock := by
  obtain ⟨i0, hi0, hz0, hz1, hz2⟩ := info_parts Try.infoInt
  obtain ⟨A, C, rfl, hsh⟩ := own_shape h
  have HW := hide h
  have HSH := hide hsh
  clear h hsh
  go_enter Try.func37, Try.ntmps37
  go_wp2
  go_loopw [5] (fun vi wr => ∃ m : Nat, m ≤ xs.length ∧ vi = .int .i64 m ∧ wr.ownsRow B 3 1 (.slice A xs.length C) xs.length ((List.replicate m (Value.int .i64 mk)) ++ ((xs.map fun x => Value.int .i64 x).drop m)) ∧ w.grownBy wr (Value.slice A xs.length C).ownBlock ∧ w.heap.size < wr.heap.size ∧ wr.heap[w.heap.size]? = some (.cells #[.slice none 0 0, .slice none 0 0, .slice none 0 0, .slice none 0 0, .int .i64 0] 68)) (fun vi _ => xs.length - (intOf vi).toNat)
  case atStart => exact ⟨0, Nat.zero_le _, rfl, by simpa using HW.out.alloc _, grown_alloc _ _ _, by simp, heap_alloc_new w _⟩
  case round =>
    obtain ⟨m, hm, rfl, hown, hgr, hlt, hbx⟩ := hrel
    have HBX := hide hbx
    have HNE : Hid ((Value.slice A xs.length C).ownBlock ≠ some w.heap.size) := hide (fun e => by have := (HW.out.lt _ e).2; omega)
    have HO := hide hown
    have HG := hide hgr
    clear hown hgr hbx
    by_cases hml : m < xs.length
    · obtain ⟨g, rfl, _, hgl⟩ := HSH.out (by omega)
      have hc := HO.out.cellAt m (by omega)
      rw [List.getElem?_append_right (by simp), List.length_replicate, Nat.sub_self, List.getElem?_drop, List.getElem?_map, Nat.add_zero, List.getElem?_eq_getElem hml] at hc
      have hf := HO.out.frozenAt m
      have j3 : (0 : Int) ≤ (m : Int) := by omega
      have j4 : (m : Int) < (xs.length : Int) := by omega
      obtain ⟨hs1, hs2⟩ := HO.out.stored m (.int .i64 mk)
      rw [set_mark hml] at hs1
      have HS1 := hide hs1
      have HS2 := hide hs2
      simp only [Option.map_some] at hc
      generalize xs[m] = u at hc
      clear hs1 hs2
      go_wp2
      go_roundw
      case rel => exact ⟨m + 1, by omega, by go_num, by first | exact HS1.out | exact HS1.out.drew, ⟨HS2.out.os.trans HG.out.os, HS2.out.tape.trans HG.out.tape, HS2.out.output.trans HG.out.output, Nat.le_trans HG.out.size HS2.out.size, fun k hk hne => (HS2.out.block k (Nat.lt_of_lt_of_le hk HG.out.size) hne).trans (HG.out.block k hk hne)⟩, by simpa using hlt, (HS2.out.block w.heap.size hlt (Ne.symm HNE.out)).trans HBX.out⟩
      case measure => simp [intOf]; omega
    · have em : m = xs.length := by omega
      subst em
      have z1 : ¬ (xs.length : Int) < (xs.length : Int) := by omega
      have hown0 := HO.out
      rw [List.drop_of_length_le (by simp), List.append_nil] at hown0
      have hsz := HG.out.size
      clear HO HW HSH
      go_wp2_with (at_builtin; first
        | (refine append_marks _ rfl _ _ _ rfl 3 i0 _ Try.underlying48 hi0 hz0 hz1 hz2 rfl B xs.length 1 mk _ rfl (hown0.alloc _) ⟨wr.heap.size, 0, none⟩ 1 rfl (marks_block _ _ _ 1 mk rfl) (by omega) (by omega) ?_; intro v1 w1 ho1 hg1 hk1 ha1 hs1; obtain ⟨A1, C1, rfl⟩ := hs1)
        | (refine append_marks _ rfl _ _ _ rfl 3 i0 _ Try.underlying48 hi0 hz0 hz1 hz2 rfl B xs.length 2 mk _ rfl (ho1.alloc _) ⟨w1.heap.size, 0, none⟩ 2 rfl (marks_block _ _ _ 2 mk rfl) (by omega) (by omega) ?_; intro v2 w2 ho2 hg2 hk2 ha2 hs2; obtain ⟨A2, C2, rfl⟩ := hs2)
        | (refine append_marks _ rfl _ _ _ rfl 3 i0 _ Try.underlying48 hi0 hz0 hz1 hz2 rfl B xs.length 6 mk _ rfl (ho2.alloc _) ⟨w2.heap.size, 0, none⟩ 6 rfl (marks_block _ _ _ 6 mk rfl) (by omega) (by omega) ?_; intro v3 w3 ho3 hg3 hk3 ha3 hs3; obtain ⟨A3, C3, rfl⟩ := hs3; have hb3 := box3 (Ne.symm HNE.out) hlt HBX.out hg1 hg2 hg3; have c0 := cell_of_row w3 w.heap.size 0 _ _ _ hb3; have c1 := cell_of_row w3 w.heap.size 1 _ _ _ hb3; have c2 := cell_of_row w3 w.heap.size 2 _ _ _ hb3; have c3 := cell_of_row w3 w.heap.size 3 _ _ _ hb3; have c4 := cell_of_row w3 w.heap.size 4 _ _ _ hb3; have f0 := frozen_of_row w3 w.heap.size 0 _ _ hb3; have f1 := frozen_of_row w3 w.heap.size 1 _ _ hb3; have f2 := frozen_of_row w3 w.heap.size 2 _ _ hb3; have f3 := frozen_of_row w3 w.heap.size 3 _ _ hb3; have f4 := frozen_of_row w3 w.heap.size 4 _ _ hb3))
      have hs1 := hg1.size
      have hs2 := hg2.size
      have hs3 := hg3.size
      simp at hs1 hs2 hs3
      have hal : ∀ (W : World) (o : Obj) (b c : Nat), b < W.heap.size → (W.alloc o).cell? ⟨b, c, none⟩ = W.cell? ⟨b, c, none⟩ := fun W o b c h => World.cell?_alloc_past _ _ _ h
      have hw : ∀ b, b < w3.heap.size → ((Value.slice A xs.length C).ownBlock = some b ∨ wr.heap.size ≤ b) → b ≠ w.heap.size := fun b _ hb e => by
        rcases hb with hb | hb
        · rw [e] at hb; exact HNE.out hb
        · omega
      have k0 : AllM wr (fun b => (Value.slice A xs.length C).ownBlock = some b ∨ wr.heap.size ≤ b) (.slice A xs.length C) xs.length mk := own_allM (by omega) hown0 _ (fun b hb => .inl hb)
      have up1 : ∀ v n, AllM wr (fun b => (Value.slice A xs.length C).ownBlock = some b ∨ wr.heap.size ≤ b) v n mk → AllM w1 (fun b => (Value.slice A xs.length C).ownBlock = some b ∨ wr.heap.size ≤ b) v n mk := fun v n h => h.keep (by omega) (fun _ _ h => h) (fun b hb _ c hc => hk1 b c ((hal _ _ b c hb).trans hc))
      have up2 : ∀ v n, AllM w1 (fun b => (Value.slice A xs.length C).ownBlock = some b ∨ wr.heap.size ≤ b) v n mk → AllM w2 (fun b => (Value.slice A xs.length C).ownBlock = some b ∨ wr.heap.size ≤ b) v n mk := fun v n h => h.keep (by omega) (fun _ _ h => h) (fun b hb _ c hc => hk2 b c ((hal _ _ b c hb).trans hc))
      have up3 : ∀ v n, AllM w2 (fun b => (Value.slice A xs.length C).ownBlock = some b ∨ wr.heap.size ≤ b) v n mk → AllM w3 (fun b => (Value.slice A xs.length C).ownBlock = some b ∨ wr.heap.size ≤ b) v n mk := fun v n h => h.keep (by omega) (fun _ _ h => h) (fun b hb _ c hc => hk3 b c ((hal _ _ b c hb).trans hc))
      have l1 : AllM w1 (fun b => (Value.slice A xs.length C).ownBlock = some b ∨ wr.heap.size ≤ b) (.slice A1 (xs.length + 1) C1) (xs.length + 1) mk := ha1.keep (Nat.le_refl _) (fun b _ h => h.imp id (fun h => by simp at h; omega)) (fun _ _ _ _ h => h)
      have l2 : AllM w2 (fun b => (Value.slice A xs.length C).ownBlock = some b ∨ wr.heap.size ≤ b) (.slice A2 (xs.length + 2) C2) (xs.length + 2) mk := ha2.keep (Nat.le_refl _) (fun b _ h => h.imp id (fun h => by simp at h; omega)) (fun _ _ _ _ h => h)
      have l3 : AllM w3 (fun b => (Value.slice A xs.length C).ownBlock = some b ∨ wr.heap.size ≤ b) (.slice A3 (xs.length + 6) C3) (xs.length + 6) mk := ha3.keep (Nat.le_refl _) (fun b _ h => h.imp id (fun h => by simp at h; omega)) (fun _ _ _ _ h => h)
      have q0 := up3 _ _ (up2 _ _ (up1 _ _ k0))
      have q1 := up3 _ _ (up2 _ _ l1)
      have q2 := up3 _ _ l2
      have hgr : w.grownBy w3 (Value.slice A xs.length C).ownBlock := grown_trans (grown_trans (grown_trans HG.out (grown_trans (grown_alloc _ _ _) hg1)) (grown_trans (grown_alloc _ _ _) hg2)) (grown_trans (grown_alloc _ _ _) hg3)
      have fin : ∀ v n u0 u1 u2 u3 u4, AllM w3 (fun b => (Value.slice A xs.length C).ownBlock = some b ∨ wr.heap.size ≤ b) v n mk → AllM (((((w3.setCell ⟨w.heap.size, 0, none⟩ u0).setCell ⟨w.heap.size, 1, none⟩ u1).setCell ⟨w.heap.size, 2, none⟩ u2).setCell ⟨w.heap.size, 3, none⟩ u3).setCell ⟨w.heap.size, 4, none⟩ u4) (fun b => (Value.slice A xs.length C).ownBlock = some b ∨ w.heap.size ≤ b) v n mk := fun v n u0 u1 u2 u3 u4 h => by
        refine h.keep (by simp) (fun b _ h => h.imp id (fun h => by omega)) (fun b hb hK c hc => ?_)
        have hne := hw b hb hK
        rw [World.cell?_setCell_other _ _ _ _ (by intro e; exact hne (congrArg Addr.block e).symm), World.cell?_setCell_other _ _ _ _ (by intro e; exact hne (congrArg Addr.block e).symm), World.cell?_setCell_other _ _ _ _ (by intro e; exact hne (congrArg Addr.block e).symm), World.cell?_setCell_other _ _ _ _ (by intro e; exact hne (congrArg Addr.block e).symm), World.cell?_setCell_other _ _ _ _ (by intro e; exact hne (congrArg Addr.block e).symm)]
        exact hc
      refine bodyPost_ret (v := .agg #[.slice A xs.length C, .slice A1 (xs.length + 1) C1, .slice A2 (xs.length + 2) C2, .slice A3 (xs.length + 6) C3, .int .i64 mk]) (by simp [results, Try.results37, go_sem, c0, c1, c2, c3, c4]) rfl ?_
      exact ⟨⟨.slice A xs.length C, .slice A1 (xs.length + 1) C1, .slice A2 (xs.length + 2) C2, .slice A3 (xs.length + 6) C3, xs.length, mk⟩, rfl, rfl, rfl, rfl, ⟨fin _ _ _ _ _ _ _ q0, fin _ _ _ _ _ _ _ q1, fin _ _ _ _ _ _ _ q2, fin _ _ _ _ _ _ _ l3⟩, grown_set (grown_set (grown_set (grown_set (grown_set hgr (Nat.le_refl _) _) (Nat.le_refl _) _) (Nat.le_refl _) _) (Nat.le_refl _) _) (Nat.le_refl _) _⟩

set_option maxHeartbeats 1000000 in
theorem lholds_any (w : World) (K : Nat → Prop) (o : OwnV) (h : OwnAt w K o) :
    Calls Try.prog 38 #[o.val] w fun e w' => e = .returned (.bool true) ∧ Below w.heap.size w w' := by
  obtain ⟨a, b, c, d, n, mk⟩ := o
  have hal : ∀ k, (List.replicate k mk).all (· == mk) = true := fun k => by rw [List.all_eq_true]; intro x hx; rw [(List.mem_replicate.1 hx).2]; simp
  have H1 := hide (fun W (hW : Below w.heap.size w W) => lfull_any W a _ mk (h.a.below hW).row)
  have H2 := hide (fun W (hW : Below w.heap.size w W) => lfull_any W b _ mk (h.b.below hW).row)
  have H3 := hide (fun W (hW : Below w.heap.size w W) => lfull_any W c _ mk (h.c.below hW).row)
  have H4 := hide (fun W (hW : Below w.heap.size w W) => lfull_any W d _ mk (h.d.below hW).row)
  simp only [hal] at H1 H2 H3 H4
  obtain ⟨A1, C1, e1, _⟩ := h.a
  obtain ⟨A2, C2, e2, _⟩ := h.b
  obtain ⟨A3, C3, e3, _⟩ := h.c
  obtain ⟨A4, C4, e4, _⟩ := h.d
  simp only at e1 e2 e3 e4
  subst e1 e2 e3 e4
  clear h hal
  obtain ⟨bx, hbx⟩ : ∃ bx, bx = w.alloc (.cells #[.slice A1 n C1, .slice A2 (n + 1) C2, .slice A3 (n + 2) C3, .slice A4 (n + 6) C4, .int .i64 mk] 68) := ⟨_, rfl⟩
  have HB0 : Hid (Below w.heap.size w bx) := hide (by rw [hbx]; exact (Below.refl _ _).alloc (Nat.le_refl _) _)
  have HSZ : Hid (w.heap.size < bx.heap.size) := hide (by rw [hbx]; simp)
  have HC : Hid (∀ W, Below bx.heap.size bx W → W.cell? ⟨w.heap.size, 1, none⟩ = some (.slice A2 (n + 1) C2) ∧ W.cell? ⟨w.heap.size, 2, none⟩ = some (.slice A3 (n + 2) C3) ∧ W.cell? ⟨w.heap.size, 3, none⟩ = some (.slice A4 (n + 6) C4) ∧ W.cell? ⟨w.heap.size, 4, none⟩ = some (.int .i64 mk)) := hide (fun W hW => by
    have hN : W.heap[w.heap.size]? = some (.cells #[.slice A1 n C1, .slice A2 (n + 1) C2, .slice A3 (n + 2) C3, .slice A4 (n + 6) C4, .int .i64 mk] 68) := (hW.block w.heap.size HSZ.out).trans (by rw [hbx]; exact heap_alloc_new w _)
    exact ⟨by rw [cell_of_row W _ 1 _ _ _ hN]; rfl, by rw [cell_of_row W _ 2 _ _ _ hN]; rfl, by rw [cell_of_row W _ 3 _ _ _ hN]; rfl, by rw [cell_of_row W _ 4 _ _ _ hN]; rfl⟩)
  go_enter Try.func38, Try.ntmps38
  go_wp2_with fail
  rw [← hbx]
  refine (H1.out bx HB0.out).mono ?_
  rintro e w1 ⟨rfl, hb1⟩
  obtain ⟨x1, x2, x3, x4⟩ := HC.out w1 hb1
  have HB1 := hide hb1
  clear hb1
  go_wp2_with fail
  refine (H2.out w1 (HB0.out.trans (HB1.out.mono HB0.out.size))).mono ?_
  rintro e w2 ⟨rfl, hb2⟩
  have HB2 := hide (HB1.out.trans (hb2.mono HB1.out.size))
  clear hb2 x1 x2 x3 x4
  obtain ⟨x1, x2, x3, x4⟩ := HC.out w2 HB2.out
  go_wp2_with fail
  refine (H3.out w2 (HB0.out.trans (HB2.out.mono HB0.out.size))).mono ?_
  rintro e w3 ⟨rfl, hb3⟩
  have HB3 := hide (HB2.out.trans (hb3.mono HB2.out.size))
  clear hb3 x1 x2 x3 x4
  obtain ⟨x1, x2, x3, x4⟩ := HC.out w3 HB3.out
  go_wp2_with fail
  refine (H4.out w3 (HB0.out.trans (HB3.out.mono HB0.out.size))).mono ?_
  rintro e w4 ⟨rfl, hb4⟩
  have HB4 := hide (HB3.out.trans (hb4.mono HB3.out.size))
  clear hb4 x1 x2 x3 x4
  go_wp2
  go_ret
  exact ⟨rfl, HB0.out.trans (HB4.out.mono HB0.out.size)⟩

end Go.Proofs.Ytmndgoapkmhglaa

/- Plain mathematics: what the statements look up in events. -/
namespace Go.Proofs.Ytmndgoapkmhglaa
open Go.RowKit

/-- the places that have equations, each once. -/
def usedB (ts : List Tk) (L : List Dl) (q : Nat) : Bool := (plR ts L).any fun p => p == q
def usedR (ts : List Tk) (L : List Dl) : List Nat := (List.range 4).filter (usedB ts L)

theorem warsh_last {M : Mx} : ∀ n i j, warsh M n i j = true → ∃ k, M k j = true := by
  intro n
  induction n with
  | zero => intro i j h; exact ⟨i, h⟩
  | succ n ih =>
    intro i j h
    change phase (warsh M n) n i j = true at h
    unfold phase at h
    rw [Bool.or_eq_true, Bool.and_eq_true] at h
    rcases h with h | ⟨_, h⟩
    · exact ih i j h
    · exact ih n j h

section
variable {ts : List Tk} {L : List Dl} (hlp : lpR ts L = none) (hpl : ∀ x ∈ eqL L, placeD ts x < 4)
include hlp hpl

omit hlp hpl in
theorem used_of {x : Dl} (hx : x ∈ eqL L) : usedB ts L (placeD ts x) = true := by
  unfold usedB plR
  rw [List.any_map, List.any_eq_true]
  exact ⟨x, hx, by simp⟩
omit hlp hpl in
theorem waits_used {i j : Nat} (h : waitM ts L i j = true) : usedB ts L i = true ∧ usedB ts L j = true := by
  rcases waitsP_from _ _ _ _ _ h with h | ⟨r, hr, h1, h2⟩
  · cases h
  · obtain ⟨l, hl, hle⟩ := List.getElem_of_mem hr
    have hl' : l < (netR ts L).length := by unfold netR; rwa [List.length_map]
    obtain ⟨r', x, e1, _, hx, e, _, _, _⟩ := net_at hl'
    rw [List.getElem?_eq_getElem hl, hle] at e1
    cases e1
    rw [plR_get hx] at h1
    have hd := (net_ends ts L l hl').2
    rw [e] at hd
    obtain ⟨y, hy, hye⟩ := hd
    have hye' : placeD ts y = r.dst := by have : ((placeD ts y : Nat) : Int) = ((r.dst : Nat) : Int) := hye; omega
    rw [h2, h1, ← hye']
    exact ⟨used_of hy, used_of (List.mem_of_getElem? hx)⟩

/-- a chain of waits is shorter than there are places with equations. -/
theorem ahead_used {q n : Nat} (h : aheadF (waitM ts L) q (n + 1) = true) (hq : q < 4) : n + 1 < (usedR ts L).length := by
  have h1 := ahead_rank (waits_ok hlp hpl) _ _ h
  have hu : usedB ts L q = true := by
    unfold aheadF at h
    rw [List.any_eq_true] at h
    obtain ⟨p, _, hp⟩ := h
    rw [Bool.and_eq_true] at hp
    exact (waits_used hp.1).1
  have hqq : warsh (waitM ts L) 4 q q = false := by
    unfold usedB plR at hu
    rw [List.any_map, List.any_eq_true] at hu
    obtain ⟨x, hx, he⟩ := hu
    have e : placeD ts x = q := by simpa using he
    have := firstP_none _ hlp x hx
    rw [e] at this
    exact this
  have h2 : rankM (waitM ts L) 4 q < (usedR ts L).length := by
    unfold rankM usedR
    refine filter_lt (List.range 4) (fun x _ hx => ?_) ⟨q, List.mem_range.2 hq, hu, hqq⟩
    obtain ⟨k, hk⟩ := warsh_last 4 q x hx
    exact (waits_used hk).2
  omega
theorem dUp_used (h : usedR ts L ≠ []) : ∀ n, dUp (waitM ts L) n + 1 ≤ (usedR ts L).length := by
  intro n
  induction n with
  | zero => unfold dUp; have := List.length_pos_iff.2 h; omega
  | succ n ih =>
    unfold dUp
    by_cases hn : (List.range 4).any (fun q => aheadF (waitM ts L) q (n + 1)) = true
    · rw [if_pos hn]
      rw [List.any_eq_true] at hn
      obtain ⟨q, hq, ha⟩ := hn
      have := ahead_used hlp hpl ha (List.mem_range.1 hq)
      omega
    · rw [if_neg hn]; exact ih
end

/-- when a place made its step k, or -1. -/
def stepT (pl : Int) (k : Nat) : PastF → Nat → Int
  | [], _ => -1
  | x :: P, n => if isD pl 1 x then (if n = k then x.2.a else stepT pl k P (n + 1)) else stepT pl k P n

theorem did_cons (x : OpF × EvF) (P : PastF) (pl what now : Int) : didF (x :: P) pl what now false = (if isD pl what x && decide (x.2.a + 0 ≤ now) then 1 else 0) + didF P pl what now false := by
  unfold didF
  rw [List.filter_cons]
  simp only [Bool.false_eq_true, if_false]
  split <;> simp <;> omega

theorem stepT_by (pl : Int) (k : Nat) (u : Int) : ∀ (P : PastF) (n : Nat), (P.Pairwise fun x y => x.2.a ≤ y.2.a) → (∀ x ∈ P, 0 ≤ x.2.a) → n ≤ k → k + 1 ≤ n + didF P pl 1 u false → 0 ≤ stepT pl k P n ∧ stepT pl k P n ≤ u := by
  intro P
  induction P with
  | nil => intro n _ _ hn h; simp [didF] at h; omega
  | cons x P ih =>
    intro n hp h0 hn h
    obtain ⟨hp1, hp2⟩ := List.pairwise_cons.1 hp
    rw [did_cons] at h
    simp only [stepT]
    have h0' : ∀ y ∈ P, 0 ≤ y.2.a := fun y hy => h0 y (List.mem_cons_of_mem _ hy)
    rcases Bool.eq_false_or_eq_true (isD pl 1 x) with hx | hx
    · rw [hx] at h ⊢
      rw [if_pos rfl]
      by_cases hu : x.2.a ≤ u
      · by_cases hk : n = k
        · rw [if_pos hk]; exact ⟨h0 x (by simp), hu⟩
        · rw [if_neg hk]
          refine ih (n + 1) hp2 h0' (by omega) ?_
          rw [if_pos (by simp; omega)] at h
          omega
      · exfalso
        have hz : didF P pl 1 u false = 0 := did_none (fun y hy => by have := hp1 y hy; omega) pl 1
        rw [hz, if_neg (by simp; omega)] at h
        omega
    · rw [hx] at h ⊢
      rw [if_neg (by simp)]
      refine ih n hp2 h0' hn ?_
      simpa using h

/-- what an event shows: for Kept. -/
theorem wake_shows {N : List LnF} {V : Int → Nat → List Int} {P : PastF} {a : OpF} (hO : PastOk N P a.a) (hI : RunInv N P) :
    (wakeF N V P a).k = a.k ∧ (wakeF N V P a).a = a.a ∧ ((wakeF N V P a).did = 0 ∧ (wakeF N V P a).n = 0 ∧ (wakeF N V P a).vals = [] ∨
      (wakeF N V P a).did = 1 ∧ (wakeF N V P a).n = (cntF P a.k 1 : Int) ∧ cntF P a.k 1 = cntF P a.k 2 ∧ (wakeF N V P a).vals = [] ∨
      (wakeF N V P a).did = 2 ∧ (wakeF N V P a).n = (cntF P a.k 2 : Int) ∧ cntF P a.k 1 = cntF P a.k 2 + 1 ∧ (wakeF N V P a).vals = V a.k (cntF P a.k 2)) := by
  refine ⟨rfl, rfl, ?_⟩
  by_cases hr : readyF N P a = true
  · refine .inr (.inl ?_)
    unfold wakeF
    simp only [hr, if_true]
    exact ⟨trivial, by rw [did_all hO], ((ready_iff hO hI).1 hr).1, trivial⟩
  · by_cases hf : freeF N P a = true
    · refine .inr (.inr ?_)
      unfold wakeF
      simp only [hr, hf, if_true]
      exact ⟨by simp, by simp [did_all hO], ((free_iff hO hI).1 hf).1, by simp [did_all hO]⟩
    · refine .inl ?_
      unfold wakeF
      simp [hr, hf]

end Go.Proofs.Ytmndgoapkmhglaa
