import Derived.Laws.StructEq
import Derived.Test.YtmndgoapkmhglabB31CpW
import Derived.Test.YtmndgoapkmhglabB43PlyR
/- an argument that is a script, opened. -/
namespace Go.Proofs.Ytmndgoapkmhglab
open Go.ChangeShapes Go.WideShapes Go.RowKit Go.Deep

theorem Try.uAct : Try.prog.underlying 43 = some (.struct (Try.prog.fieldsOf 43)) := by kernel_rfl
theorem Try.fAct : (Try.prog.fieldsOf 43).toList.map (fun f => (f.type, f.offset)) = [(3, 0), (3, 1), (3, 2), (3, 3)] := by kernel_rfl
theorem Try.cAct : Try.prog.cellsOf 43 = 4 := by kernel_rfl
theorem Try.bAct : Try.prog.bytesOf 43 = 32 := by kernel_rfl

/-- acts, opened. -/
theorem open_acts {H : Type} {enc : TypeId × Value → H} {W : World} {fuel : Nat} {v : Value} {x : DataW H × List MemPlace} (h : DataW.trod enc Try.prog W 0 (fun _ => true) true fuel 32 [v] = some x) (hw : ∀ n ∈ x.1.weights Try.prog 32, n ≤ reachBytes) :
    ∃ A C ops, v = .slice A ops.length C ∧ OpsAt W (.slice A ops.length C) ops := by
  have hrb : reachBytes = 140737488351232 := rfl
  rcases open_slice Try.underlying32 h with ⟨hcs, rfl⟩ | ⟨a, len, cap, m, n, D, Pl, hcs, _, hl, hm, hmm, rfl, hx⟩
  · simp at hcs
    subst hcs
    exact ⟨none, 0, [], rfl, none, 0, rfl, by simp, fun hp => by simp at hp⟩
  · simp at hcs
    subst hcs
    simp only [if_true] at hmm
    subst hmm
    have hsz : m * 32 ≤ reachBytes := by
      refine hw _ ?_
      simp only [DataW.weights, Try.underlying32, List.mem_cons]
      refine .inl ?_
      rw [Try.bAct]
      simp
      omega
    obtain ⟨Z, hZ⟩ := choose_lt (α := Int × Int × Int × Int) (n := m) (p := fun i z => W.cell? (a.add (i * 4)) = some (.int .i64 z.1) ∧ W.cell? ((a.add (i * 4)).add 1) = some (.int .i64 z.2.1) ∧ W.cell? ((a.add (i * 4)).add 2) = some (.int .i64 z.2.2.1) ∧ W.cell? ((a.add (i * 4)).add 3) = some (.int .i64 z.2.2.2)) (fun i hi => by
      obtain ⟨cs', h1, h2⟩ := hx i hi
      rw [Try.cAct] at h1
      obtain ⟨_, _, hcl⟩ := World.cells?_some h1
      obtain ⟨v0, v1, v2, v3, y0, y1, y2, y3, k, rfl, _, g0, g1, g2, g3, _⟩ := trod_four Try.uAct Try.fAct Try.cAct Try.cellsInt Try.cellsInt Try.cellsInt Try.cellsInt h2
      obtain ⟨z0, e0, _⟩ := DataW.trod_int Try.underlying3 g0
      obtain ⟨z1, e1, _⟩ := DataW.trod_int Try.underlying3 g1
      obtain ⟨z2, e2, _⟩ := DataW.trod_int Try.underlying3 g2
      obtain ⟨z3, e3, _⟩ := DataW.trod_int Try.underlying3 g3
      simp only [List.cons.injEq, and_true] at e0 e1 e2 e3
      subst e0 e1 e2 e3
      have k0 := hcl 0 (by omega)
      rw [add_add, Nat.add_zero] at k0
      exact ⟨(z0, z1, z2, z3), k0, hcl 1 (by omega), hcl 2 (by omega), hcl 3 (by omega)⟩)
    have hln : ((List.range len).map fun i => (⟨(Z i).1, (Z i).2.1, (Z i).2.2.1, (Z i).2.2.2⟩ : OpF)).length = len := by simp
    refine ⟨some a, m, (List.range len).map fun i => ⟨(Z i).1, (Z i).2.1, (Z i).2.2.1, (Z i).2.2.2⟩, by rw [hln], some a, m, by rw [hln], by rw [hln]; omega, fun hp => ?_⟩
    rw [hln] at hp
    obtain ⟨b, o, sp⟩ := a
    have hs : sp = none := spot_none (by simpa using (hZ 0 (by omega)).1)
    subst hs
    refine ⟨b, o, rfl, ?_, fun i hi => ?_⟩
    · have := World.block_lt_of_cell? _ _ (hZ 0 (by omega)).1
      simpa [Addr.add] using this
    · rw [hln] at hi
      obtain ⟨k0, k1, k2, k3⟩ := hZ i (by omega)
      rw [plain_add] at k0 k1 k2 k3
      rw [plain_add] at k1 k2 k3
      simp only [List.getElem_map, List.getElem_range]
      exact ⟨k0, k1, k2, k3⟩

end Go.Proofs.Ytmndgoapkmhglab

/- Plain mathematics: the past ahead of an act. -/
namespace Go.Proofs.Ytmndgoapkmhglab
open Go.RowKit

theorem cnt_len (P : PastF) (pl : Int) : cntF P pl 1 + cntF P pl 2 ≤ P.length := by
  refine past_ind (p := fun P => cntF P pl 1 + cntF P pl 2 ≤ P.length) (by simp [cntF]) (fun P x ih => ?_) P
  rw [cntF_snoc, cntF_snoc, List.length_append]
  have : (if isD pl 1 x = true then 1 else 0) + (if isD pl 2 x = true then 1 else 0) ≤ 1 := by
    unfold isD
    by_cases h1 : x.2.did = 1
    · rw [h1]; simp; split <;> omega
    · by_cases h2 : x.2.did = 2
      · rw [h2]; simp; split <;> omega
      · simp [h1, h2]
  simp
  omega

section
variable (N : List LnF) (V : Int → Nat → List Int) (sc : List OpF)

/-- the past ahead of act i. -/
def pastI (i : Nat) : PastF := runG N V [] (sc.take i)
theorem past_succ {i : Nat} (hi : i < sc.length) : pastI N V sc (i + 1) = pastI N V sc i ++ [(sc[i], wakeF N V (pastI N V sc i) sc[i])] := by
  unfold pastI
  rw [List.take_succ_eq_append_getElem hi, run_app]
  rfl
theorem past_get {i : Nat} (hi : i < sc.length) : ((runG N V [] sc).map Prod.snd)[i]? = some (wakeF N V (pastI N V sc i) sc[i]) := by
  have e : runG N V [] sc = runG N V (pastI N V sc (i + 1)) (sc.drop (i + 1)) := by
    unfold pastI
    rw [← run_app, List.take_append_drop]
  obtain ⟨S, h1, _, _⟩ := run_ext N V (sc.drop (i + 1)) (pastI N V sc (i + 1))
  obtain ⟨S0, f1, f2, _⟩ := run_ext N V (sc.take i) []
  have hl : (pastI N V sc i).length = i := by
    unfold pastI
    rw [f1, List.nil_append, ← List.length_map (f := Prod.fst), f2, List.length_take]
    omega
  rw [e, h1, past_succ N V sc hi, List.map_append, List.map_append, List.append_assoc, List.getElem?_append_right (by rw [List.length_map, hl]; exact Nat.le_refl _), List.length_map, hl, Nat.sub_self]
  rfl
theorem past_len {i : Nat} (hi : i ≤ sc.length) : (pastI N V sc i).length = i := by
  obtain ⟨S0, f1, f2, _⟩ := run_ext N V (sc.take i) []
  unfold pastI
  rw [f1, List.nil_append, ← List.length_map (f := Prod.fst), f2, List.length_take]
  omega

variable {N} {sc}
theorem past_all (hA : Apart N) (hS : ActsOk sc) {i : Nat} (hi : i < sc.length) : PastOk N (pastI N V sc i) (sc[i]).a ∧ RunInv N (pastI N V sc i) := by
  have hg : (sc.take i).Pairwise (fun x y => x.a ≤ y.a ∧ (x.k = y.k → x.a + x.b < y.a ∧ x.a + x.c < y.a)) := List.Pairwise.sublist (List.take_sublist _ _) hS.gap
  have h := run_ind hA V (p := fun _ => True) (fun _ _ _ _ _ _ => trivial) (sc.take i) [] (fun x hx => hS.nn x (List.mem_of_mem_take hx)) (by simpa using hg) (fun t _ => past_start N t) (inv_start N) trivial
  refine ⟨h.2.2 _ (fun x hx => ?_), h.2.1⟩
  obtain ⟨S0, f1, f2, _⟩ := run_ext N V (sc.take i) []
  have hm : x.1 ∈ sc.take i := by rw [← f2, ← List.nil_append S0, ← f1]; exact List.mem_map.2 ⟨x, hx, rfl⟩
  obtain ⟨j, hj, e⟩ := List.getElem_of_mem hm
  rw [List.length_take] at hj
  rw [List.getElem_take] at e
  rw [← e]
  have hp := hS.gap
  rw [List.pairwise_iff_getElem] at hp
  exact (hp j i (by omega) hi (by omega)).1
end

end Go.Proofs.Ytmndgoapkmhglab

/- Plain mathematics: a script with another act in the place of one. -/
namespace Go.Proofs.Ytmndgoapkmhglab
open Go.RowKit

section
variable {sc : List OpF} {i : Nat} (hi : i < sc.length) (x : OpF)
include hi

theorem act_set (j : Nat) : actF (sc.set i x) j = if j = i then x else actF sc j := by
  unfold actF
  rw [List.getElem?_set]
  by_cases e : i = j
  · subst e; simp [hi]
  · rw [if_neg e, if_neg (Ne.symm e)]
theorem act_set_k (hk : x.k = (actF sc i).k) (j : Nat) : (actF (sc.set i x) j).k = (actF sc j).k := by
  rw [act_set hi]
  by_cases e : j = i
  · rw [if_pos e, e, hk]
  · rw [if_neg e]
theorem act_set_a (ha : x.a = (actF sc i).a) (j : Nat) : (actF (sc.set i x) j).a = (actF sc j).a := by
  rw [act_set hi]
  by_cases e : j = i
  · rw [if_pos e, e, ha]
  · rw [if_neg e]
theorem later_set (hk : x.k = (actF sc i).k) (j : Nat) : ∀ f k, laterG (sc.set i x) j f k = laterG sc j f k := by
  intro f
  induction f with
  | zero => intro k; rfl
  | succ f ih => intro k; unfold laterG; rw [act_set_k hi x hk, act_set_k hi x hk, ih]
theorem next_set (hk : x.k = (actF sc i).k) (ha : x.a = (actF sc i).a) (j : Nat) : nextF (sc.set i x) j = nextF sc j := by
  have e : laterF (sc.set i x) j = laterF sc j := by unfold laterF; rw [List.length_set]; exact later_set hi x hk j _ _
  unfold nextF
  rw [e, act_set_a hi x ha, act_set_a hi x ha]
theorem back_set (ha : x.a = (actF sc i).a) (j : Nat) : backA (sc.set i x) j = backA sc j := by
  cases j with
  | zero => rfl
  | succ j =>
    show decide ((actF (sc.set i x) (j + 1)).a < (actF (sc.set i x) j).a) = decide ((actF sc (j + 1)).a < (actF sc j).a)
    rw [act_set_a hi x ha, act_set_a hi x ha]
end

theorem playK_iff (ws : List Nat) (sc : List OpF) : playK ws sc = true ↔ sc.length ≤ 400 ∧ ∀ i, i < sc.length → badK ws sc i = false := by
  unfold playK
  rw [Bool.and_eq_true, decide_eq_true_iff, List.all_eq_true]
  refine and_congr Iff.rfl ⟨fun h i hi => ?_, fun h i hi => ?_⟩
  · have := h i (List.mem_range.2 hi); rwa [Bool.not_eq_true'] at this
  · rw [Bool.not_eq_true']; exact h i (List.mem_range.1 hi)

/-- of a script that is played: the time to the place's next act. -/
theorem next_gap {ws : List Nat} {sc : List OpF} (h : playK ws sc = true) {i : Nat} (hi : i < sc.length) (hg : 0 ≤ nextF sc i) : 1 ≤ nextF sc i ∧ nextF sc i ≤ 1099511627776 := by
  obtain ⟨_, hb⟩ := (playK_iff ws sc).1 h
  obtain ⟨_, a1, b1, _, _, h6⟩ := (badK_iff ws sc i).1 (hb i hi)
  have h7 := h6 hg
  refine ⟨by omega, ?_⟩
  unfold nextF at hg ⊢
  split at hg
  · omega
  · rename_i hn
    obtain ⟨m, e, g1, g2⟩ := later_nat sc hi (by omega)
    rw [if_neg hn, e, Int.toNat_natCast]
    have a2 := ((badK_iff ws sc m).1 (hb m g2)).2.1
    rw [IntKind.wrap_i64]; omega

/-- a delay one less than that time is played. -/
theorem set_played {ws : List Nat} {sc : List OpF} (h : playK ws sc = true) {i : Nat} (hi : i < sc.length) (hg : 0 ≤ nextF sc i) : playK ws (sc.set i ⟨(actF sc i).k, (actF sc i).a, nextF sc i - 1, nextF sc i - 1⟩) = true := by
  obtain ⟨h1, h2⟩ := next_gap h hi hg
  obtain ⟨hl, hb⟩ := (playK_iff ws sc).1 h
  rw [playK_iff, List.length_set]
  refine ⟨hl, fun j hj => ?_⟩
  obtain ⟨g1, g2, g3, g4, g5, g6⟩ := (badK_iff ws sc j).1 (hb j hj)
  obtain ⟨x, hx⟩ : ∃ x : OpF, x = ⟨(actF sc i).k, (actF sc i).a, nextF sc i - 1, nextF sc i - 1⟩ := ⟨_, rfl⟩
  have xk : x.k = (actF sc i).k := by rw [hx]
  have xa : x.a = (actF sc i).a := by rw [hx]
  have xb : x.b = nextF sc i - 1 := by rw [hx]
  have xc : x.c = nextF sc i - 1 := by rw [hx]
  rw [← hx, badK_iff, act_set_k hi x xk, act_set_a hi x xa, back_set hi x xa, next_set hi x xk xa, act_set hi]
  by_cases e : j = i
  · subst e
    rw [if_pos rfl]
    rw [xb, xc]
    exact ⟨g1, g2, ⟨by omega, by omega⟩, ⟨by omega, by omega⟩, g5, fun _ => ⟨by omega, by omega⟩⟩
  · rw [if_neg e]
    exact ⟨g1, g2, g3, g4, g5, g6⟩

/-- an act that spoils its script. -/
def spoils (ws : List Nat) (sc : List OpF) (i : Nat) (x : OpF) : Prop :=
  x.b < 0 ∨ x.c < 0 ∨ 1099511627776 < x.b ∨ 1099511627776 < x.c ∨ x.a < 0 ∨ 1099511627776 < x.a ∨ hereK ws x.k = false ∨ (∃ j, i = j + 1 ∧ x.a < (actF sc j).a) ∨ (x.k = (actF sc i).k ∧ x.a = (actF sc i).a ∧ 0 ≤ nextF sc i ∧ (nextF sc i ≤ x.b ∨ nextF sc i ≤ x.c))
theorem set_refused {ws : List Nat} {sc : List OpF} {i : Nat} (hi : i < sc.length) {x : OpF} (hx : spoils ws sc i x) : playK ws (sc.set i x) = false := by
  rw [Bool.eq_false_iff]
  intro h
  obtain ⟨_, hb⟩ := (playK_iff _ _).1 h
  obtain ⟨g1, g2, g3, g4, g5, g6⟩ := (badK_iff ws _ i).1 (hb i (by rw [List.length_set]; exact hi))
  have e : actF (sc.set i x) i = x := by rw [act_set hi, if_pos rfl]
  rw [e] at g1 g2 g3 g4 g6
  rcases hx with hx | hx | hx | hx | hx | hx | hx | ⟨j, rfl, hx⟩ | ⟨hk, ha, hg, hx⟩
  · omega
  · omega
  · omega
  · omega
  · omega
  · omega
  · rw [hx] at g1; cases g1
  · have := (back_iff _ _).1 g5 j rfl
    rw [e, act_set hi, if_neg (by omega)] at this
    omega
  · rw [next_set hi x hk ha] at g6
    have := g6 hg
    omega

theorem here_far (ws : List Nat) (hw : ∀ p ∈ ws, p < 4) (k : Int) (hk : k < 0 ∨ 4 ≤ k) : hereK ws k = false := by
  unfold hereK
  rw [List.any_eq_false]
  intro p hp
  have := hw p hp
  simp only [beq_iff_eq]
  omega

end Go.Proofs.Ytmndgoapkmhglab
