import Derived.Laws.CopyOwn
import Derived.Laws.Cover3
import Derived.Test.YtmndgoapkmhglaaA29GoodT
import Derived.Test.YtmndgoapkmhglaaA32HeldT
import Derived.Test.YtmndgoapkmhglaaA40RunX
import Derived.Test.YtmndgoapkmhglaaA44WkE
/- an argument that is bounds, opened. -/
namespace Go.Proofs.Ytmndgoapkmhglaa
open Go.ChangeShapes Go.WideShapes Go.RowKit Go.Deep

theorem Try.uBounds : Try.prog.underlying 73 = some (.struct (Try.prog.fieldsOf 73)) := by kernel_rfl
theorem Try.fBounds : (Try.prog.fieldsOf 73).toList.map (fun f => (f.type, f.offset)) = [(3, 0), (3, 1), (3, 2), (3, 3)] := by kernel_rfl
theorem Try.cBounds : Try.prog.cellsOf 73 = 4 := by kernel_rfl

theorem open_bounds {H : Type} {enc : TypeId × Value → H} {W : World} {cs : Array Value} {d : DataW H} {ps : List MemPlace} (h : DataW.Trod enc Try.prog W 0 (fun _ => true) true 73 (.agg cs) d ps) : ∃ b : BdF, cs = #[.int .i64 b.tmin, .int .i64 b.tmax, .int .i64 b.dmin, .int .i64 b.dmax] := by
  obtain ⟨fuel, hf⟩ := h
  obtain ⟨v0, v1, v2, v3, y0, y1, y2, y3, k, hcs, _, g0, g1, g2, g3, _⟩ := trod_four Try.uBounds Try.fBounds Try.cBounds Try.cellsInt Try.cellsInt Try.cellsInt Try.cellsInt hf
  obtain ⟨z0, e0, _⟩ := DataW.trod_int Try.underlying3 g0
  obtain ⟨z1, e1, _⟩ := DataW.trod_int Try.underlying3 g1
  obtain ⟨z2, e2, _⟩ := DataW.trod_int Try.underlying3 g2
  obtain ⟨z3, e3, _⟩ := DataW.trod_int Try.underlying3 g3
  simp only [List.cons.injEq, and_true] at e0 e1 e2 e3
  subst e0 e1 e2 e3
  refine ⟨⟨z0, z1, z2, z3⟩, ?_⟩
  have : (Value.agg cs).cells = cs := rfl
  rw [this] at hcs
  cases cs
  simp_all

end Go.Proofs.Ytmndgoapkmhglaa

/- the statements' own helpers: roomy, whole. -/
namespace Go.Proofs.Ytmndgoapkmhglaa
open Go.RowKit
attribute [local go_sem ↓] Go.wp_at_zero Go.wp_at_succ


/-- a list with a mark in its spare room; nil stays nil. -/
def RoomV (w : World) (B : Nat) (A : Option Addr) (xs : List Int) (v : Value) : Prop :=
  (A = none ∧ v = .slice none 0 0) ∨ (A ≠ none ∧ ∃ G, B ≤ G ∧ v = .slice (some ⟨G, 0, none⟩) xs.length (xs.length + 1) ∧ w.heap[G]? = some (.cells (iCells (xs ++ [-77])).toArray 3))

theorem RoomV.below {w w' : World} {B : Nat} {A : Option Addr} {xs : List Int} {v : Value} (h : RoomV w B A xs v) (hb : Below w.heap.size w w') : RoomV w' B A xs v := by
  rcases h with h | ⟨h1, G, h2, h3, h4⟩
  · exact .inl h
  · exact .inr ⟨h1, G, h2, h3, (hb.block G (Array.getElem?_eq_some_iff.1 h4).1).trans h4⟩
theorem RoomV.keep {w w' : World} {B : Nat} {A : Option Addr} {xs : List Int} {v : Value} (h : RoomV w B A xs v) {N : Nat} (hl : w.heap.size ≤ N) (hb : Below N w w') : RoomV w' B A xs v := h.below (hb.mono hl)
theorem RoomV.row {w : World} {B : Nat} {A : Option Addr} {xs : List Int} {v : Value} (h : RoomV w B A xs v) (h0 : A = none → xs = []) (hm : xs.length ≤ 35184372088832) : RowAt w v xs := by
  rcases h with ⟨h1, rfl⟩ | ⟨h1, G, h2, rfl, h4⟩
  · rw [h0 h1]; exact ⟨none, 0, rfl, by simp, fun hp => by simp at hp⟩
  · refine ⟨_, _, rfl, hm, fun hp => ⟨G, 0, rfl, (Array.getElem?_eq_some_iff.1 h4).1, fun c hc => ?_⟩⟩
    rw [cell_of_row w G _ _ _ _ h4]
    simp [iCells, List.getElem?_append, hc]

theorem eql_nil {P : Program} (t e : TypeId) (h : P.underlying t = some (.slice e)) (w : World) (a : Option Addr) (l c : Nat) : (binOp .eql t (.slice a l c) (.slice none 0 0)).run P w = .ok (.bool a.isNone) w := by
  simp only [binOp]
  simp [run_equal_slice_nil w t e a l c h]

theorem made_rep (z : Value) (n : Nat) : madeCells #[z] n = (List.replicate n z).toArray := by
  apply Array.ext
  · simp [madeCells]
  · intro i h1 h2
    simp [madeCells, Nat.mod_one]

set_option maxHeartbeats 2000000 in
set_option maxRecDepth 100000 in
theorem lroomy_any (w : World) (A : Option Addr) (C : Nat) (xs : List Int) (h : RowAt w (.slice A xs.length C) xs) (h0 : A = none → xs = []) (hn : xs.length ≤ 17592186044416) :
    Calls Try.prog 33 #[.slice A xs.length C] w fun e w' => ∃ v, e = .returned v ∧ RoomV w' w.heap.size A xs v ∧ Below w.heap.size w w' := by
  obtain ⟨A', C', he, hm, hc⟩ := h
  simp only [Value.slice.injEq, true_and] at he
  obtain ⟨rfl, rfl⟩ := he
  have hnil := eql_nil (P := Try.prog) 48 3 Try.underlying48
  cases A with
  | none =>
    have hx := h0 rfl
    subst hx
    clear hc h0
    go_enter Try.func33, Try.ntmps33
    go_wp2
    go_ret
    exact ⟨_, rfl, .inl ⟨rfl, rfl⟩, Below.refl _ _⟩
  | some a =>
    have hm2 := run_make_row' (P := Try.prog) 48 3 (.int .i64 0) 8 Try.underlying48 Try.infoInt rfl .i64 .i64 (xs.length + 1) (by omega) (by omega)
    simp only [show ((xs.length + 1 : Nat) : Int) = (xs.length : Int) + 1 from by omega] at hm2
    have hsz : (Try.prog.info? 3).map (·.size) = some 1 := by have := Try.infoInt; cases hq : Try.prog.info? 3 with | none => rw [hq] at this; cases this | some i => rw [hq] at this; simp at this; simp [this]
    obtain ⟨X, hX⟩ : ∃ X, X = iCells xs := ⟨_, rfl⟩
    have HX := hide hX
    have hXl : X.length = xs.length := by rw [hX]; exact iCells_len xs
    have hpos : 0 < X.length → ∃ ad, (some a : Option Addr) = some ad ∧ ∀ o j v, X[j]? = some v → (w.alloc o).cell? (ad.add j) = some v := fun hp => by
      obtain ⟨b, o, h1, h2, h3⟩ := hc (by omega)
      refine ⟨⟨b, o, none⟩, h1, fun oo j v hv => ?_⟩
      rw [hX, iCells_get] at hv
      obtain ⟨x, hx, rfl⟩ := Option.map_eq_some_iff.1 hv
      obtain ⟨hj, rfl⟩ := List.getElem?_eq_some_iff.1 hx
      rw [Addr.add_lit, World.cell?_alloc_past _ _ _ h2]
      exact h3 j hj
    have hone : ∀ v ∈ X, v.oneCell' = true := fun v hv => by
      rw [hX] at hv
      obtain ⟨x, _, rfl⟩ := List.mem_map.1 hv
      rfl
    obtain ⟨Z, hZ⟩ : ∃ Z, Z = List.replicate (xs.length + 1) (Value.int .i64 0) := ⟨_, rfl⟩
    have hZb : (w.alloc (.cells (madeCells #[.int .i64 0] (xs.length + 1)) 3)).heap[w.heap.size]? = some (.cells Z.toArray 3 (0, 0)) := by
      rw [heap_alloc_new, hZ, made_rep]
    have hZl : Z.length = xs.length + 1 := by rw [hZ]; simp
    have HZ := hide hZ
    have HB0 := hide ((Below.refl w.heap.size w).alloc (Nat.le_refl _) (.cells (madeCells #[.int .i64 0] (xs.length + 1)) 3))
    obtain ⟨w1, hcp, hg1, hb1⟩ : ∃ w1, (Builtin.copy_ #[48, 48] 3 #[.slice (some ⟨w.heap.size, 0, none⟩) (xs.length + 1) (xs.length + 1), .slice (some a) xs.length C]).run Try.prog (w.alloc (.cells (madeCells #[.int .i64 0] (xs.length + 1)) 3)) = .ok (goInt xs.length) w1 ∧
        w1.heap[w.heap.size]? = some (.cells (iCells (xs ++ [0])).toArray 3 (0, 0)) ∧ Below w.heap.size w w1 := by
      have hmin : X.length = Nat.min xs.length (xs.length + 1) := by rw [hXl]; exact (Nat.min_eq_left (by omega)).symm
      rcases Nat.eq_zero_or_pos xs.length with hz | hp
      · refine ⟨w.alloc (.cells (madeCells #[.int .i64 0] (xs.length + 1)) 3), ?_, hZb.trans ?_, HB0.out⟩
        · have := run_copy_none (P := Try.prog) (w.alloc (.cells (madeCells #[.int .i64 0] (xs.length + 1)) 3)) 48 48 3 3 (some ⟨w.heap.size, 0, none⟩) (some a) (xs.length + 1) (xs.length + 1) xs.length C Try.underlying48 hsz (by rw [← hmin, hXl]; exact hz)
          rw [this]; simp [hz]
        · rw [hZ, hz, List.eq_nil_of_length_eq_zero hz]; rfl
      · obtain ⟨ad, had, hsrc⟩ := hpos (by omega)
        cases had
        have hr := run_copy_row (P := Try.prog) (w.alloc (.cells (madeCells #[.int .i64 0] (xs.length + 1)) 3)) 48 48 3 3 w.heap.size 0 (xs.length + 1) (xs.length + 1) a xs.length C Z.toArray 3 X Try.underlying48 hsz hZb hmin (hsrc _) (by simp; omega) hone
        rw [hXl] at hr
        refine ⟨_, hr, ?_, below_setRow HB0.out (Nat.le_refl _) _⟩
        rw [setRow_heap _ _ _ _ _ _ hZb]
        congr 2
        rw [hZ, hX]
        simp [iCells, List.replicate_succ']
    have HG1 := hide hg1
    have HB1 := hide hb1
    have k1 : w1.cell? ⟨w.heap.size, xs.length, none⟩ = some (.int .i64 0) := by
      rw [cell_of_row w1 _ _ _ _ _ hg1]
      simp [iCells]
    have k2 : w1.frozen? ⟨w.heap.size, xs.length, none⟩ = false := frozen_of_row w1 _ _ _ _ hg1
    have k3 : (xs.length : Int) < (xs.length : Int) + 1 := by omega
    have k4 : (0 : Int) ≤ (xs.length : Int) := by omega
    have HFIN : Hid ((w1.setCell ⟨w.heap.size, xs.length, none⟩ (.int .i64 (-77))).heap[w.heap.size]? = some (.cells (iCells (xs ++ [-77])).toArray 3)) := hide (by
      rw [heap_setCell_same w1 _ _ _ _ _ hg1]
      congr 2
      simp [iCells])
    clear hc h0 hX hZ hpos hone hZb hsz hXl hZl hg1 hb1
    go_enter Try.func33, Try.ntmps33
    go_wp2
    go_ret
    exact ⟨_, rfl, .inr ⟨by simp, w.heap.size, Nat.le_refl _, rfl, HFIN.out⟩, HB1.out.setCell (Nat.le_refl _) _⟩

end Go.Proofs.Ytmndgoapkmhglaa

/- whole. -/
namespace Go.Proofs.Ytmndgoapkmhglaa
open Go.RowKit
attribute [local go_sem ↓] Go.wp_at_zero Go.wp_at_succ

/-- what becomes of a list that is handed over: does it still read as it did? -/
theorem lwhole_any (w : World) (B : Nat) (A : Option Addr) (C : Nat) (xs : List Int) (v : Value) (hv : RoomV w B A xs v) (h : RowAt w (.slice A xs.length C) xs) (h0 : A = none → xs = []) (hn : xs.length ≤ 17592186044416) :
    Calls Try.prog 40 #[v, .slice A xs.length C] w fun e w' => e = .returned (.bool true) ∧ Below w.heap.size w w' := by
  have hnil := eql_nil (P := Try.prog) 48 3 Try.underlying48
  have hrow := hv.row h0 (by omega)
  have HS := hide (lsame_any w v (.slice A xs.length C) xs xs hrow h)
  rcases hv with ⟨rfl, rfl⟩ | ⟨hA, G, hG, rfl, hb⟩
  · clear HS hrow h
    have hx := h0 rfl
    subst hx
    go_enter Try.func40, Try.ntmps40
    go_wp2
    go_ret
    exact ⟨rfl, Below.refl _ _⟩
  · have k1 : ∀ w', Below w.heap.size w w' → w'.cell? ⟨G, xs.length, none⟩ = some (.int .i64 (-77)) := fun w' hb' => by
      rw [hb'.cell (p := ⟨G, xs.length, none⟩) (Array.getElem?_eq_some_iff.1 hb).1, cell_of_row w _ _ _ _ _ hb]
      simp [iCells]
    have HK := hide k1
    have k3 : (xs.length : Int) < (xs.length : Int) + 1 := by omega
    have k4 : (0 : Int) ≤ (xs.length : Int) := by omega
    have HE : Hid ((xs == xs) = true) := hide (by simp)
    clear k1 hrow h h0 hA hb
    go_enter Try.func40, Try.ntmps40
    go_wp2_with fail
    refine HS.out.mono ?_
    rintro e w1 ⟨rfl, hb1⟩
    rw [HE.out]
    have k1 := HK.out w1 hb1
    go_wp2
    go_ret
    exact ⟨rfl, hb1⟩

end Go.Proofs.Ytmndgoapkmhglaa

/- Plain mathematics: playable, by the places of a text. -/
namespace Go.Proofs.Ytmndgoapkmhglaa
open Go.RowKit

def nextF (sc : List OpF) (i : Nat) : Int := if laterF sc i < 0 then -1 else IntKind.i64.wrap ((actF sc (laterF sc i).toNat).a - (actF sc i).a)
def hereK (ws : List Nat) (q : Int) : Bool := ws.any fun p => ((p : Nat) : Int) == q
def badK (ws : List Nat) (sc : List OpF) (i : Nat) : Bool :=
  !hereK ws (actF sc i).k || decide ((actF sc i).a < 0) || decide (1099511627776 < (actF sc i).a) || decide ((actF sc i).b < 0) || decide (1099511627776 < (actF sc i).b) || decide ((actF sc i).c < 0) || decide (1099511627776 < (actF sc i).c) || backA sc i ||
  (decide (0 ≤ nextF sc i) && (decide (nextF sc i ≤ (actF sc i).b) || decide (nextF sc i ≤ (actF sc i).c)))
def playK (ws : List Nat) (sc : List OpF) : Bool := decide (sc.length ≤ 400) && (List.range sc.length).all fun i => !badK ws sc i

theorem atR_here (ts : List Tk) (L : List Dl) (q : Int) : atR ts L q ≠ [] ↔ hereK (plR ts L) q = true := by
  unfold hereK plR
  rw [List.any_map, List.any_eq_true]
  constructor
  · intro h
    cases hc : atR ts L q with
    | nil => exact absurd hc h
    | cons i r =>
      have hi : i ∈ atR ts L q := by rw [hc]; simp
      unfold atR atG at hi
      rw [List.mem_filter] at hi
      cases hx : (eqL L)[i]? with
      | none => rw [hx] at hi; simp at hi
      | some x =>
        rw [hx] at hi
        exact ⟨x, List.mem_of_getElem? hx, by simpa using hi.2⟩
  · rintro ⟨x, hx, he⟩ hn
    obtain ⟨i, hi, rfl⟩ := List.getElem_of_mem hx
    have : i ∈ atR ts L q := by
      unfold atR atG
      rw [List.mem_filter, List.mem_range]
      refine ⟨hi, ?_⟩
      rw [List.getElem?_eq_getElem hi]
      simpa using he
    rw [hn] at this
    simp at this

theorem badK_iff (ws : List Nat) (sc : List OpF) (i : Nat) : badK ws sc i = false ↔ hereK ws (actF sc i).k = true ∧ (0 ≤ (actF sc i).a ∧ (actF sc i).a ≤ 1099511627776) ∧ (0 ≤ (actF sc i).b ∧ (actF sc i).b ≤ 1099511627776) ∧ (0 ≤ (actF sc i).c ∧ (actF sc i).c ≤ 1099511627776) ∧ backA sc i = false ∧ (0 ≤ nextF sc i → (actF sc i).b < nextF sc i ∧ (actF sc i).c < nextF sc i) := by
  unfold badK
  simp only [Bool.or_eq_false_iff, Bool.and_eq_false_iff, decide_eq_false_iff_not, Bool.not_eq_false']
  constructor
  · rintro ⟨⟨⟨⟨⟨⟨⟨⟨h1, h2⟩, h3⟩, h4⟩, h5⟩, h6⟩, h7⟩, h8⟩, h9⟩
    exact ⟨h1, ⟨by omega, by omega⟩, ⟨by omega, by omega⟩, ⟨by omega, by omega⟩, h8, fun h => by omega⟩
  · rintro ⟨h1, h2, h3, h4, h5, h6⟩
    refine ⟨⟨⟨⟨⟨⟨⟨⟨h1, by omega⟩, by omega⟩, by omega⟩, by omega⟩, by omega⟩, by omega⟩, h5⟩, ?_⟩
    by_cases h : 0 ≤ nextF sc i
    · have := h6 h; exact .inr ⟨by omega, by omega⟩
    · exact .inl h

theorem back_iff (sc : List OpF) (i : Nat) : backA sc i = false ↔ ∀ j, i = j + 1 → (actF sc j).a ≤ (actF sc i).a := by
  cases i with
  | zero => exact ⟨fun _ j e => by omega, fun _ => rfl⟩
  | succ i =>
    unfold backA
    rw [decide_eq_false_iff_not]
    exact ⟨fun h j e => by have : j = i := by omega
                           subst this; omega, fun h => by have := h i rfl; omega⟩

theorem playK_eq (ts : List Tk) (L : List Dl) (sc : List OpF) : playK (plR ts L) sc = playF ts L sc := by
  rw [Bool.eq_iff_iff, play_iff]
  unfold playK
  rw [Bool.and_eq_true, decide_eq_true_iff, List.all_eq_true]
  refine and_congr Iff.rfl ⟨fun h => ?_, fun h i hi => ?_⟩
  · have hk : ∀ i, i < sc.length → badK (plR ts L) sc i = false := fun i hi => by
      have := h i (List.mem_range.2 hi); rwa [Bool.not_eq_true'] at this
    have hmono : ∀ (i j : Nat), i ≤ j → j < sc.length → (actF sc i).a ≤ (actF sc j).a := by
      intro i j hij
      induction j with
      | zero => intro _; have : i = 0 := by omega
                subst this; exact Int.le_refl _
      | succ j ih =>
        intro hj
        rcases Nat.eq_or_lt_of_le hij with rfl | h'
        · exact Int.le_refl _
        · have h1 := ih (by omega) (by omega)
          have h2 := (back_iff sc (j + 1)).1 ((badK_iff _ _ _).1 (hk (j + 1) hj)).2.2.2.2.1 j rfl
          omega
    intro i hi
    obtain ⟨h1, h2, h3, h4, h5, h6⟩ := (badK_iff _ _ _).1 (hk i hi)
    refine ⟨(atR_here ts L _).2 h1, h2, h3, h4, (back_iff sc i).1 h5, ?_⟩
    unfold overA
    by_cases hl : 0 ≤ laterF sc i
    · obtain ⟨m, e, g1, g2⟩ := later_nat sc hi hl
      have hm := ((badK_iff _ _ _).1 (hk m g2)).2.1
      have hmo := hmono i m (by omega) g2
      have hw : IntKind.i64.wrap ((actF sc m).a - (actF sc i).a) = (actF sc m).a - (actF sc i).a := by rw [IntKind.wrap_i64]; omega
      have hn : nextF sc i = (actF sc m).a - (actF sc i).a := by unfold nextF; rw [if_neg (by omega), e, Int.toNat_natCast, hw]
      have := h6 (by omega)
      rw [e, Int.toNat_natCast, hw]
      simp only [Bool.and_eq_false_iff, Bool.or_eq_false_iff, decide_eq_false_iff_not]
      exact .inr ⟨by omega, by omega⟩
    · rw [decide_eq_false hl, Bool.false_and]
  · rw [Bool.not_eq_true', badK_iff]
    have hi' := List.mem_range.1 hi
    have ha := h i hi'
    refine ⟨(atR_here ts L _).1 ha.here, ha.a0, ha.b0, ha.c0, (back_iff sc i).2 ha.back, fun hn => ?_⟩
    by_cases hl : laterF sc i < 0
    · unfold nextF at hn; rw [if_pos hl] at hn; omega
    · obtain ⟨m, e, g1, g2⟩ := later_nat sc hi' (by omega)
      have hov := ha.over
      unfold overA at hov
      have hd : decide (0 ≤ laterF sc i) = true := by simp; omega
      rw [hd, Bool.true_and, Bool.or_eq_false_iff, decide_eq_false_iff_not, decide_eq_false_iff_not] at hov
      unfold nextF
      rw [if_neg hl]
      omega

end Go.Proofs.Ytmndgoapkmhglaa

/- Plain mathematics: playable, and kept to bounds, as the program tells it: by the act of the place ahead. -/
namespace Go.Proofs.Ytmndgoapkmhglaa
open Go.RowKit

/-- the last of the first k acts that is of the place of act i. -/
def aheadG (sc : List OpF) (i : Nat) : Nat → Option Nat
  | 0 => none
  | k + 1 => if (actF sc k).k = (actF sc i).k then some k else aheadG sc i k
def aheadP (sc : List OpF) (i : Nat) : Option Nat := aheadG sc i i
theorem aheadG_some {sc : List OpF} {i : Nat} : ∀ {k m : Nat}, aheadG sc i k = some m → m < k ∧ (actF sc m).k = (actF sc i).k ∧ ∀ t, m < t → t < k → (actF sc t).k ≠ (actF sc i).k := by
  intro k
  induction k with
  | zero => intro m h; cases h
  | succ k ih =>
    intro m h
    unfold aheadG at h
    split at h
    · rename_i hk
      cases h
      exact ⟨Nat.lt_succ_self _, hk, fun t h1 h2 => by omega⟩
    · rename_i hk
      obtain ⟨h1, h2, h3⟩ := ih h
      refine ⟨by omega, h2, fun t g1 g2 => ?_⟩
      rcases Nat.lt_succ_iff_lt_or_eq.1 g2 with h' | rfl
      · exact h3 t g1 h'
      · exact hk
theorem aheadG_none {sc : List OpF} {i : Nat} : ∀ {k : Nat}, aheadG sc i k = none → ∀ t, t < k → (actF sc t).k ≠ (actF sc i).k := by
  intro k
  induction k with
  | zero => intro _ t ht; omega
  | succ k ih =>
    intro h t ht
    unfold aheadG at h
    split at h
    · cases h
    · rename_i hk
      rcases Nat.lt_succ_iff_lt_or_eq.1 ht with h' | rfl
      · exact ih h t h'
      · exact hk

theorem laterG_is (sc : List OpF) (i : Nat) : ∀ (f k m : Nat), laterG sc i f k = (m : Int) → k ≤ m ∧ m < k + f ∧ (actF sc m).k = (actF sc i).k ∧ ∀ t, k ≤ t → t < m → (actF sc t).k ≠ (actF sc i).k := by
  intro f
  induction f with
  | zero => intro k m h; unfold laterG at h; omega
  | succ f ih =>
    intro k m h
    unfold laterG at h
    split at h
    · rename_i hk
      have : k = m := by omega
      subst this
      exact ⟨Nat.le_refl _, by omega, hk, fun t h1 h2 => by omega⟩
    · rename_i hk
      obtain ⟨h1, h2, h3, h4⟩ := ih (k + 1) m h
      refine ⟨by omega, by omega, h3, fun t g1 g2 => ?_⟩
      rcases Nat.eq_or_lt_of_le g1 with rfl | h'
      · exact hk
      · exact h4 t h' g2
theorem later_is {sc : List OpF} {i m : Nat} (hi : i < sc.length) (h : laterF sc i = (m : Int)) : i < m ∧ m < sc.length ∧ (actF sc m).k = (actF sc i).k ∧ ∀ t, i < t → t < m → (actF sc t).k ≠ (actF sc i).k := by
  obtain ⟨h1, h2, h3, h4⟩ := laterG_is sc i _ _ m h
  exact ⟨by omega, by omega, h3, fun t g1 g2 => h4 t (by omega) g2⟩

/-- the act ahead and the act behind. -/
theorem ahead_later {sc : List OpF} {i j : Nat} (hj : j < sc.length) : (aheadP sc j = some i) ↔ i < j ∧ laterF sc i = (j : Int) := by
  constructor
  · intro h
    obtain ⟨h1, h2, h3⟩ := aheadG_some h
    refine ⟨h1, ?_⟩
    obtain ⟨m, e, g1, g2, g3⟩ := later_hit sc i (sc.length - (i + 1)) (i + 1) j (by omega) (by omega) h2.symm
    have hm : m = j := by
      rcases Nat.eq_or_lt_of_le g2 with h' | h'
      · exact h'
      · exact absurd (g3.trans h2) (h3 m (by omega) h')
    subst hm
    exact e
  · rintro ⟨hij, h⟩
    obtain ⟨_, _, h3, h4⟩ := later_is (by omega) h
    cases hc : aheadP sc j with
    | none => exact absurd h3.symm (aheadG_none hc i hij)
    | some k =>
      obtain ⟨g1, g2, g3⟩ := aheadG_some hc
      rcases Nat.lt_trichotomy k i with h' | h' | h'
      · exact absurd h3.symm (g3 i h' hij)
      · rw [h']
      · exact absurd (g2.trans h3) (h4 k h' g1)
theorem ahead_first {sc : List OpF} {j : Nat} : aheadP sc j = none ↔ firstF sc j = true := by
  unfold firstF firstG
  rw [List.all_eq_true]
  constructor
  · intro h i hi
    rw [List.mem_range] at hi
    rw [bne_iff_ne]
    exact aheadG_none h i hi
  · intro h
    cases hc : aheadP sc j with
    | none => rfl
    | some k =>
      obtain ⟨g1, g2, _⟩ := aheadG_some hc
      have := h k (List.mem_range.2 g1)
      rw [bne_iff_ne] at this
      exact absurd g2 this

/-- the time of the act before. -/
def lastP (sc : List OpF) : Nat → Int
  | 0 => 0
  | i + 1 => (actF sc i).a
def inB (x l m : Int) : Bool := decide (l ≤ x) && decide (x ≤ m)
def bothB (o : OpF) (l m : Int) : Bool := inB o.b l m && inB o.c l m
theorem inB_iff (x l m : Int) : inB x l m = true ↔ l ≤ x ∧ x ≤ m := by simp [inB]
theorem bothB_iff (o : OpF) (l m : Int) : bothB o l m = true ↔ (l ≤ o.b ∧ o.b ≤ m) ∧ (l ≤ o.c ∧ o.c ≤ m) := by simp [bothB, inB]
def okA (ws : List Nat) (sc : List OpF) (i : Nat) : Bool := hereK ws (actF sc i).k && inB (actF sc i).a (lastP sc i) 1099511627776 && bothB (actF sc i) 0 1099511627776
def apartA (sc : List OpF) (i : Nat) : Bool := match aheadP sc i with
  | none => true
  | some k => bothB (actF sc k) 0 ((actF sc i).a - (actF sc k).a - 1)
def playP (ws : List Nat) (sc : List OpF) : Bool := decide (sc.length ≤ 400) && (List.range sc.length).all (okA ws sc) && (List.range sc.length).all (apartA sc)
def keepA (b : BdF) (sc : List OpF) (i : Nat) : Bool := bothB (actF sc i) b.dmin b.dmax && match aheadP sc i with
  | none => decide ((actF sc i).a ≤ b.tmax)
  | some k => inB ((actF sc i).a - (actF sc k).a) b.tmin b.tmax
def keepP (b : BdF) (sc : List OpF) : Bool := (List.range sc.length).all (keepA b sc)

theorem all_iff {n : Nat} {p : Nat → Bool} : (List.range n).all p = true ↔ ∀ i, i < n → p i = true := by
  rw [List.all_eq_true]
  exact ⟨fun h i hi => h i (List.mem_range.2 hi), fun h i hi => h i (List.mem_range.1 hi)⟩
theorem ok_time {ws : List Nat} {sc : List OpF} {n : Nat} (h : ∀ i, i < n → okA ws sc i = true) : ∀ i, i < n → 0 ≤ (actF sc i).a ∧ (actF sc i).a ≤ 1099511627776 := by
  intro i
  induction i with
  | zero =>
    intro hi
    have := h 0 hi
    unfold okA at this
    rw [Bool.and_eq_true, Bool.and_eq_true, inB_iff] at this
    exact this.1.2
  | succ i ih =>
    intro hi
    have := h (i + 1) hi
    unfold okA at this
    rw [Bool.and_eq_true, Bool.and_eq_true, inB_iff] at this
    have h1 : (actF sc i).a ≤ (actF sc (i + 1)).a := this.1.2.1
    have h2 := ih (by omega)
    exact ⟨by omega, this.1.2.2⟩

theorem playP_eq (ws : List Nat) (sc : List OpF) : playP ws sc = playK ws sc := by
  rw [Bool.eq_iff_iff]
  unfold playP playK
  rw [Bool.and_eq_true, Bool.and_eq_true, Bool.and_eq_true, decide_eq_true_iff, and_assoc]
  refine and_congr Iff.rfl ?_
  rw [all_iff, all_iff, all_iff]
  constructor
  · rintro ⟨h1, h2⟩ i hi
    have ht := ok_time h1
    rw [Bool.not_eq_true', badK_iff]
    have h3 := h1 i hi
    unfold okA at h3
    rw [Bool.and_eq_true, Bool.and_eq_true, inB_iff, bothB_iff] at h3
    refine ⟨h3.1.1, ht i hi, h3.2.1, h3.2.2, (back_iff sc i).2 fun j e => ?_, fun h => ?_⟩
    · subst e; exact h3.1.2.1
    · unfold nextF at h ⊢
      split at h
      · omega
      · rename_i hn
        obtain ⟨m, e, g1, g2⟩ := later_nat sc hi (by omega)
        rw [if_neg hn, e, Int.toNat_natCast]
        have h4 := h2 m g2
        unfold apartA at h4
        rw [(ahead_later g2).2 ⟨g1, e⟩] at h4
        simp only [bothB_iff] at h4
        have t1 := ht i hi
        have t2 := ht m g2
        rw [show IntKind.i64.wrap ((actF sc m).a - (actF sc i).a) = (actF sc m).a - (actF sc i).a by rw [IntKind.wrap_i64]; omega]
        omega
  · intro h
    have hk : ∀ i, i < sc.length → _ := fun i hi => (badK_iff ws sc i).1 (by have := h i hi; rwa [Bool.not_eq_true'] at this)
    refine ⟨fun i hi => ?_, fun i hi => ?_⟩
    · obtain ⟨g1, g2, g3, g4, g5, g6⟩ := hk i hi
      unfold okA
      rw [Bool.and_eq_true, Bool.and_eq_true, inB_iff, bothB_iff]
      refine ⟨⟨g1, ?_, g2.2⟩, g3, g4⟩
      cases i with
      | zero => exact g2.1
      | succ i => exact (back_iff sc (i + 1)).1 g5 i rfl
    · unfold apartA
      cases hc : aheadP sc i with
      | none => rfl
      | some k =>
        obtain ⟨g1, e⟩ := (ahead_later hi).1 hc
        obtain ⟨_, a1, b1, c1, _, h6⟩ := hk k (by omega)
        have a2 := (hk i hi).2.1
        have hm : (actF sc k).a ≤ (actF sc i).a := by
          have : ∀ d, k + d < sc.length → (actF sc k).a ≤ (actF sc (k + d)).a := by
            intro d
            induction d with
            | zero => intro _; exact Int.le_refl _
            | succ d ih =>
              intro hd
              have h7 := ih (by omega)
              have h8 := (back_iff sc (k + d + 1)).1 (hk (k + d + 1) hd).2.2.2.2.1 (k + d) rfl
              exact Int.le_trans h7 h8
          have h9 := this (i - k) (by omega)
          rwa [show k + (i - k) = i by omega] at h9
        have hw : IntKind.i64.wrap ((actF sc i).a - (actF sc k).a) = (actF sc i).a - (actF sc k).a := by rw [IntKind.wrap_i64]; omega
        have hx : nextF sc k = (actF sc i).a - (actF sc k).a := by
          unfold nextF
          rw [e, if_neg (by omega), Int.toNat_natCast, hw]
        rw [hx] at h6
        have h7 := h6 (by omega)
        simp only [bothB_iff]
        omega

theorem keepP_eq {ts : List Tk} {L : List Dl} {b : BdF} {sc : List OpF} (hP : ∀ i, i < sc.length → ActOk ts L sc i) : keepP b sc = true ↔ ∀ i, i < sc.length → badV b sc i = false := by
  have hw : ∀ i j, i < sc.length → j < sc.length → IntKind.i64.wrap ((actF sc j).a - (actF sc i).a) = (actF sc j).a - (actF sc i).a := fun i j hi hj => by
    have h1 := (hP i hi).a0
    have h2 := (hP j hj).a0
    rw [IntKind.wrap_i64]; omega
  unfold keepP
  rw [all_iff]
  constructor
  · intro h i hi
    rw [badV_iff b sc hi]
    have h1 := h i hi
    unfold keepA at h1
    rw [Bool.and_eq_true, bothB_iff] at h1
    refine ⟨fun hf => ?_, h1.1.1, h1.1.2, fun m e => ?_⟩
    · have h2 := h1.2
      rw [ahead_first.2 hf] at h2
      simpa using h2
    · obtain ⟨g1, g2, _⟩ := later_is hi e
      have h2 := h m g2
      unfold keepA at h2
      rw [Bool.and_eq_true, (ahead_later g2).2 ⟨g1, e⟩] at h2
      rw [hw i m hi g2]
      simpa only [inB_iff] using h2.2
  · intro h i hi
    have hv := fun j (hj : j < sc.length) => (badV_iff b sc hj).1 (h j hj)
    unfold keepA
    rw [Bool.and_eq_true, bothB_iff]
    refine ⟨⟨(hv i hi).ack, (hv i hi).data⟩, ?_⟩
    cases hc : aheadP sc i with
    | none => simpa using (hv i hi).first (ahead_first.1 hc)
    | some k =>
      obtain ⟨g1, e⟩ := (ahead_later hi).1 hc
      have := (hv k (by omega)).gap i e
      rw [hw k i (by omega) hi] at this
      simpa only [inB_iff] using this

end Go.Proofs.Ytmndgoapkmhglaa

/- which bounds fit: the document's own answer. -/
namespace Go.Proofs.Ytmndgoapkmhglaa
open Go.RowKit
attribute [local go_sem ↓] Go.wp_at_zero Go.wp_at_succ

set_option maxHeartbeats 1000000 in
theorem rfit_any (b : BdF) (w : World) :
    Calls Try.prog 64 #[b.val] w fun e w' => e = .returned (.bool (fitF b)) ∧ Below w.heap.size w w' := by
  obtain ⟨t0, t1, d0, d1⟩ := b
  by_cases h1 : t0 < 1
  · go_enter Try.func64, Try.ntmps64
    go_wp2
    go_ret
    exact ⟨by simp [fitF, h1], (Below.refl _ _).alloc (Nat.le_refl _) _⟩
  by_cases h2 : t1 < t0
  · have h2' : t0 > t1 := h2
    go_enter Try.func64, Try.ntmps64
    go_wp2
    go_ret
    exact ⟨by simp [fitF, h2], (Below.refl _ _).alloc (Nat.le_refl _) _⟩
  by_cases h3 : 1000000 < t1
  · have h3' : t1 > 1000000 := h3
    go_enter Try.func64, Try.ntmps64
    go_wp2
    go_ret
    exact ⟨by simp [fitF, h3], (Below.refl _ _).alloc (Nat.le_refl _) _⟩
  by_cases h4 : 0 ≤ d0
  · by_cases h5 : d0 ≤ d1
    · go_enter Try.func64, Try.ntmps64
      go_wp2
      go_ret
      exact ⟨by simp [fitF, h1, h2, h3, h4, h5], (Below.refl _ _).alloc (Nat.le_refl _) _⟩
    · go_enter Try.func64, Try.ntmps64
      go_wp2
      go_ret
      exact ⟨by simp [fitF]; omega, (Below.refl _ _).alloc (Nat.le_refl _) _⟩
  · go_enter Try.func64, Try.ntmps64
    go_wp2
    go_ret
    exact ⟨by simp [fitF]; omega, (Below.refl _ _).alloc (Nat.le_refl _) _⟩

end Go.Proofs.Ytmndgoapkmhglaa

/- the places, and the waits, of a text that is held. -/
namespace Go.Proofs.Ytmndgoapkmhglaa

theorem places_held {s : ByteArray} {p : PS} (hs : s.size ≤ 1500) (hp : parseF s = .ok p) {L : List Dl} (hG : RGood s L) : (eqsF p.decls).map Dc.place = plR (toks s) L := by
  obtain ⟨_, _, hB⟩ := held_of hs hp hG
  have hE : All2 (DX (toks s) (bindF p.decls) (boundN p)) (eqsF p.decls) (eqL L) := All2.filter (fun d x h => by rw [h.kind]) hB.dx
  have hk : ∀ x ∈ eqL L, x.kind ≠ 0 := fun x hx => by have := (List.mem_filter.1 hx).2; simpa using this
  have key : ∀ (l : List Dc) (m : List Dl), (∀ x ∈ m, x.kind ≠ 0) → All2 (DX (toks s) (bindF p.decls) (boundN p)) l m → l.map Dc.place = m.map (placeD (toks s)) := by
    intro l
    induction l with
    | nil => intro m _ h; cases m with
      | nil => rfl
      | cons x m => exact h.elim
    | cons d l ih => intro m hm h; cases m with
      | nil => exact h.elim
      | cons x m => rw [List.map_cons, List.map_cons, h.1.place (hm x (by simp)), ih m (fun y hy => hm y (List.mem_cons_of_mem _ hy)) h.2]
  exact key _ _ hk hE
theorem waits_held {s : ByteArray} {p : PS} (hs : s.size ≤ 1500) (hp : parseF s = .ok p) {L : List Dl} (hG : RGood s L) : waitsM (eqsF p.decls) (linksF p.decls (boundN p)) noM = waitM (toks s) L := by
  rw [waits_pl, places_held hs hp hG, links_held hs hp hG]
  rfl

end Go.Proofs.Ytmndgoapkmhglaa
