import Derived.Test.YtmndgoapkmhglaaM21StrE
import Derived.Test.YtmndgoapkmhglaaM25OpenL
/- Plain mathematics: the machine. -/
namespace Go.Proofs.Ytmndgoapkmhglaa

/-- an operation. -/
structure OpF where
  k : Int
  a : Int
  b : Int
  c : Int
/-- code. -/
structure CdF where
  ops : List OpF
  cells : List Int
  next : List Int
  out : List Int

/-- entry i of a list; 0 if there is none. -/
def atF (l : List Int) (i : Int) : Int := if i < 0 then 0 else l.getD i.toNat 0
/-- how many registers an operation reads. -/
def readsF (k : Int) : Nat := if k < 5 then 0 else if k = 13 then 1 else if k = 14 then 3 else 2
def regOk (i : Nat) (r : Int) : Bool := decide (0 ≤ r) && decide (r < (i : Int))
def opArgs (o : OpF) : List Int := [o.a, o.b, o.c]
/-- may operation i be this one? -/
def opOk (nc i : Nat) (o : OpF) : Bool :=
  decide (0 ≤ o.k) && decide (o.k ≤ 14) && (decide (o.k ≠ 3) || regOk nc o.a) && ((opArgs o).take (readsF o.k)).all (regOk i)
def opsOk (nc : Nat) : Nat → List OpF → Bool
  | _, [] => true
  | i, o :: r => opOk nc i o && opsOk nc (i + 1) r
/-- is code well formed? -/
def formedF (c : CdF) : Bool :=
  decide (c.ops.length ≤ 1500) && decide (c.next.length ≤ 1500) && decide (c.out.length ≤ 1500) && decide (c.cells.length = c.next.length) && opsOk c.cells.length 0 c.ops && c.next.all (regOk c.ops.length) && c.out.all (regOk c.ops.length)

/-- what an operation lays into its register. -/
def laysF (o : OpF) (n : Int) (regs cells ins links : List Int) : Int :=
  if o.k = 0 then o.a else if o.k = 1 then atF ins o.a else if o.k = 2 then atF links o.a else if o.k = 3 then atF cells o.a else if o.k = 4 then b2i (decide (n = 0))
  else if o.k = 5 then w64 (atF regs o.a + atF regs o.b) else if o.k = 6 then w64 (atF regs o.a - atF regs o.b) else if o.k = 7 then w64 (atF regs o.a * atF regs o.b)
  else if o.k = 8 then apF [47] (atF regs o.a) (atF regs o.b) else if o.k = 9 then b2i (decide (atF regs o.a < atF regs o.b)) else if o.k = 10 then b2i (decide (atF regs o.a = atF regs o.b))
  else if o.k = 11 then b2i (decide (atF regs o.a ≠ 0) && decide (atF regs o.b ≠ 0)) else if o.k = 12 then b2i (decide (atF regs o.a ≠ 0) || decide (atF regs o.b ≠ 0))
  else if o.k = 13 then b2i (decide (atF regs o.a = 0)) else if atF regs o.a = 0 then atF regs o.c else atF regs o.b
/-- the registers behind operations. -/
def regsF (n : Int) (cells ins links : List Int) (regs : List Int) : List OpF → List Int
  | [] => regs
  | o :: r => regsF n cells ins links (regs ++ [laysF o n regs cells ins links]) r

theorem regsF_snoc (n : Int) (cells ins links : List Int) : ∀ (l : List OpF) (regs : List Int) (o : OpF), regsF n cells ins links regs (l ++ [o]) = regsF n cells ins links regs l ++ [laysF o n (regsF n cells ins links regs l) cells ins links] := by
  intro l
  induction l with
  | nil => intro regs o; rfl
  | cons a r ih => intro regs o; exact ih _ o
theorem regsF_len (n : Int) (cells ins links : List Int) : ∀ (l : List OpF) (regs : List Int), (regsF n cells ins links regs l).length = regs.length + l.length := by
  intro l
  induction l with
  | nil => intro regs; rfl
  | cons a r ih => intro regs; show (regsF _ _ _ _ _ r).length = _; rw [ih]; simp; omega

/-- the machine: an error, or what comes out and the cells' next. -/
def execF (c : CdF) (n : Int) (cells ins links : List Int) : Nat × List Int × List Int :=
  if formedF c = false then (9, [], []) else if n < 0 ∨ cells.length ≠ c.cells.length then (10, [], [])
  else (0, c.out.map (atF (regsF n cells ins links [] c.ops)), c.next.map (atF (regsF n cells ins links [] c.ops)))

end Go.Proofs.Ytmndgoapkmhglaa

/- number, number, apply. -/
namespace Go.Proofs.Ytmndgoapkmhglaa
open Go.RowKit
attribute [local go_sem ↓] Go.wp_at_zero Go.wp_at_succ

theorem rnumber_any (w : World) (b : Bool) :
    Calls Try.prog 92 #[.bool b] w fun e w' => e = .returned (.int .i64 (b2i b)) ∧ Below w.heap.size w w' := by
  cases b
  all_goals
    go_enter Try.func92, Try.ntmps92
    go_wp2
    go_ret
    exact ⟨rfl, Below.refl _ _⟩

theorem apF_lt (a b : Int) : apF [60] a b = b2i (decide (a < b)) := rfl
theorem apF_eq (a b : Int) : apF [61] a b = b2i (decide (a = b)) := rfl
theorem apF_and (a b : Int) : apF [38] a b = b2i (decide (a = 1) && decide (b = 1)) := rfl

set_option maxHeartbeats 2000000 in
theorem rapply_any (o : ByteArray) (w : World) (x y : Int) :
    Calls Try.prog 93 #[.string o, .int .i64 x, .int .i64 y] w fun e w' => e = .returned (.int .i64 (apF o.data.toList x y)) ∧ Below w.heap.size w w' := by
  by_cases h1 : o.data.toList = [43]
  · have HF : Hid (apF o.data.toList x y = w64 (x + y)) := hide (by rw [h1]; rfl)
    have q1 := str_yes h1
    clear h1
    go_enter Try.func93, Try.ntmps93
    go_wp2
    go_ret
    exact ⟨by rw [HF.out]; rfl, Below.refl _ _⟩
  have q1 := str_no h1
  by_cases h2 : o.data.toList = [45]
  · have HF : Hid (apF o.data.toList x y = w64 (x - y)) := hide (by rw [h2]; rfl)
    have q2 := str_yes h2
    clear h1 h2
    go_enter Try.func93, Try.ntmps93
    go_wp2
    go_ret
    exact ⟨by rw [HF.out]; rfl, Below.refl _ _⟩
  have q2 := str_no h2
  by_cases h3 : o.data.toList = [42]
  · have HF : Hid (apF o.data.toList x y = w64 (x * y)) := hide (by rw [h3]; rfl)
    have q3 := str_yes h3
    clear h1 h2 h3
    go_enter Try.func93, Try.ntmps93
    go_wp2
    go_ret
    exact ⟨by rw [HF.out]; rfl, Below.refl _ _⟩
  have q3 := str_no h3
  by_cases h4 : o.data.toList = [47]
  · have q4 := str_yes h4
    by_cases hy : y = 0
    · have HF : Hid (apF o.data.toList x y = 0) := hide (by rw [h4, hy]; rfl)
      have q5 : (y == 0) = true := by rw [hy]; rfl
      clear h1 h2 h3 h4 hy
      go_enter Try.func93, Try.ntmps93
      go_wp2
      go_ret
      exact ⟨by rw [HF.out]; rfl, Below.refl _ _⟩
    · have HF : Hid (apF o.data.toList x y = w64 (x.tdiv y)) := hide (by rw [h4]; show (if y = 0 then 0 else w64 (x.tdiv y)) = _; rw [if_neg hy])
      have q5 : (y == 0) = false := by rw [beq_eq_false_iff_ne]; exact hy
      clear h1 h2 h3 h4
      go_enter Try.func93, Try.ntmps93
      go_wp2
      go_ret
      exact ⟨by rw [HF.out]; rfl, Below.refl _ _⟩
  have q4 := str_no h4
  by_cases h5 : o.data.toList = [60]
  · have HF : Hid (apF o.data.toList x y = b2i (decide (x < y))) := hide (by rw [h5]; rfl)
    have q5 := str_yes h5
    have HN := hide (fun W b => rnumber_any W b)
    clear h1 h2 h3 h4 h5
    go_enter Try.func93, Try.ntmps93
    go_wp2_with fail
    refine (HN.out _ _).mono ?_
    rintro e w1 ⟨rfl, hb1⟩
    go_wp2
    go_ret
    exact ⟨by rw [HF.out]; rfl, hb1⟩
  have q5 := str_no h5
  by_cases h6 : o.data.toList = [61]
  · have HF : Hid (apF o.data.toList x y = b2i (decide (x = y))) := hide (by rw [h6]; rfl)
    have q6 := str_yes h6
    have HN := hide (fun W b => rnumber_any W b)
    clear h1 h2 h3 h4 h5 h6
    go_enter Try.func93, Try.ntmps93
    go_wp2_with fail
    refine (HN.out _ _).mono ?_
    rintro e w1 ⟨rfl, hb1⟩
    go_wp2
    go_ret
    exact ⟨by rw [HF.out]; rfl, hb1⟩
  have q6 := str_no h6
  have HN := hide (fun W b => rnumber_any W b)
  have hcx : x = 1 ∨ (x == 1) = false := by by_cases e : x = 1 <;> simp [e]
  have hcy : y = 1 ∨ (y == 1) = false := by by_cases e : y = 1 <;> simp [e]
  by_cases h7 : o.data.toList = [38]
  · have HF : Hid (apF o.data.toList x y = b2i (decide (x = 1) && decide (y = 1))) := hide (by rw [h7]; rfl)
    have q7 := str_yes h7
    clear h1 h2 h3 h4 h5 h6 h7
    rcases hcx with rfl | c1
    · rcases hcy with rfl | c2
      all_goals
        go_enter Try.func93, Try.ntmps93
        go_wp2_with fail
        refine (HN.out _ _).mono ?_
        rintro e w1 ⟨rfl, hb1⟩
        go_wp2
        go_ret
        exact ⟨by rw [HF.out]; simp_all, hb1⟩
    · go_enter Try.func93, Try.ntmps93
      go_wp2_with fail
      refine (HN.out _ _).mono ?_
      rintro e w1 ⟨rfl, hb1⟩
      go_wp2
      go_ret
      exact ⟨by rw [HF.out]; simp_all, hb1⟩
  have q7 := str_no h7
  have HF : Hid (apF o.data.toList x y = b2i (decide (x = 1) || decide (y = 1))) := hide (by unfold apF; rw [if_neg h1, if_neg h2, if_neg h3, if_neg h4, if_neg h5, if_neg h6, if_neg h7])
  clear h1 h2 h3 h4 h5 h6 h7
  rcases hcx with rfl | c1
  · go_enter Try.func93, Try.ntmps93
    go_wp2_with fail
    refine (HN.out _ _).mono ?_
    rintro e w1 ⟨rfl, hb1⟩
    go_wp2
    go_ret
    exact ⟨by rw [HF.out]; simp_all, hb1⟩
  · rcases hcy with rfl | c2
    all_goals
      go_enter Try.func93, Try.ntmps93
      go_wp2_with fail
      refine (HN.out _ _).mono ?_
      rintro e w1 ⟨rfl, hb1⟩
      go_wp2
      go_ret
      exact ⟨by rw [HF.out]; simp_all, hb1⟩

end Go.Proofs.Ytmndgoapkmhglaa

/- operations, and acts, as they lie. -/
namespace Go.Proofs.Ytmndgoapkmhglaa
open Go.RowKit

/-- operations, as they lie. -/
def OpsAt (w : World) (v : Value) (ops : List OpF) : Prop :=
  ∃ (A : Option Addr) (C : Nat), v = .slice A ops.length C ∧ ops.length ≤ 4398046511104 ∧ (0 < ops.length → ∃ b o, A = some ⟨b, o, none⟩ ∧ b < w.heap.size ∧ ∀ i, (h : i < ops.length) →
    w.cell? ⟨b, o + i * 4, none⟩ = some (.int .i64 ops[i].k) ∧ w.cell? ⟨b, o + i * 4 + 1, none⟩ = some (.int .i64 ops[i].a) ∧ w.cell? ⟨b, o + i * 4 + 2, none⟩ = some (.int .i64 ops[i].b) ∧ w.cell? ⟨b, o + i * 4 + 3, none⟩ = some (.int .i64 ops[i].c))
theorem OpsAt.below {w w' : World} {v : Value} {ops : List OpF} (h : OpsAt w v ops) (hb : Below w.heap.size w w') : OpsAt w' v ops := by
  obtain ⟨A, C, hv, hm, hc⟩ := h
  refine ⟨A, C, hv, hm, fun hp => ?_⟩
  obtain ⟨b, o, h1, h2, h3⟩ := hc hp
  refine ⟨b, o, h1, Nat.lt_of_lt_of_le h2 hb.size, fun i hi => ?_⟩
  obtain ⟨k0, k1, k2, k3⟩ := h3 i hi
  exact ⟨(hb.cell (p := ⟨b, o + i * 4, none⟩) h2).trans k0, (hb.cell (p := ⟨b, o + i * 4 + 1, none⟩) h2).trans k1, (hb.cell (p := ⟨b, o + i * 4 + 2, none⟩) h2).trans k2, (hb.cell (p := ⟨b, o + i * 4 + 3, none⟩) h2).trans k3⟩

end Go.Proofs.Ytmndgoapkmhglaa

/- code as it lies; reads, at. -/
namespace Go.Proofs.Ytmndgoapkmhglaa
open Go.RowKit
attribute [local go_sem ↓] Go.wp_at_zero Go.wp_at_succ

/-- code, as it lies. -/
structure CodeAt (w : World) (vO vC vN vU : Value) (c : CdF) : Prop where
  ops : OpsAt w vO c.ops
  cells : RowAt w vC c.cells
  next : RowAt w vN c.next
  out : RowAt w vU c.out
theorem CodeAt.below {w w' : World} {vO vC vN vU : Value} {c : CdF} (h : CodeAt w vO vC vN vU c) (hb : Below w.heap.size w w') : CodeAt w' vO vC vN vU c :=
  ⟨h.ops.below hb, h.cells.below hb, h.next.below hb, h.out.below hb⟩

theorem rreads_any (w : World) (k : Int) :
    Calls Try.prog 90 #[.int .i64 k] w fun e w' => e = .returned (.int .i64 (readsF k : Nat)) ∧ w = w' := by
  by_cases h1 : k < 5
  · have HF : Hid (readsF k = 0) := hide (by unfold readsF; rw [if_pos h1])
    go_enter Try.func90, Try.ntmps90
    go_wp2
    go_ret
    exact ⟨by rw [HF.out]; rfl, rfl⟩
  by_cases h2 : k = 13
  · have HF : Hid (readsF k = 1) := hide (by unfold readsF; rw [if_neg h1, if_pos h2])
    have q : (k == 13) = true := by rw [h2]; rfl
    clear h2
    go_enter Try.func90, Try.ntmps90
    go_wp2
    go_ret
    exact ⟨by rw [HF.out]; rfl, rfl⟩
  have q1 : (k == 13) = false := by rw [beq_eq_false_iff_ne]; exact h2
  by_cases h3 : k = 14
  · have HF : Hid (readsF k = 3) := hide (by unfold readsF; rw [if_neg h1, if_neg h2, if_pos h3])
    have q : (k == 14) = true := by rw [h3]; rfl
    clear h3 h2
    go_enter Try.func90, Try.ntmps90
    go_wp2
    go_ret
    exact ⟨by rw [HF.out]; rfl, rfl⟩
  have q2 : (k == 14) = false := by rw [beq_eq_false_iff_ne]; exact h3
  have HF : Hid (readsF k = 2) := hide (by unfold readsF; rw [if_neg h1, if_neg h2, if_neg h3])
  clear h2 h3
  go_enter Try.func90, Try.ntmps90
  go_wp2
  go_ret
  exact ⟨by rw [HF.out]; rfl, rfl⟩

theorem rat_any (w : World) (v : Value) (l : List Int) (h : RowAt w v l) (i : Int) :
    Calls Try.prog 91 #[v, .int .i64 i] w fun e w' => e = .returned (.int .i64 (atF l i)) ∧ w = w' := by
  obtain ⟨A, C, rfl, hm, hc⟩ := h
  by_cases h0 : i < 0
  · have HF : Hid (atF l i = 0) := hide (by unfold atF; rw [if_pos h0])
    clear hc
    go_enter Try.func91, Try.ntmps91
    go_wp2
    go_ret
    exact ⟨by rw [HF.out]; rfl, rfl⟩
  obtain ⟨k, rfl⟩ : ∃ k : Nat, i = (k : Int) := ⟨i.toNat, by omega⟩
  by_cases hk : k < l.length
  · obtain ⟨b, o, rfl, hb, hr⟩ := hc (by omega)
    have hx := hr k hk
    have HF : Hid (atF l (k : Int) = l[k]) := hide (by unfold atF; rw [if_neg h0, show ((k : Int)).toNat = k by omega, List.getD_eq_getElem?_getD, List.getElem?_eq_getElem hk]; rfl)
    have k1 : (0 : Int) ≤ (k : Int) := by omega
    have k2 : (k : Int) < (l.length : Int) := by omega
    have k3 : ¬ (k : Int) ≥ (l.length : Int) := by omega
    generalize l[k] = z at hx HF
    clear hc hr hk
    go_enter Try.func91, Try.ntmps91
    go_wp2
    go_ret
    exact ⟨by rw [HF.out]; rfl, rfl⟩
  · have HF : Hid (atF l (k : Int) = 0) := hide (by unfold atF; rw [if_neg h0, show ((k : Int)).toNat = k by omega, List.getD_eq_getElem?_getD, List.getElem?_eq_none (by omega)]; rfl)
    have k3 : (k : Int) ≥ (l.length : Int) := by omega
    clear hc
    go_enter Try.func91, Try.ntmps91
    go_wp2
    go_ret
    exact ⟨by rw [HF.out]; rfl, rfl⟩

end Go.Proofs.Ytmndgoapkmhglaa
