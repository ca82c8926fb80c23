import Derived.Deep.Matrix
import Derived.SizedLaws
import Derived.Carry
import Derived.ProofKit
import Derived.Test.YtmndgoapkmhglaaM10Wide
import Derived.Test.YtmndgoapkmhglaaM17AstO
import Derived.Test.YtmndgoapkmhglaaM21StrE
import Derived.Test.YtmndgoapkmhglaaM22StrG
/- Lists of numbers as they lie; rows of numbers of one's own. -/
namespace Go.Proofs.Ytmndgoapkmhglaa
open Go.RowKit
attribute [local go_sem ↓] Go.wp_at_zero Go.wp_at_succ

/-- numbers, as they lie. -/
def RowAt (w : World) (v : Value) (zs : List Int) : Prop :=
  ∃ (A : Option Addr) (C : Nat), v = .slice A zs.length C ∧ zs.length ≤ 35184372088832 ∧ (0 < zs.length → ∃ b o, A = some ⟨b, o, none⟩ ∧ b < w.heap.size ∧ ∀ c, (h : c < zs.length) → w.cell? ⟨b, o + c, none⟩ = some (.int .i64 zs[c]))
/-- lists of numbers, as they lie. -/
def LsAt (w : World) (v : Value) (ins : List (List Int)) : Prop :=
  ∃ (A : Option Addr) (C : Nat), v = .slice A ins.length C ∧ ins.length ≤ 8796093022208 ∧ (0 < ins.length → ∃ b o, A = some ⟨b, o, none⟩ ∧ b < w.heap.size ∧ ∀ r, (h : r < ins.length) → ∃ x, w.cell? ⟨b, o + r, none⟩ = some x ∧ RowAt w x ins[r])

theorem RowAt.below {w w' : World} {v : Value} {zs : List Int} (h : RowAt w v zs) (hb : Below w.heap.size w w') : RowAt w' v zs := by
  obtain ⟨A, C, hv, hm, hc⟩ := h
  refine ⟨A, C, hv, hm, fun hp => ?_⟩
  obtain ⟨b, o, h1, h2, h3⟩ := hc hp
  exact ⟨b, o, h1, Nat.lt_of_lt_of_le h2 hb.size, fun c hc => (hb.cell (p := ⟨b, o + c, none⟩) h2).trans (h3 c hc)⟩
theorem LsAt.below {w w' : World} {v : Value} {ins : List (List Int)} (h : LsAt w v ins) (hb : Below w.heap.size w w') : LsAt w' v ins := by
  obtain ⟨A, C, hv, hm, hc⟩ := h
  refine ⟨A, C, hv, hm, fun hp => ?_⟩
  obtain ⟨b, o, h1, h2, h3⟩ := hc hp
  refine ⟨b, o, h1, Nat.lt_of_lt_of_le h2 hb.size, fun r hr => ?_⟩
  obtain ⟨x, hx, hr⟩ := h3 r hr
  exact ⟨x, (hb.cell (p := ⟨b, o + r, none⟩) h2).trans hx, hr.below hb⟩

/-- rows of numbers of one's own: m of them, of n numbers each. -/
structure MatI (w : World) (g m n : Nat) (R : Nat → Nat) (F : Nat → Nat → Int) : Prop where
  outer : ∀ i, i < m → w.cell? ⟨g, i, none⟩ = some (.slice (some ⟨R i, 0, none⟩) n n)
  rows : ∀ i, i < m → w.rowIs (R i) 3 n (fun j => .int .i64 (F i j))
  inj : ∀ i j, i < m → j < m → R i = R j → i = j
  ne : ∀ i, i < m → R i ≠ g

theorem MatI.congr {w : World} {g m n : Nat} {R : Nat → Nat} {F F' : Nat → Nat → Int} (h : MatI w g m n R F) (e : ∀ i j, i < m → j < n → F i j = F' i j) : MatI w g m n R F' :=
  ⟨h.outer, fun i hi => (h.rows i hi).congr (fun j hj => by rw [e i j hi hj]), h.inj, h.ne⟩
theorem MatI.cell {w : World} {g m n : Nat} {R : Nat → Nat} {F : Nat → Nat → Int} (h : MatI w g m n R F) {i j : Nat} (hi : i < m) (hj : j < n) : w.cell? ⟨R i, j, none⟩ = some (.int .i64 (F i j)) := (h.rows i hi).cell hj
theorem MatI.froz {w : World} {g m n : Nat} {R : Nat → Nat} {F : Nat → Nat → Int} (h : MatI w g m n R F) {i : Nat} (hi : i < m) (j : Nat) : w.frozen? ⟨R i, j, none⟩ = false := (h.rows i hi).frozen j
theorem MatI.set {w : World} {g m n : Nat} {R : Nat → Nat} {F : Nat → Nat → Int} (h : MatI w g m n R F) {a : Nat} (ha : a < m) (b : Nat) (v : Int) : MatI (w.setCell ⟨R a, b, none⟩ (.int .i64 v)) g m n R (fun i k => if i = a ∧ k = b then v else F i k) := by
  refine ⟨fun i hi => ?_, fun i hi => ?_, h.inj, h.ne⟩
  · rw [← h.outer i hi]
    exact World.cell?_setCell_other _ _ _ _ (by intro e; exact h.ne a ha (congrArg Addr.block e))
  · by_cases e : i = a
    · subst e
      refine ((h.rows i hi).set b (.int .i64 v)).congr (fun j _ => ?_)
      by_cases ej : j = b
      · subst ej; simp
      · simp [ej]
    · refine ((h.rows i hi).setOther (a := ⟨R a, b, none⟩) (fun e2 => e (h.inj i a hi ha e2)) (.int .i64 v)).congr (fun j _ => ?_)
      simp [e]
/-- other blocks may turn. -/
theorem MatI.keep {w w' : World} {g m n : Nat} {R : Nat → Nat} {F : Nat → Nat → Int} (h : MatI w g m n R F) (hg : w'.heap[g]? = w.heap[g]?) (hr : ∀ i, i < m → w'.heap[R i]? = w.heap[R i]?) : MatI w' g m n R F :=
  ⟨fun i hi => (World.cell?_of_block (w := w) (a := ⟨g, i, none⟩) hg).trans (h.outer i hi), fun i hi => (h.rows i hi).of_block (hr i hi), h.inj, h.ne⟩
theorem MatI.lt {w : World} {g m n : Nat} {R : Nat → Nat} {F : Nat → Nat → Int} (h : MatI w g m n R F) (hm : 0 < m) : g < w.heap.size := World.block_lt_of_cell? _ _ (h.outer 0 hm)
theorem MatI.below {w w' : World} {g m n : Nat} {R : Nat → Nat} {F : Nat → Nat → Int} (h : MatI w g m n R F) (hb : Below w.heap.size w w') : MatI w' g m n R F :=
  ⟨fun i hi => (hb.cell (p := ⟨g, i, none⟩) (h.lt (by omega))).trans (h.outer i hi), fun i hi => (h.rows i hi).of_block (hb.block _ (World.rowIs.lt (h.rows i hi))), h.inj, h.ne⟩

end Go.Proofs.Ytmndgoapkmhglaa

/- reckon: single operations; element. -/
namespace Go.Proofs.Ytmndgoapkmhglaa
open Go.RowKit
attribute [local go_sem ↓] Go.wp_at_zero Go.wp_at_succ

theorem truth_any (w : World) (b : Bool) :
    Calls Try.prog 148 #[.bool b] w fun e w' => e = .returned (.int .i64 (b2i b)) ∧ w = w' := by
  cases b
  all_goals
    go_enter Try.func148, Try.ntmps148
    go_wp2
    go_ret
    exact ⟨rfl, rfl⟩

theorem rknot_any (w : World) (a : Int) :
    Calls Try.prog 127 #[.int .i64 a] w fun e w' => e = .returned (.int .i64 (b2i (decide (a = 0)))) ∧ w = w' := by
  have HN := hide (fun W b => truth_any W b)
  go_enter Try.func127, Try.ntmps127
  go_wp2_with fail
  refine (HN.out _ _).mono ?_
  rintro e w1 ⟨rfl, rfl⟩
  go_wp2
  go_ret
  exact ⟨rfl, rfl⟩

def choF (a b c : Int) : Int := if a ≠ 0 then b else c
theorem choose_any (w : World) (a b c : Int) :
    Calls Try.prog 128 #[.int .i64 a, .int .i64 b, .int .i64 c] w fun e w' => e = .returned (.int .i64 (choF a b c)) ∧ w = w' := by
  by_cases h : a = 0
  · have HF : Hid (choF a b c = c) := hide (by unfold choF; rw [if_neg (by simpa using h)])
    have q : (a != 0) = false := by rw [h]; rfl
    clear h
    go_enter Try.func128, Try.ntmps128
    go_wp2
    go_ret
    exact ⟨by rw [HF.out]; rfl, rfl⟩
  · have HF : Hid (choF a b c = b) := hide (by unfold choF; rw [if_pos h])
    have q : (a != 0) = true := by rw [bne_iff_ne]; exact h
    clear h
    go_enter Try.func128, Try.ntmps128
    go_wp2
    go_ret
    exact ⟨by rw [HF.out]; rfl, rfl⟩

def quoF (a b : Int) : Int := if b = 0 then 0 else if b = -1 then w64 (0 - a) else w64 (a.tdiv b)
theorem quotient_any (w : World) (a b : Int) :
    Calls Try.prog 149 #[.int .i64 a, .int .i64 b] w fun e w' => e = .returned (.int .i64 (quoF a b)) ∧ w = w' := by
  by_cases h : b = 0
  · have HF : Hid (quoF a b = 0) := hide (by unfold quoF; rw [if_pos h])
    have q : (b == 0) = true := by rw [h]; rfl
    clear h
    go_enter Try.func149, Try.ntmps149
    go_wp2
    go_ret
    exact ⟨by rw [HF.out]; rfl, rfl⟩
  have q : (b == 0) = false := by rw [beq_eq_false_iff_ne]; exact h
  by_cases h1 : b = -1
  · have HF : Hid (quoF a b = w64 (-a)) := hide (by unfold quoF; rw [if_neg h, if_pos h1, Int.zero_sub])
    have q1 : (b == -1) = true := by rw [h1]; rfl
    clear h h1
    go_enter Try.func149, Try.ntmps149
    go_wp2
    go_ret
    exact ⟨by rw [HF.out]; rfl, rfl⟩
  · have HF : Hid (quoF a b = w64 (a.tdiv b)) := hide (by unfold quoF; rw [if_neg h, if_neg h1])
    have q1 : (b == -1) = false := by rw [beq_eq_false_iff_ne]; exact h1
    clear h1
    go_enter Try.func149, Try.ntmps149
    go_wp2
    go_ret
    exact ⟨by rw [HF.out]; rfl, rfl⟩

set_option maxHeartbeats 2000000 in
theorem pair_any (op : Nat) (w : World) (x y : Int) :
    Calls Try.prog 129 #[.int .i64 (op : Int), .int .i64 x, .int .i64 y] w fun e w' => e = .returned (.int .i64 (pairF op x y)) ∧ w = w' := by
  have HN := hide (fun W b => truth_any W b)
  have HQ := hide (fun W => quotient_any W x y)
  have no : ∀ k : Nat, op ≠ k → ((op : Int) == (k : Int)) = false := fun k h => by rw [beq_eq_false_iff_ne]; omega
  by_cases h5 : op = 5
  · have HF : Hid (pairF op x y = w64 (x + y)) := hide (by rw [h5]; rfl)
    have q : ((op : Int) == 5) = true := by rw [h5]; rfl
    clear h5 no
    go_enter Try.func129, Try.ntmps129
    go_wp2
    go_ret
    exact ⟨by rw [HF.out]; rfl, rfl⟩
  have q5 : ((op : Int) == 5) = false := no 5 h5
  by_cases h6 : op = 6
  · have HF : Hid (pairF op x y = w64 (x - y)) := hide (by rw [h6]; rfl)
    have q : ((op : Int) == 6) = true := by rw [h6]; rfl
    clear h5 h6 no
    go_enter Try.func129, Try.ntmps129
    go_wp2
    go_ret
    exact ⟨by rw [HF.out]; rfl, rfl⟩
  have q6 : ((op : Int) == 6) = false := no 6 h6
  by_cases h7 : op = 7
  · have HF : Hid (pairF op x y = w64 (x * y)) := hide (by rw [h7]; rfl)
    have q : ((op : Int) == 7) = true := by rw [h7]; rfl
    clear h5 h6 h7 no
    go_enter Try.func129, Try.ntmps129
    go_wp2
    go_ret
    exact ⟨by rw [HF.out]; rfl, rfl⟩
  have q7 : ((op : Int) == 7) = false := no 7 h7
  by_cases h8 : op = 8
  · have HF : Hid (pairF op x y = quoF x y) := hide (by rw [h8]; rfl)
    have q : ((op : Int) == 8) = true := by rw [h8]; rfl
    clear h5 h6 h7 h8 no
    go_enter Try.func129, Try.ntmps129
    go_wp2_with fail
    refine (HQ.out _).mono ?_
    rintro e w1 ⟨rfl, rfl⟩
    go_wp2
    go_ret
    exact ⟨by rw [HF.out]; rfl, rfl⟩
  have q8 : ((op : Int) == 8) = false := no 8 h8
  by_cases h9 : op = 9
  · have HF : Hid (pairF op x y = b2i (decide (x < y))) := hide (by rw [h9]; rfl)
    have q : ((op : Int) == 9) = true := by rw [h9]; rfl
    clear h5 h6 h7 h8 h9 no
    go_enter Try.func129, Try.ntmps129
    go_wp2_with fail
    refine (HN.out _ _).mono ?_
    rintro e w1 ⟨rfl, rfl⟩
    go_wp2
    go_ret
    exact ⟨by rw [HF.out]; rfl, rfl⟩
  have q9 : ((op : Int) == 9) = false := no 9 h9
  by_cases h10 : op = 10
  · have HF : Hid (pairF op x y = b2i (decide (x = y))) := hide (by rw [h10]; rfl)
    have q : ((op : Int) == 10) = true := by rw [h10]; rfl
    clear h5 h6 h7 h8 h9 h10 no
    go_enter Try.func129, Try.ntmps129
    go_wp2_with fail
    refine (HN.out _ _).mono ?_
    rintro e w1 ⟨rfl, rfl⟩
    go_wp2
    go_ret
    exact ⟨by rw [HF.out]; rfl, rfl⟩
  have q10 : ((op : Int) == 10) = false := no 10 h10
  have hcx : x = 0 ∨ (x != 0) = true := by by_cases e : x = 0 <;> simp [e]
  have hcy : y = 0 ∨ (y != 0) = true := by by_cases e : y = 0 <;> simp [e]
  by_cases h11 : op = 11
  · have HF : Hid (pairF op x y = b2i (decide (x ≠ 0) && decide (y ≠ 0))) := hide (by rw [h11]; rfl)
    have q : ((op : Int) == 11) = true := by rw [h11]; rfl
    clear h5 h6 h7 h8 h9 h10 h11 no
    rcases hcx with rfl | c1
    · go_enter Try.func129, Try.ntmps129
      go_wp2_with fail
      refine (HN.out _ _).mono ?_
      rintro e w1 ⟨rfl, rfl⟩
      go_wp2
      go_ret
      exact ⟨by rw [HF.out]; simp_all, rfl⟩
    · rcases hcy with rfl | c2
      all_goals
        go_enter Try.func129, Try.ntmps129
        go_wp2_with fail
        refine (HN.out _ _).mono ?_
        rintro e w1 ⟨rfl, rfl⟩
        go_wp2
        go_ret
        exact ⟨by rw [HF.out]; simp_all, rfl⟩
  have q11 : ((op : Int) == 11) = false := no 11 h11
  by_cases h12 : op = 12
  · have HF : Hid (pairF op x y = b2i (decide (x ≠ 0) || decide (y ≠ 0))) := hide (by rw [h12]; rfl)
    have q : ((op : Int) == 12) = true := by rw [h12]; rfl
    clear h5 h6 h7 h8 h9 h10 h11 h12 no
    rcases hcx with rfl | c1
    · rcases hcy with rfl | c2
      all_goals
        go_enter Try.func129, Try.ntmps129
        go_wp2_with fail
        refine (HN.out _ _).mono ?_
        rintro e w1 ⟨rfl, rfl⟩
        go_wp2
        go_ret
        exact ⟨by rw [HF.out]; simp_all, rfl⟩
    · go_enter Try.func129, Try.ntmps129
      go_wp2_with fail
      refine (HN.out _ _).mono ?_
      rintro e w1 ⟨rfl, rfl⟩
      go_wp2
      go_ret
      exact ⟨by rw [HF.out]; simp_all, rfl⟩
  have q12 : ((op : Int) == 12) = false := no 12 h12
  have HF : Hid (pairF op x y = 0) := hide (by unfold pairF; rw [if_neg h5, if_neg h6, if_neg h7, if_neg h8, if_neg h9, if_neg h10, if_neg h11, if_neg h12])
  clear h5 h6 h7 h8 h9 h10 h11 h12 no
  go_enter Try.func129, Try.ntmps129
  go_wp2
  go_ret
  exact ⟨by rw [HF.out]; rfl, rfl⟩

set_option maxHeartbeats 1000000 in
theorem element_any (w : World) (v : Value) (ins : List (List Int)) (h : LsAt w v ins) (i k : Nat) :
    Calls Try.prog 146 #[v, .int .i64 (i : Int), .int .i64 (k : Int)] w fun e w' => e = .returned (.int .i64 (elemF ins i k)) ∧ w = w' := by
  obtain ⟨A, C, rfl, hm, hc⟩ := h
  by_cases hi : i < ins.length
  · obtain ⟨b, o, rfl, hb, hr⟩ := hc (by omega)
    obtain ⟨x, hx, A', C', rfl, hm', hc'⟩ := hr i hi
    have j2 : ¬ (i : Int) ≥ (ins.length : Int) := by omega
    have i1 : (0 : Int) ≤ (i : Int) := by omega
    have i2 : (i : Int) < (ins.length : Int) := by omega
    by_cases hk : k < ins[i].length
    · obtain ⟨b', o', rfl, hb', hr'⟩ := hc' (by omega)
      have hv : elemF ins i k = ins[i][k] := by
        unfold elemF
        rw [List.getD_eq_getElem?_getD, List.getD_eq_getElem?_getD, List.getElem?_eq_getElem hi, Option.getD_some, List.getElem?_eq_getElem hk, Option.getD_some]
      have hx' := hr' k hk
      have HV := hide hv
      have k1 : (0 : Int) ≤ (k : Int) := by omega
      generalize ins[i][k] = z at hx' HV
      have k2 : (k : Int) < (ins[i].length : Int) := by omega
      have k3 : ¬ (k : Int) ≥ (ins[i].length : Int) := by omega
      clear hv hc hc' hr hr' hk
      generalize ins[i].length = n at *
      go_enter Try.func146, Try.ntmps146
      go_wp2
      go_ret
      exact ⟨by rw [HV.out]; rfl, rfl⟩
    · have hv : elemF ins i k = 0 := by
        unfold elemF
        rw [List.getD_eq_getElem?_getD, List.getD_eq_getElem?_getD, List.getElem?_eq_getElem hi, Option.getD_some, List.getElem?_eq_none (Nat.le_of_not_lt hk)]; rfl
      have HV := hide hv
      have k3 : (k : Int) ≥ (ins[i].length : Int) := by omega
      clear hv hc hc' hr
      generalize ins[i].length = n at *
      go_enter Try.func146, Try.ntmps146
      go_wp2
      go_ret
      exact ⟨by rw [HV.out]; rfl, rfl⟩
  · have hv : elemF ins i k = 0 := by
      unfold elemF
      have e : ins[i]? = none := List.getElem?_eq_none (Nat.le_of_not_lt hi)
      rw [List.getD_eq_getElem?_getD, List.getD_eq_getElem?_getD, e]; rfl
    have HV := hide hv
    have j2 : (i : Int) ≥ (ins.length : Int) := by omega
    clear hv hc
    go_enter Try.func146, Try.ntmps146
    go_wp2
    go_ret
    exact ⟨by rw [HV.out]; rfl, rfl⟩

end Go.Proofs.Ytmndgoapkmhglaa

/- what stands for itself, of lists and streams as they lie; what a program's Streams must hand over. -/
namespace Go.Proofs.Ytmndgoapkmhglaa
open Go.RowKit

theorem row_eq {xs ys : List Int} (hl : xs.length = ys.length) (h : ∀ j, (hx : j < xs.length) → (hy : j < ys.length) → xs[j] = ys[j]) : (xs == ys) = true := by
  rw [beq_iff_eq]
  exact List.ext_getElem hl h
theorem row_ne {xs ys : List Int} {j : Nat} (hx : j < xs.length) (hy : j < ys.length) (h : xs[j] ≠ ys[j]) : (xs == ys) = false := by
  rw [beq_eq_false_iff_ne]
  rintro rfl
  exact h rfl


/-- numbers as cells. -/
def iCells (l : List Int) : List Value := l.map fun x => Value.int .i64 x
theorem iCells_len (l : List Int) : (iCells l).length = l.length := by simp [iCells]
theorem iCells_get (l : List Int) (j : Nat) : (iCells l)[j]? = l[j]?.map fun x => Value.int .i64 x := by simp [iCells]

theorem Try.infoIntsE : (Try.prog.info? 48).map (fun i => (i.zero, i.size, i.bytes)) = some (some (.slice none 0 0), 1, 24) := by kernel_rfl

/-- an argument's lists, as they came in: each with its address (nil or not). -/
structure ArgL (w : World) (A : Option Addr) (C : Nat) (ins : List (List Int)) (AS : Nat → Option Addr) (CS : Nat → Nat) : Prop where
  few : ins.length ≤ 5864062014805
  nil : A = none → ins = []
  out : 0 < ins.length → ∃ b o, A = some ⟨b, o, none⟩ ∧ b < w.heap.size ∧ ∀ r, (h : r < ins.length) → w.cell? ⟨b, o + r, none⟩ = some (.slice (AS r) ins[r].length (CS r))
  row : ∀ r, (h : r < ins.length) → RowAt w (.slice (AS r) ins[r].length (CS r)) ins[r] ∧ (AS r = none → ins[r] = []) ∧ ins[r].length ≤ 17592186044416
  cap : ∀ r, (h : r < ins.length) → ins[r].length ≤ CS r

theorem ArgL.below {w w' : World} {A : Option Addr} {C : Nat} {ins : List (List Int)} {AS : Nat → Option Addr} {CS : Nat → Nat} (h : ArgL w A C ins AS CS) (hb : Below w.heap.size w w') : ArgL w' A C ins AS CS := by
  refine ⟨h.few, h.nil, fun hp => ?_, fun r hr => ⟨(h.row r hr).1.below hb, (h.row r hr).2⟩, h.cap⟩
  obtain ⟨b, o, h1, h2, h3⟩ := h.out hp
  exact ⟨b, o, h1, Nat.lt_of_lt_of_le h2 hb.size, fun r hr => (hb.cell (p := ⟨b, o + r, none⟩) h2).trans (h3 r hr)⟩
theorem ArgL.ls {w : World} {A : Option Addr} {C : Nat} {ins : List (List Int)} {AS : Nat → Option Addr} {CS : Nat → Nat} (h : ArgL w A C ins AS CS) : LsAt w (.slice A ins.length C) ins := by
  refine ⟨A, C, rfl, by have := h.few; omega, fun hp => ?_⟩
  obtain ⟨b, o, h1, h2, h3⟩ := h.out hp
  exact ⟨b, o, h1, h2, fun r hr => ⟨_, h3 r hr, (h.row r hr).1⟩⟩

/-- a row of n values. -/
def rowF (F : Nat → Nat → Int) (i n : Nat) : List Int := (List.range n).map (F i)
theorem rowF_len (F : Nat → Nat → Int) (i n : Nat) : (rowF F i n).length = n := by simp [rowF]

/-- rows that came out, each its owner's. -/
structure OwnRows (B : Nat) (w : World) (v : Value) (m n : Nat) (F : Nat → Nat → Int) (g : Nat) (RV : Nat → Value) : Prop where
  shape : ∃ (a : Option Addr) (cap : Nat), v = .slice a m cap ∧ (0 < m → a = some ⟨g, 0, none⟩)
  outer : ∀ i, i < m → w.cell? ⟨g, i, none⟩ = some (RV i)
  rows : ∀ i, i < m → w.ownsRow B 3 1 (RV i) n (iCells (rowF F i n))
  apart : ∀ i j, i < m → j < m → i ≠ j → ∀ b, (RV i).ownBlock = some b → (RV j).ownBlock ≠ some b
  ne : ∀ i, i < m → (RV i).ownBlock ≠ some g

/-- what the document's own answer to Streams is. -/
def strR (s : ByteArray) (n : Int) : Nat := if (textF s).1 ≠ 0 then (textF s).1 else if n < 0 ∨ 200 < n then 10 else 0
/-- rows that came out: each its own. -/
structure Outs (B : Nat) (w : World) (v : Value) (m n : Nat) (F : Nat → Nat → Int) : Prop where
  mat : ∃ (a : Option Addr) (g cap : Nat) (R : Nat → Nat), v = .slice a m cap ∧ (0 < m → a = some ⟨g, 0, none⟩) ∧ MatI w g m n R F ∧ (∀ i, i < m → B ≤ R i) ∧ B ≤ g

theorem Outs.own {B : Nat} {w : World} {v : Value} {m n : Nat} {F : Nat → Nat → Int} (h : Outs B w v m n F) (hn : n ≤ 1000) : ∃ g RV, OwnRows B w v m n F g RV := by
  obtain ⟨a, g, cap, R, h1, h2, h3, h4, h5⟩ := h.mat
  refine ⟨g, fun i => .slice (some ⟨R i, 0, none⟩) n n, ⟨a, cap, h1, h2⟩, h3.outer, fun i hi => ?_, fun i j hi hj hne b hb hb' => ?_, fun i hi hb => ?_⟩
  · obtain ⟨c, hc1, hc2, hc3⟩ := h3.rows i hi
    refine ⟨by rw [iCells_len, rowF_len]; omega, .inr ⟨R i, n, c, rfl, h4 i hi, hc1, Nat.le_refl _, by unfold maxLen; omega, by omega, ?_⟩⟩
    apply List.ext_getElem?
    intro j
    rw [List.getElem?_take, iCells_get]
    by_cases hj : j < n
    · rw [if_pos (by omega), Array.getElem?_toList, hc3 j hj]
      simp [rowF, hj]
    · rw [if_neg (by omega), List.getElem?_eq_none (by rw [rowF_len]; omega)]; rfl
  · simp only [Value.ownBlock, Option.some.injEq] at hb hb'
    exact hne (h3.inj i j hi hj (by omega))
  · simp only [Value.ownBlock, Option.some.injEq] at hb
    exact h3.ne i hi hb

/-- a row of the document's own answer, read. -/
theorem Outs.row {B : Nat} {w : World} {v : Value} {m n : Nat} {F : Nat → Nat → Int} (h : Outs B w v m n F) (hn : n ≤ 1000) : ∃ (a : Option Addr) (g cap : Nat) (R : Nat → Nat), v = .slice a m cap ∧ (0 < m → a = some ⟨g, 0, none⟩) ∧ (0 < m → B ≤ g ∧ g < w.heap.size) ∧ (∀ i, i < m → B ≤ R i ∧ R i < w.heap.size) ∧
    ∀ w', (∀ b, B ≤ b → b < w.heap.size → w'.heap[b]? = w.heap[b]?) → w.heap.size ≤ w'.heap.size → ∀ i, i < m → w'.cell? ⟨g, i, none⟩ = some (.slice (some ⟨R i, 0, none⟩) n n) ∧ RowAt w' (.slice (some ⟨R i, 0, none⟩) n n) (rowF F i n) := by
  obtain ⟨a, g, cap, R, h1, h2, h3, h4, h5⟩ := h.mat
  refine ⟨a, g, cap, R, h1, h2, fun hp => ⟨h5, h3.lt hp⟩, fun i hi => ⟨h4 i hi, World.rowIs.lt (h3.rows i hi)⟩, fun w' hk hs i hi => ⟨?_, _, _, by rw [rowF_len], by rw [rowF_len]; omega, fun hp => ⟨R i, 0, rfl, Nat.lt_of_lt_of_le (World.rowIs.lt (h3.rows i hi)) hs, fun c hc => ?_⟩⟩⟩
  · exact (World.cell?_of_block (w := w) (a := ⟨g, i, none⟩) (hk g h5 (h3.lt (by omega)))).trans (h3.outer i hi)
  · rw [rowF_len] at hc
    have h6 : w'.rowIs (R i) 3 n (fun j => .int .i64 (F i j)) := (h3.rows i hi).of_block (hk _ (h4 i hi) (World.rowIs.lt (h3.rows i hi)))
    rw [Nat.zero_add, h6.cell hc]
    simp [rowF]

theorem own_row {B : Nat} {w : World} {v : Value} {n : Nat} {xs : List Int} (h : w.ownsRow B 3 1 v n (iCells xs)) (hn : n ≤ 1000) (hl : xs.length = n) : RowAt w v xs := by
  rcases h.2 with ⟨rfl, h0⟩ | ⟨g, cap, cur, rfl, hb, hg, h1, h2, h3, h4⟩
  · exact ⟨none, 0, by rw [hl, h0], by omega, fun hp => by omega⟩
  · refine ⟨_, _, by rw [hl], by omega, fun hp => ⟨g, 0, rfl, (Array.getElem?_eq_some_iff.1 hg).1, fun c hc => ?_⟩⟩
    rw [Nat.zero_add, h.cellAt c (by omega), iCells_get, List.getElem?_eq_getElem hc]; rfl
theorem own_of {B : Nat} {w w' : World} {e : TypeId} {size n : Nat} {v : Value} {xs : List Value} (h : w.ownsRow B e size v n xs) (hk : ∀ b, v.ownBlock = some b → w'.heap[b]? = w.heap[b]?) : w'.ownsRow B e size v n xs := by
  refine ⟨h.1, ?_⟩
  rcases h.2 with h0 | ⟨g, cap, cur, rfl, hb, hg, h1⟩
  · exact .inl h0
  · exact .inr ⟨g, cap, cur, rfl, hb, (hk g rfl).trans hg, h1⟩

/-- what a program's Streams answers. -/
def StrQ (s : ByteArray) (ins : List (List Int)) (n : Int) (B : Nat) (w' : World) (v : Value) : Prop :=
  if strR s n = 0 then ∀ L, RGood s L → Right (toks s) L → ∃ g RV, OwnRows B w' v (eqL L).length n.toNat (sol (toks s) L ins) g RV else ∃ a cap, v = .slice a 0 cap


end Go.Proofs.Ytmndgoapkmhglaa

/- an argument that is a list of lists, opened. -/
namespace Go.Proofs.Ytmndgoapkmhglaa
open Go.ChangeShapes Go.WideShapes Go.RowKit Go.Deep

theorem Try.cellsInts : Try.prog.cellsOf 48 = 1 := by kernel_rfl
theorem Try.cellsInt : Try.prog.cellsOf 3 = 1 := by kernel_rfl
theorem Try.bytesInts : Try.prog.bytesOf 48 = 24 := by kernel_rfl
theorem Try.bytesInt : Try.prog.bytesOf 3 = 8 := by kernel_rfl
theorem Try.laidOut : laidOutB Try.prog = true := by kernel_rfl

theorem plain_add (b o r : Nat) : (⟨b, o, none⟩ : Addr).add r = ⟨b, o + r, none⟩ := Addr.add_lit b o r

theorem wf_i64 {n : Int} (h : (Lit.int .i64 n).wf = true) : -9223372036854775808 ≤ n ∧ n ≤ 9223372036854775807 := by
  simp only [Lit.wf, Bool.and_eq_true, decide_eq_true_eq] at h
  exact h

theorem spot_none {w : World} {a : Addr} {v : Value} (h : w.cell? (a.add 0) = some v) : a.spot = none := by
  obtain ⟨b, o, sp⟩ := a
  simpa [Addr.add] using World.cell?_spot h

theorem weights_all {H : Type} {P : Program} {e : TypeId} {d : DataW H} : ∀ (l : List (DataW H)), d ∈ l → ∀ n ∈ d.weights P e, n ∈ DataW.weightsAll P e l := by
  intro l
  induction l with
  | nil => intro h; simp at h
  | cons x r ih =>
    intro h n hn
    simp only [DataW.weightsAll, List.mem_append]
    rcases List.mem_cons.1 h with rfl | h
    · exact .inl hn
    · exact .inr (ih h n hn)

set_option maxRecDepth 100000 in
theorem open_lists {H : Type} {enc : TypeId × Value → H} {W : World} {A0 : Option Addr} {len0 cap0 : Nat} {d : DataW H} {ps : List MemPlace} (h : DataW.Trod enc Try.prog W 0 (fun _ => true) true 43 (.slice A0 len0 cap0) d ps)
    (hw : ∀ n ∈ d.weights Try.prog 43, n ≤ reachBytes) :
    ∃ (ins : List (List Int)) (AS : Nat → Option Addr) (CS : Nat → Nat), len0 = ins.length ∧ ArgL W A0 cap0 ins AS CS ∧ ∀ l ∈ ins, ∀ x ∈ l, (Lit.int .i64 x).wf = true := by
  obtain ⟨fuel, hf⟩ := h
  have hrb : reachBytes = 140737488351232 := rfl
  rcases open_int_rows Try.underlying43 Try.underlying48 Try.underlying3 Try.cellsInts Try.cellsInt hf with ⟨hcs, hx⟩ | ⟨a, len, cap, A, L, C, Z, hcs, _, hl, hm, hx, hrows⟩
  · simp [Value.cells] at hcs
    obtain ⟨rfl, rfl, rfl⟩ := hcs
    exact ⟨[], fun _ => none, fun _ => 0, rfl, ⟨by simp, fun _ => rfl, fun hp => by simp at hp, fun r hr => by simp at hr, fun r hr => by simp at hr⟩, fun l hl => by simp at hl⟩
  · simp [Value.cells] at hcs
    obtain ⟨rfl, rfl, rfl⟩ := hcs
    simp only [Prod.mk.injEq] at hx
    obtain ⟨rfl, rfl⟩ := hx
    have hsz : (len0 + (cap0 - len0)) * 24 ≤ reachBytes := by
      have := hw ((len0 + (cap0 - len0)) * 24) (by simp [DataW.weights, Try.underlying43, Try.bytesInts])
      exact this
    have hrow : ∀ r, r < len0 → (A r ≠ none → C r * 8 ≤ reachBytes) := fun r hr hne => by
      obtain ⟨_, h1, _, h2, _, h3, _⟩ := hrows r (by omega)
      refine hw _ ?_
      simp only [DataW.weights, Try.underlying43, List.mem_cons, List.mem_append]
      refine .inr (.inl (weights_all (d := intRow .i64 (A r) (L r) (Z r)) _ (List.mem_map.2 ⟨r, List.mem_range.2 hr, rfl⟩) _ ?_))
      cases hA : A r with
      | none => exact absurd hA hne
      | some a' =>
        simp only [intRow, DataW.weights, Try.underlying48, List.mem_cons]
        refine .inl ?_
        rw [Try.bytesInt]
        simp [lits]
        omega
    have hLl : ∀ r, r < len0 → ((Z r).take (L r)).length = L r := fun r hr => by
      obtain ⟨_, h1, _, h2, _⟩ := hrows r (by omega)
      rw [List.length_take]; omega
    have hget : ∀ r, (hr : r < ((List.range len0).map fun r => (Z r).take (L r)).length) → ((List.range len0).map fun r => (Z r).take (L r))[r] = (Z r).take (L r) := fun r hr => by simp
    refine ⟨(List.range len0).map fun r => (Z r).take (L r), A, C, by simp, ⟨by simp; omega, fun h => (by cases h), fun hp => ?_, fun r hr => ?_, fun r hr => ?_⟩, fun l hl x hx => ?_⟩
    · simp at hp
      obtain ⟨b, o, sp⟩ := a
      have hs : sp = none := spot_none (hrows 0 (by omega)).1
      subst hs
      refine ⟨b, o, rfl, ?_, fun r hr => ?_⟩
      · have := World.block_lt_of_cell? _ _ (hrows 0 (by omega)).1
        simpa [Addr.add] using this
      · have hr' : r < len0 := by simpa using hr
        rw [hget r hr, hLl r hr', ← plain_add]
        exact (hrows r (by omega)).1
    · have hr' : r < len0 := by simpa using hr
      obtain ⟨_, h1, _, h2, _, h3, h4⟩ := hrows r (by omega)
      rw [hget r hr]
      have hCr : A r = none ∨ C r * 8 ≤ reachBytes := by
        by_cases hA : A r = none
        · exact .inl hA
        · exact .inr (hrow r hr' hA)
      refine ⟨⟨A r, C r, by rw [hLl r hr'], ?_, fun hp => ?_⟩, fun hA => ?_, ?_⟩
      · rw [hLl r hr']
        rcases hCr with hA | hC
        · have := h3 hA; omega
        · omega
      · rw [hLl r hr'] at hp
        cases hA : A r with
        | none => have := h3 hA; omega
        | some a' =>
          obtain ⟨_, hcell⟩ := h4 a' hA
          obtain ⟨b, o, sp⟩ := a'
          have hs : sp = none := spot_none (hcell 0 (by omega))
          subst hs
          refine ⟨b, o, rfl, ?_, fun c hc => ?_⟩
          · have := World.block_lt_of_cell? _ _ (hcell 0 (by omega))
            simpa [Addr.add] using this
          · rw [hLl r hr'] at hc
            rw [← plain_add, hcell c (by omega)]
            simp [List.getElem_take, List.getD_eq_getElem?_getD, List.getElem?_eq_getElem (show c < (Z r).length by omega)]
      · have := h3 hA
        rw [List.eq_nil_iff_length_eq_zero, hLl r hr']
        omega
      · rw [hLl r hr']
        rcases hCr with hA | hC
        · have := h3 hA; omega
        · omega
    · have hr' : r < len0 := by simpa using hr
      rw [hget r hr, hLl r hr']
      exact (hrows r (by omega)).2.1
    · obtain ⟨r, hr, rfl⟩ := List.mem_map.1 hl
      obtain ⟨_, _, _, _, h5, _⟩ := hrows r (by have := List.mem_range.1 hr; omega)
      exact h5 x (List.mem_of_mem_take hx)

end Go.Proofs.Ytmndgoapkmhglaa
