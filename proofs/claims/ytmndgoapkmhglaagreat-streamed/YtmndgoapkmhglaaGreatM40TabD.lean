import Derived.Test.YtmndgoapkmhglaaGreatM31RefK
import Derived.Test.YtmndgoapkmhglaaGreatM35RefU
import Derived.Test.YtmndgoapkmhglaaGreatM39TabA
/- number, number, apply. -/
namespace Go.Proofs.YtmndgoapkmhglaaGreat
open Go.RowKit
attribute [local go_sem ↓] Go.wp_at_zero Go.wp_at_succ

theorem rnumber_any (w : World) (b : Bool) :
    Calls Tryz.prog 53 #[.bool b] w fun e w' => e = .returned (.int .i64 (b2i b)) ∧ Below w.heap.size w w' := by
  cases b
  all_goals
    go_enter Tryz.func53, Tryz.ntmps53
    go_wp2
    go_ret
    exact ⟨rfl, Below.refl _ _⟩

theorem apF_lt (a b : Int) : apF [60] a b = b2i (decide (a < b)) := rfl
theorem apF_eq (a b : Int) : apF [61] a b = b2i (decide (a = b)) := rfl
theorem apF_and (a b : Int) : apF [38] a b = b2i (decide (a = 1) && decide (b = 1)) := rfl

set_option maxHeartbeats 2000000 in
theorem rapply_any (o : ByteArray) (w : World) (x y : Int) :
    Calls Tryz.prog 86 #[.string o, .int .i64 x, .int .i64 y] w fun e w' => e = .returned (.int .i64 (apF o.data.toList x y)) ∧ Below w.heap.size w w' := by
  by_cases h1 : o.data.toList = [43]
  · have HF : Hid (apF o.data.toList x y = w64 (x + y)) := hide (by rw [h1]; rfl)
    have q1 := str_yes h1
    clear h1
    go_enter Tryz.func86, Tryz.ntmps86
    go_wp2
    go_ret
    exact ⟨by rw [HF.out]; rfl, Below.refl _ _⟩
  have q1 := str_no h1
  by_cases h2 : o.data.toList = [45]
  · have HF : Hid (apF o.data.toList x y = w64 (x - y)) := hide (by rw [h2]; rfl)
    have q2 := str_yes h2
    clear h1 h2
    go_enter Tryz.func86, Tryz.ntmps86
    go_wp2
    go_ret
    exact ⟨by rw [HF.out]; rfl, Below.refl _ _⟩
  have q2 := str_no h2
  by_cases h3 : o.data.toList = [42]
  · have HF : Hid (apF o.data.toList x y = w64 (x * y)) := hide (by rw [h3]; rfl)
    have q3 := str_yes h3
    clear h1 h2 h3
    go_enter Tryz.func86, Tryz.ntmps86
    go_wp2
    go_ret
    exact ⟨by rw [HF.out]; rfl, Below.refl _ _⟩
  have q3 := str_no h3
  by_cases h4 : o.data.toList = [47]
  · have q4 := str_yes h4
    by_cases hy : y = 0
    · have HF : Hid (apF o.data.toList x y = 0) := hide (by rw [h4, hy]; rfl)
      have q5 : (y == 0) = true := by rw [hy]; rfl
      clear h1 h2 h3 h4 hy
      go_enter Tryz.func86, Tryz.ntmps86
      go_wp2
      go_ret
      exact ⟨by rw [HF.out]; rfl, Below.refl _ _⟩
    · have HF : Hid (apF o.data.toList x y = w64 (x.tdiv y)) := hide (by rw [h4]; show (if y = 0 then 0 else w64 (x.tdiv y)) = _; rw [if_neg hy])
      have q5 : (y == 0) = false := by rw [beq_eq_false_iff_ne]; exact hy
      clear h1 h2 h3 h4
      go_enter Tryz.func86, Tryz.ntmps86
      go_wp2
      go_ret
      exact ⟨by rw [HF.out]; rfl, Below.refl _ _⟩
  have q4 := str_no h4
  by_cases h5 : o.data.toList = [60]
  · have HF : Hid (apF o.data.toList x y = b2i (decide (x < y))) := hide (by rw [h5]; rfl)
    have q5 := str_yes h5
    have HN := hide (fun W b => rnumber_any W b)
    clear h1 h2 h3 h4 h5
    go_enter Tryz.func86, Tryz.ntmps86
    go_wp2_with fail
    refine (HN.out _ _).mono ?_
    rintro e w1 ⟨rfl, hb1⟩
    go_wp2
    go_ret
    exact ⟨by rw [HF.out]; rfl, hb1⟩
  have q5 := str_no h5
  by_cases h6 : o.data.toList = [61]
  · have HF : Hid (apF o.data.toList x y = b2i (decide (x = y))) := hide (by rw [h6]; rfl)
    have q6 := str_yes h6
    have HN := hide (fun W b => rnumber_any W b)
    clear h1 h2 h3 h4 h5 h6
    go_enter Tryz.func86, Tryz.ntmps86
    go_wp2_with fail
    refine (HN.out _ _).mono ?_
    rintro e w1 ⟨rfl, hb1⟩
    go_wp2
    go_ret
    exact ⟨by rw [HF.out]; rfl, hb1⟩
  have q6 := str_no h6
  have HN := hide (fun W b => rnumber_any W b)
  have hcx : x = 1 ∨ (x == 1) = false := by by_cases e : x = 1 <;> simp [e]
  have hcy : y = 1 ∨ (y == 1) = false := by by_cases e : y = 1 <;> simp [e]
  by_cases h7 : o.data.toList = [38]
  · have HF : Hid (apF o.data.toList x y = b2i (decide (x = 1) && decide (y = 1))) := hide (by rw [h7]; rfl)
    have q7 := str_yes h7
    clear h1 h2 h3 h4 h5 h6 h7
    rcases hcx with rfl | c1
    · rcases hcy with rfl | c2
      all_goals
        go_enter Tryz.func86, Tryz.ntmps86
        go_wp2_with fail
        refine (HN.out _ _).mono ?_
        rintro e w1 ⟨rfl, hb1⟩
        go_wp2
        go_ret
        exact ⟨by rw [HF.out]; simp_all, hb1⟩
    · go_enter Tryz.func86, Tryz.ntmps86
      go_wp2_with fail
      refine (HN.out _ _).mono ?_
      rintro e w1 ⟨rfl, hb1⟩
      go_wp2
      go_ret
      exact ⟨by rw [HF.out]; simp_all, hb1⟩
  have q7 := str_no h7
  have HF : Hid (apF o.data.toList x y = b2i (decide (x = 1) || decide (y = 1))) := hide (by unfold apF; rw [if_neg h1, if_neg h2, if_neg h3, if_neg h4, if_neg h5, if_neg h6, if_neg h7])
  clear h1 h2 h3 h4 h5 h6 h7
  rcases hcx with rfl | c1
  · go_enter Tryz.func86, Tryz.ntmps86
    go_wp2_with fail
    refine (HN.out _ _).mono ?_
    rintro e w1 ⟨rfl, hb1⟩
    go_wp2
    go_ret
    exact ⟨by rw [HF.out]; simp_all, hb1⟩
  · rcases hcy with rfl | c2
    all_goals
      go_enter Tryz.func86, Tryz.ntmps86
      go_wp2_with fail
      refine (HN.out _ _).mono ?_
      rintro e w1 ⟨rfl, hb1⟩
      go_wp2
      go_ret
      exact ⟨by rw [HF.out]; simp_all, hb1⟩

end Go.Proofs.YtmndgoapkmhglaaGreat

/- element, number, apply. -/
namespace Go.Proofs.YtmndgoapkmhglaaGreat
open Go.RowKit
attribute [local go_sem ↓] Go.wp_at_zero Go.wp_at_succ

set_option maxHeartbeats 1000000 in
theorem relement_any (w : World) (v : Value) (ins : List (List Int)) (h : LsAt w v ins) (i k : Nat) :
    Calls Tryz.prog 31 #[v, .int .i64 (i : Int), .int .i64 (k : Int)] w fun e w' => e = .returned (.int .i64 (elemF ins i k)) ∧ Below w.heap.size w w' := by
  obtain ⟨A, C, rfl, hm, hc⟩ := h
  by_cases hi : i < ins.length
  · obtain ⟨b, o, rfl, hb, hr⟩ := hc (by omega)
    obtain ⟨x, hx, A', C', rfl, hm', hc'⟩ := hr i hi
    have j1 : ¬ (i : Int) < 0 := by omega
    have j2 : ¬ (i : Int) ≥ (ins.length : Int) := by omega
    have j3 : ¬ (k : Int) < 0 := by omega
    have i1 : (0 : Int) ≤ (i : Int) := by omega
    have i2 : (i : Int) < (ins.length : Int) := by omega
    by_cases hk : k < ins[i].length
    · obtain ⟨b', o', rfl, hb', hr'⟩ := hc' (by omega)
      have hv : elemF ins i k = ins[i][k] := by
        unfold elemF
        rw [List.getD_eq_getElem?_getD, List.getD_eq_getElem?_getD, List.getElem?_eq_getElem hi, Option.getD_some, List.getElem?_eq_getElem hk, Option.getD_some]
      have hx' := hr' k hk
      have HV := hide hv
      have k1 : (0 : Int) ≤ (k : Int) := by omega
      generalize ins[i][k] = z at hx' HV
      have k2 : (k : Int) < (ins[i].length : Int) := by omega
      have k3 : ¬ (k : Int) ≥ (ins[i].length : Int) := by omega
      clear hv hc hc' hr hr' hk
      generalize ins[i].length = n at *
      go_enter Tryz.func31, Tryz.ntmps31
      go_wp2
      go_ret
      exact ⟨by rw [HV.out]; rfl, Below.refl _ _⟩
    · have hv : elemF ins i k = 0 := by
        unfold elemF
        rw [List.getD_eq_getElem?_getD, List.getD_eq_getElem?_getD, List.getElem?_eq_getElem hi, Option.getD_some, List.getElem?_eq_none (Nat.le_of_not_lt hk)]; rfl
      have HV := hide hv
      have k3 : (k : Int) ≥ (ins[i].length : Int) := by omega
      clear hv hc hc' hr
      generalize ins[i].length = n at *
      go_enter Tryz.func31, Tryz.ntmps31
      go_wp2
      go_ret
      exact ⟨by rw [HV.out]; rfl, Below.refl _ _⟩
  · have hv : elemF ins i k = 0 := by
      unfold elemF
      have e : ins[i]? = none := List.getElem?_eq_none (Nat.le_of_not_lt hi)
      rw [List.getD_eq_getElem?_getD, List.getD_eq_getElem?_getD, e]; rfl
    have HV := hide hv
    have j1 : ¬ (i : Int) < 0 := by omega
    have j2 : (i : Int) ≥ (ins.length : Int) := by omega
    clear hv hc
    go_enter Tryz.func31, Tryz.ntmps31
    go_wp2
    go_ret
    exact ⟨by rw [HV.out]; rfl, Below.refl _ _⟩

end Go.Proofs.YtmndgoapkmhglaaGreat

/- the table of the document's own answer; named. -/
namespace Go.Proofs.YtmndgoapkmhglaaGreat
open Go.RowKit
attribute [local go_sem ↓] Go.wp_at_zero Go.wp_at_succ

/-- the table: how far the streams have come (its marks aside). -/
structure RTabB (w0 w : World) (tb q g cap : Nat) (ts : List Tk) (L : List Dl) (vE vA vI vQ vX : Value) (ins : List (List Int)) (aR : Option Addr) (gr rc N : Nat) (R : Nat → Nat) (F : Nat → Nat → Int) (now : Nat) (vD : Value) : Prop where
  bel : Below w0.heap.size w0 w
  prog : RProg w0 q g cap ts L vE vA vI vQ
  lists : LsAt w0 vX ins
  tb0 : w0.heap.size ≤ tb
  lt : tb < w.heap.size
  blk : w.heap[tb]? = some (.cells #[.pointer (some ⟨q, 0, none⟩), vX, .slice aR (eqL L).length rc, .int .i64 (now : Int), vD] 99)
  aR : 0 < (eqL L).length → aR = some ⟨gr, 0, none⟩
  mat : MatI w gr (eqL L).length N R F
  gr0 : 0 < (eqL L).length → w0.heap.size ≤ gr
  R0 : ∀ i, i < (eqL L).length → w0.heap.size ≤ R i
  ne1 : 0 < (eqL L).length → gr ≠ tb
  ne2 : ∀ i, i < (eqL L).length → R i ≠ tb
/-- with its marks. -/
structure RTab (w0 w : World) (tb q g cap : Nat) (ts : List Tk) (L : List Dl) (vE vA vI vQ vX : Value) (ins : List (List Int)) (aR : Option Addr) (gr rc N : Nat) (R : Nat → Nat) (F : Nat → Nat → Int) (now gd : Nat) (D : Nat → Bool) : Prop
    extends RTabB w0 w tb q g cap ts L vE vA vI vQ vX ins aR gr rc N R F now (.slice (some ⟨gd, 0, none⟩) (eqL L).length (eqL L).length) where
  done : w.rowIs gd 4 (eqL L).length (fun i => .bool (D i))
  gd0 : w0.heap.size ≤ gd
  ne3 : gd ≠ tb
  ne4 : 0 < (eqL L).length → gd ≠ gr
  ne5 : ∀ i, i < (eqL L).length → R i ≠ gd

section
variable {w0 w w' : World} {tb q g cap : Nat} {ts : List Tk} {L : List Dl} {vE vA vI vQ vX : Value} {ins : List (List Int)} {aR : Option Addr} {gr rc N : Nat} {R : Nat → Nat} {F : Nat → Nat → Int} {now gd : Nat} {D : Nat → Bool} {vD : Value}

theorem RTabB.c0 (h : RTabB w0 w tb q g cap ts L vE vA vI vQ vX ins aR gr rc N R F now vD) : w.cell? ⟨tb, 0, none⟩ = some (.pointer (some ⟨q, 0, none⟩)) := by rw [cell_of_row w tb 0 _ _ _ h.blk]; rfl
theorem RTabB.c1 (h : RTabB w0 w tb q g cap ts L vE vA vI vQ vX ins aR gr rc N R F now vD) : w.cell? ⟨tb, 1, none⟩ = some vX := by rw [cell_of_row w tb 1 _ _ _ h.blk]; rfl
theorem RTabB.c2 (h : RTabB w0 w tb q g cap ts L vE vA vI vQ vX ins aR gr rc N R F now vD) : w.cell? ⟨tb, 2, none⟩ = some (.slice aR (eqL L).length rc) := by rw [cell_of_row w tb 2 _ _ _ h.blk]; rfl
theorem RTabB.c3 (h : RTabB w0 w tb q g cap ts L vE vA vI vQ vX ins aR gr rc N R F now vD) : w.cell? ⟨tb, 3, none⟩ = some (.int .i64 (now : Int)) := by rw [cell_of_row w tb 3 _ _ _ h.blk]; rfl
theorem RTabB.c4 (h : RTabB w0 w tb q g cap ts L vE vA vI vQ vX ins aR gr rc N R F now vD) : w.cell? ⟨tb, 4, none⟩ = some vD := by rw [cell_of_row w tb 4 _ _ _ h.blk]; rfl
theorem RTabB.froz (h : RTabB w0 w tb q g cap ts L vE vA vI vQ vX ins aR gr rc N R F now vD) (k : Nat) : w.frozen? ⟨tb, k, none⟩ = false := by
  simp [World.frozen?, h.blk]
theorem RTabB.below (h : RTabB w0 w tb q g cap ts L vE vA vI vQ vX ins aR gr rc N R F now vD) (hb : Below w.heap.size w w') : RTabB w0 w' tb q g cap ts L vE vA vI vQ vX ins aR gr rc N R F now vD :=
  ⟨h.bel.trans (hb.mono h.bel.size), h.prog, h.lists, h.tb0, Nat.lt_of_lt_of_le h.lt hb.size, (hb.block tb h.lt).trans h.blk, h.aR, h.mat.below hb, h.gr0, h.R0, h.ne1, h.ne2⟩
theorem RTab.below (h : RTab w0 w tb q g cap ts L vE vA vI vQ vX ins aR gr rc N R F now gd D) (hb : Below w.heap.size w w') : RTab w0 w' tb q g cap ts L vE vA vI vQ vX ins aR gr rc N R F now gd D :=
  ⟨h.toRTabB.below hb, h.done.of_block (hb.block _ (World.rowIs.lt h.done)), h.gd0, h.ne3, h.ne4, h.ne5⟩

theorem bel_set {w0 w : World} {p : Addr} (h : Below w0.heap.size w0 w) (hp : w0.heap.size ≤ p.block) (v : Value) : Below w0.heap.size w0 (w.setCell p v) := h.setCell hp v

/-- new marks. -/
theorem RTabB.marks (h : RTabB w0 w tb q g cap ts L vE vA vI vQ vX ins aR gr rc N R F now vD) :
    RTab w0 ((w.alloc (.cells (madeCells #[.bool false] (eqL L).length) 4)).setCell ⟨tb, 4, none⟩ (.slice (some ⟨w.heap.size, 0, none⟩) (eqL L).length (eqL L).length)) tb q g cap ts L vE vA vI vQ vX ins aR gr rc N R F now w.heap.size (fun _ => false) := by
  have hs := h.bel.size
  have hlt := h.lt
  have hA : Below w.heap.size w (w.alloc (.cells (madeCells #[.bool false] (eqL L).length) 4)) := (Below.refl _ _).alloc (Nat.le_refl _) _
  have h1 := h.below hA
  have oth : ∀ k, k ≠ tb → ((w.alloc (.cells (madeCells #[.bool false] (eqL L).length) 4)).setCell ⟨tb, 4, none⟩ (.slice (some ⟨w.heap.size, 0, none⟩) (eqL L).length (eqL L).length)).heap[k]? = (w.alloc (.cells (madeCells #[.bool false] (eqL L).length) 4)).heap[k]? := fun k hk => heap_setCell_other _ ⟨tb, 4, none⟩ k _ hk
  refine ⟨⟨h1.bel.setCell h.tb0 _, h.prog, h.lists, h.tb0, ?_, ?_, h.aR, ?_, h.gr0, h.R0, h.ne1, h.ne2⟩, ?_, hs, by omega, fun hp => ?_, fun i hi => ?_⟩
  · simp; omega
  · rw [heap_setCell_same _ tb 4 _ _ _ h1.blk]; rfl
  · rcases Nat.eq_zero_or_pos (eqL L).length with hz | hp
    · exact ⟨fun i hi => by omega, fun i hi => by omega, fun i j hi => by omega, fun i hi => by omega⟩
    · exact h1.mat.keep (oth gr (h.ne1 hp)) (fun i hi => oth _ (h.ne2 i hi))
  · exact ((World.rowIs_made w (.bool false) (eqL L).length 4).setOther (by show w.heap.size ≠ tb; omega) _)
  · have := h.mat.lt hp; omega
  · have := World.rowIs.lt (h.mat.rows i hi); omega

/-- a value is laid. -/
theorem RTab.put (h : RTab w0 w tb q g cap ts L vE vA vI vQ vX ins aR gr rc N R F now gd D) {a : Nat} (ha : a < (eqL L).length) (b : Nat) (v : Int) :
    RTab w0 (w.setCell ⟨R a, b, none⟩ (.int .i64 v)) tb q g cap ts L vE vA vI vQ vX ins aR gr rc N R (setR F a b v) now gd D :=
  ⟨⟨h.bel.setCell (h.R0 a ha) _, h.prog, h.lists, h.tb0, by simpa using h.lt, (heap_setCell_other w ⟨R a, b, none⟩ tb _ (Ne.symm (h.ne2 a ha))).trans h.blk, h.aR, h.mat.set ha b v, h.gr0, h.R0, h.ne1, h.ne2⟩,
   h.done.setOther (a := ⟨R a, b, none⟩) (Ne.symm (h.ne5 a ha)) _, h.gd0, h.ne3, h.ne4, h.ne5⟩
/-- a mark is laid. -/
theorem RTab.mark (h : RTab w0 w tb q g cap ts L vE vA vI vQ vX ins aR gr rc N R F now gd D) (a : Nat) (v : Bool) :
    RTab w0 (w.setCell ⟨gd, a, none⟩ (.bool v)) tb q g cap ts L vE vA vI vQ vX ins aR gr rc N R F now gd (setD D a v) := by
  refine ⟨⟨h.bel.setCell h.gd0 _, h.prog, h.lists, h.tb0, by simpa using h.lt, (heap_setCell_other w ⟨gd, a, none⟩ tb _ (Ne.symm h.ne3)).trans h.blk, h.aR, ?_, h.gr0, h.R0, h.ne1, h.ne2⟩, ?_, h.gd0, h.ne3, h.ne4, h.ne5⟩
  · rcases Nat.eq_zero_or_pos (eqL L).length with hz | hp
    · exact ⟨fun i hi => by omega, fun i hi => by omega, fun i j hi => by omega, fun i hi => by omega⟩
    · exact h.mat.keep (heap_setCell_other w ⟨gd, a, none⟩ gr _ (Ne.symm (h.ne4 hp))) (fun i hi => heap_setCell_other w ⟨gd, a, none⟩ _ _ (h.ne5 i hi))
  · refine (h.done.set a (.bool v)).congr (fun j _ => ?_)
    unfold setD
    by_cases e : j = a
    · subst e; simp
    · simp [e]
/-- the next instant. -/
theorem RTabB.tick (h : RTabB w0 w tb q g cap ts L vE vA vI vQ vX ins aR gr rc N R F now vD) :
    RTabB w0 (w.setCell ⟨tb, 3, none⟩ (.int .i64 ((now + 1 : Nat) : Int))) tb q g cap ts L vE vA vI vQ vX ins aR gr rc N R F (now + 1) vD := by
  refine ⟨h.bel.setCell h.tb0 _, h.prog, h.lists, h.tb0, by simpa using h.lt, ?_, h.aR, ?_, h.gr0, h.R0, h.ne1, h.ne2⟩
  · rw [heap_setCell_same _ tb 3 _ _ _ h.blk]; rfl
  · rcases Nat.eq_zero_or_pos (eqL L).length with hz | hp
    · exact ⟨fun i hi => by omega, fun i hi => by omega, fun i j hi => by omega, fun i hi => by omega⟩
    · exact h.mat.keep (heap_setCell_other w ⟨tb, 3, none⟩ gr _ (h.ne1 hp)) (fun i hi => heap_setCell_other w ⟨tb, 3, none⟩ _ _ (h.ne2 i hi))
end

/-- the number and the mark of an equation, by name. -/
theorem knR_in {ts : List Tk} {L : List Dl} {ins : List (List Int)} {F : Nat → Nat → Int} {D : Nat → Bool} {now n m : Nat} {nm : List UInt8} (hm : m < (inL L).length) (hb : ∀ j, (hj : j < m) → nmIs ts nm ((inL L)[j]'(by omega)) = false) (hh : nmIs ts nm (inL L)[m] = true) :
    knR ts L ins F D now nm n = (elemF ins m n, true) := by
  have e : inIx ts L nm = some m := by
    unfold inIx
    rw [List.findIdx?_eq_some_iff_getElem]
    exact ⟨hm, hh, fun j hj => by simpa using hb j hj⟩
  unfold knR
  rw [e]
theorem in_none {ts : List Tk} {L : List Dl} {nm : List UInt8} (hb : ∀ j, (hj : j < (inL L).length) → nmIs ts nm (inL L)[j] = false) : inIx ts L nm = none := by
  unfold inIx
  rw [List.findIdx?_eq_none_iff]
  intro x hx
  obtain ⟨j, hj, rfl⟩ := List.getElem_of_mem hx
  exact hb j hj
theorem knR_eq {ts : List Tk} {L : List Dl} {ins : List (List Int)} {F : Nat → Nat → Int} {D : Nat → Bool} {now n m : Nat} {nm : List UInt8} (H : Right ts L) (hi : inIx ts L nm = none) (hm : m < (eqL L).length) (hh : nmIs ts nm (eqL L)[m] = true) (hk : (decide (n < now) || D m) = true) :
    knR ts L ins F D now nm n = (F m n, true) := by
  obtain ⟨j, hj⟩ : ∃ j, eqIx ts L nm = some j := ix_some (List.getElem_mem hm) hh
  obtain ⟨x, hx, hn⟩ := eqIx_some hj
  have e : j = m := H.same hx (List.getElem?_eq_getElem hm) (by rw [hn]; unfold nmIs at hh; exact (beq_iff_eq.1 hh).symm)
  subst e
  unfold knR
  rw [hi, hj]
  simp only [hk]
  rfl
theorem knR_none {ts : List Tk} {L : List Dl} {ins : List (List Int)} {F : Nat → Nat → Int} {D : Nat → Bool} {now n : Nat} {nm : List UInt8} (hi : inIx ts L nm = none) (hb : ∀ j, (hj : j < (eqL L).length) → nmIs ts nm (eqL L)[j] = true → (decide (n < now) || D j) = false) :
    knR ts L ins F D now nm n = (0, false) := by
  unfold knR
  rw [hi]
  cases he : eqIx ts L nm with
  | none => rfl
  | some j =>
    obtain ⟨x, hx, hn⟩ := eqIx_some he
    obtain ⟨hj, rfl⟩ := List.getElem?_eq_some_iff.1 hx
    have := hb j hj (by unfold nmIs; rw [hn]; simp)
    simp only [this]
    rfl

end Go.Proofs.YtmndgoapkmhglaaGreat

/- named. -/
namespace Go.Proofs.YtmndgoapkmhglaaGreat
open Go.RowKit
attribute [local go_sem ↓] Go.wp_at_zero Go.wp_at_succ

abbrev vOk (r : Int × Bool) : Value := .tuple #[.int .i64 r.1, .bool r.2]

set_option maxHeartbeats 2000000 in
set_option maxRecDepth 100000 in
theorem rnamed_any (w0 w : World) (tb q g cap : Nat) (ts : List Tk) (L : List Dl) (vE vA vI vQ vX : Value) (ins : List (List Int)) (aR : Option Addr) (gr rc N : Nat) (R : Nat → Nat) (F : Nat → Nat → Int) (now gd : Nat) (D : Nat → Bool)
    (h : RTab w0 w tb q g cap ts L vE vA vI vQ vX ins aR gr rc N R F now gd D) (H : Right ts L) (nm : ByteArray) (n : Nat) (hn : n ≤ now) (hN : now < N) :
    Calls Tryz.prog 108 #[.pointer (some ⟨tb, 0, none⟩), .string nm, .int .i64 (n : Int)] w fun e w' => e = .returned (vOk (knR ts L ins F D now nm.data.toList n)) ∧ Below w.heap.size w w' := by
  obtain ⟨hf1, hf2⟩ := H.few
  obtain ⟨ai, ci, rfl, hshi⟩ := own_shape h.prog.ins
  obtain ⟨aq, cq, rfl, hshq⟩ := own_shape h.prog.eqs
  have HT := hide h
  have HH := hide H
  have HI := hide hshi
  have HQ := hide hshq
  have HP : Hid (∀ W, Below w.heap.size w W → RProg W q g cap ts L vE vA (.slice ai (inL L).length ci) (.slice aq (eqL L).length cq) ∧ Below w0.heap.size w0 W) := hide (fun W hW => ⟨HT.out.prog.below (HT.out.below hW).bel, (HT.out.below hW).bel⟩)
  clear h H hshi hshq
  go_enter Tryz.func108, Tryz.ntmps108
  go_wp2
  go_loopw [8] (fun vi wr => ∃ m : Nat, m ≤ (inL L).length ∧ vi = .int .i64 m ∧ Below w.heap.size w wr ∧ ∀ j, (hj : j < m) → (hl : j < (inL L).length) → nmIs ts nm.data.toList ((inL L)[j]'hl) = false) (fun vi _ => (inL L).length - (intOf vi).toNat)
  case atStart => exact ⟨0, Nat.zero_le _, rfl, Below.refl _ _, fun j hj => by omega⟩
  case round =>
    obtain ⟨m, hm, rfl, hbx, hrec⟩ := hrel
    have hT := HT.out.below hbx
    have c0 := hT.c0
    have c1 := hT.c1
    obtain ⟨hP, hb0⟩ := HP.out wr hbx
    have p3 := hP.c3
    have p4 := hP.c4
    have HRC := hide hrec
    have HTB := hide hT
    have HBX := hide hbx
    clear hrec hT hP
    by_cases hml : m < (inL L).length
    · obtain ⟨gi, rfl, _, hgi⟩ := HI.out (by omega)
      obtain ⟨x, hx⟩ : ∃ x, x = (inL L)[m]'hml := ⟨_, rfl⟩
      obtain ⟨y0, _, _, _, _, _⟩ := rd_later HT.out.prog.ins hb0 hgi hml (rdc ts x) (by rw [hx])
      rw [(rdc_tok ts x).2] at y0
      have j3 : (0 : Int) ≤ (m : Int) := by omega
      have j4 : (m : Int) < ((inL L).length : Int) := by omega
      obtain ⟨ee, qE⟩ : ∃ ee, ((nameD ts x).toList == nm.toList) = ee := ⟨_, rfl⟩
      have eE : nmIs ts nm.data.toList ((inL L)[m]'hml) = ee := by
        rw [← qE, ByteArray.toList_eq, ByteArray.toList_eq, ← hx]; rfl
      have HE := hide eE
      generalize nameD ts x = nx at y0 qE
      clear eE hx
      cases ee
      · go_wp2
        go_roundw
        case rel => exact ⟨m + 1, by omega, by go_num, by first | exact HBX.out | exact below_drewN HBX.out _, fun j hj hl => by
          by_cases e : j = m
          · subst e; exact HE.out
          · exact HRC.out j (by omega) hl⟩
        case measure => simp [intOf]; omega
      · have HK : Hid (knR ts L ins F D now nm.data.toList n = (elemF ins m n, true)) := hide (knR_in hml (fun j hj => HRC.out j hj (by omega)) HE.out)
        have HCALL := hide (fun W hW => relement_any W vX ins (HT.out.lists.below hW) m n)
        go_wp2_with fail
        refine (HCALL.out _ hb0).mono ?_
        rintro e w1 ⟨rfl, hb1⟩
        go_wp2
        go_ret2
        exact ⟨by rw [HK.out]; rfl, HBX.out.trans (hb1.mono HBX.out.size)⟩
    · have em : m = (inL L).length := by omega
      subst em
      have z1 : ¬ ((inL L).length : Int) < ((inL L).length : Int) := by omega
      have HIN : Hid (inIx ts L nm.data.toList = none) := hide (in_none (fun j hj => HRC.out j hj hj))
      clear HRC
      go_wp2
      go_loopw [10] (fun vi wx => ∃ m : Nat, m ≤ (eqL L).length ∧ vi = .int .i64 m ∧ Below w.heap.size w wx ∧ ∀ j, (hj : j < m) → (hl : j < (eqL L).length) → nmIs ts nm.data.toList ((eqL L)[j]'hl) = true → (decide (n < now) || D j) = false) (fun vi _ => (eqL L).length - (intOf vi).toNat)
      case atStart => exact ⟨0, Nat.zero_le _, rfl, by first | exact HBX.out | exact below_drewN HBX.out _, fun j hj => by omega⟩
      case round =>
        clear c0 c1 p3 p4 HTB HBX hb0
        obtain ⟨m, hm, rfl, hbx, hrec⟩ := hrel
        have hT := HT.out.below hbx
        have c0 := hT.c0
        have c2 := hT.c2
        have c3 := hT.c3
        have c4 := hT.c4
        obtain ⟨hP, hb0⟩ := HP.out wr hbx
        have p4 := hP.c4
        have HRC := hide hrec
        have HTB := hide hT
        have HBX := hide hbx
        clear hrec hT hP
        by_cases hml : m < (eqL L).length
        · obtain ⟨gq, rfl, _, hgq⟩ := HQ.out (by omega)
          have har := HTB.out.aR (by omega)
          subst har
          obtain ⟨x, hx⟩ : ∃ x, x = (eqL L)[m]'hml := ⟨_, rfl⟩
          obtain ⟨y0, _, _, _, _, _⟩ := rd_later HT.out.prog.eqs hb0 hgq hml (rdc ts x) (by rw [hx])
          rw [(rdc_tok ts x).2] at y0
          have j3 : (0 : Int) ≤ (m : Int) := by omega
          have j4 : (m : Int) < ((eqL L).length : Int) := by omega
          have j5 : (0 : Int) ≤ (n : Int) := by omega
          have j6 : (n : Int) < (N : Int) := by omega
          have o1 := HTB.out.mat.outer m hml
          have o2 := HTB.out.mat.cell (i := m) (j := n) hml (by omega)
          have o3 := HTB.out.done.cell hml
          obtain ⟨ee, qE⟩ : ∃ ee, ((nameD ts x).toList == nm.toList) = ee := ⟨_, rfl⟩
          have eE : nmIs ts nm.data.toList ((eqL L)[m]'hml) = ee := by
            rw [← qE, ByteArray.toList_eq, ByteArray.toList_eq, ← hx]; rfl
          have HE := hide eE
          generalize nameD ts x = nx at y0 qE
          clear eE hx
          have HNX : Hid ((nmIs ts nm.data.toList ((eqL L)[m]'hml) = true → (decide (n < now) || D m) = false) → ∀ j, (hj : j < m + 1) → (hl : j < (eqL L).length) → nmIs ts nm.data.toList ((eqL L)[j]'hl) = true → (decide (n < now) || D j) = false) := hide (fun hh j hj hl => by
            by_cases e : j = m
            · subst e; exact hh
            · exact HRC.out j (by omega) hl)
          cases ee
          · have HN2 := hide (HNX.out (fun h => by rw [HE.out] at h; cases h))
            clear HNX HRC HE o3 c3 c4
            go_wp2
            go_roundw
            case rel => exact ⟨m + 1, by omega, by go_num, by first | exact HBX.out | exact below_drewN HBX.out _, HN2.out⟩
            case measure => simp [intOf]; omega
          · have HKN : Hid ((decide (n < now) || D m) = true → knR ts L ins F D now nm.data.toList n = (F m n, true)) := hide (knR_eq HH.out HIN.out hml HE.out)
            generalize D m = dm at o3 HKN HNX
            generalize F m n = fm at o2 HKN
            clear HRC
            by_cases hlt : n < now
            · have HK := hide (HKN.out (by rw [decide_eq_true hlt]; rfl))
              have q1 : (n : Int) < (now : Int) := by omega
              clear HNX HKN HE
              go_wp2
              go_ret2
              exact ⟨by rw [HK.out]; rfl, by first | exact HBX.out | exact below_drewN HBX.out _⟩
            · have q1 : ¬ (n : Int) < (now : Int) := by omega
              cases dm
              · have HN2 := hide (HNX.out (fun _ => by rw [decide_eq_false hlt]; rfl))
                clear HNX HKN HE
                go_wp2
                go_roundw
                case rel => exact ⟨m + 1, by omega, by go_num, by first | exact HBX.out | exact below_drewN HBX.out _, HN2.out⟩
                case measure => simp [intOf]; omega
              · have HK := hide (HKN.out (by simp))
                clear HNX HKN HE
                go_wp2
                go_ret2
                exact ⟨by rw [HK.out]; rfl, by first | exact HBX.out | exact below_drewN HBX.out _⟩
        · have em : m = (eqL L).length := by omega
          subst em
          have z2 : ¬ ((eqL L).length : Int) < ((eqL L).length : Int) := by omega
          have HK : Hid (knR ts L ins F D now nm.data.toList n = (0, false)) := hide (knR_none HIN.out (fun j hj => HRC.out j hj hj))
          clear HRC
          go_wp2
          go_ret2
          exact ⟨by rw [HK.out]; rfl, HBX.out⟩

end Go.Proofs.YtmndgoapkmhglaaGreat
