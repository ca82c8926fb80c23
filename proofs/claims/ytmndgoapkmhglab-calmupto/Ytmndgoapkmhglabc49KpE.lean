import Derived.Test.Ytmndgoapkmhglabc15RefHa
import Derived.Test.Ytmndgoapkmhglabc29PlyL
import Derived.Test.Ytmndgoapkmhglabc30RefI
import Derived.Test.Ytmndgoapkmhglabc45PStr
import Derived.Test.Ytmndgoapkmhglabc47PRun
import Derived.Test.Ytmndgoapkmhglabc48KpB
/- run: the events, and whether all is as it must be. -/
namespace Go.Proofs.Ytmndgoapkmhglab
open Go.RowKit
attribute [local go_sem ↓] Go.wp_at_zero Go.wp_at_succ

theorem pc_row {B : Nat} {w : World} {v : Value} {ws : List Nat} (h : w.ownsRow B 3 1 v ws.length (pCells ws)) (hn : ws.length ≤ 1048576) : RowAt w v (ws.map fun (p : Nat) => (p : Int)) := by
  rcases h.2 with ⟨rfl, h0⟩ | ⟨g, cap, cur, rfl, hb, hg, h1, h2, h3, h4⟩
  · exact ⟨none, 0, by rw [List.length_map, h0], by rw [List.length_map]; omega, fun hp => by rw [List.length_map] at hp; omega⟩
  · refine ⟨_, _, by rw [List.length_map], by rw [List.length_map]; omega, fun hp => ⟨g, 0, rfl, (Array.getElem?_eq_some_iff.1 hg).1, fun c hc => ?_⟩⟩
    rw [List.length_map] at hc
    rw [Nat.zero_add, h.cellAt c (by omega), List.getElem_map]
    unfold pCells
    rw [List.getElem?_map, List.getElem?_eq_getElem hc]
    rfl
theorem seats_len (s : ByteArray) : (seatsF s).length ≤ s.size := by
  unfold seatsF
  rw [List.length_map]
  exact mkL_len _ _ _

/-- the length of what Run answers. -/
theorem RunQ.len {s : ByteArray} {ins : List (List Int)} {sc : List OpF} {B : Nat} {w' : World} {v : Value} (h : RunQ s ins sc B w' v) (hg : runE s sc = 0 → (textF s).1 = 0) : ∃ a cap, v = .slice a (if runE s sc = 0 then sc.length else 0) cap := by
  unfold RunQ at h
  by_cases h0 : runE s sc = 0
  · rw [if_pos h0] at h ⊢
    obtain ⟨L, hG, hR, _⟩ := good_text (hg h0)
    obtain ⟨TV, VV, hE⟩ := h L hG hR
    obtain ⟨a, cap, e, _⟩ := own_shape hE.row
    exact ⟨a, cap, by rw [e, evsR_len]⟩
  · rw [if_neg h0] at h ⊢
    exact h
theorem runQ_weak {s : ByteArray} {ins : List (List Int)} {sc : List OpF} {B B' : Nat} {w' : World} {v : Value} (h : RunQ s ins sc B w' v) (hb : B' ≤ B) : RunQ s ins sc B' w' v := by
  unfold RunQ at *
  split
  · rename_i h0
    rw [if_pos h0] at h
    intro L hG hR
    obtain ⟨TV, VV, hE⟩ := h L hG hR
    exact ⟨TV, VV, own_weak hE.row hb, fun i hi => own_weak (hE.took i hi) hb, fun i hi => own_weak (hE.vals i hi) hb, hE.apT, hE.apV, hE.apTV, hE.neT, hE.neV⟩
  · rename_i h0
    rw [if_neg h0] at h
    exact h
theorem runE_zero {s : ByteArray} {sc : List OpF} (h : runE s sc = 0) : (textF s).1 = 0 ∧ playK (seatsF s) sc = true := by
  unfold runE at h
  by_cases h0 : (textF s).1 = 0
  · rw [if_neg (by simpa using h0)] at h
    cases hp : playK (seatsF s) sc with
    | true => exact ⟨h0, rfl⟩
    | false => rw [hp] at h; cases h
  · rw [if_pos h0] at h; exact absurd h h0

set_option maxHeartbeats 2000000 in
set_option maxRecDepth 100000 in
theorem krun_any (s : ByteArray) (hs : s.size ≤ 1048576) (w : World) (vX : Value) (ins : List (List Int)) (hX : LsAt w vX ins) (vS : Value) (sc : List OpF) (hS : OpsAt w vS sc) :
    Calls Try.prog 11 #[.string s, vX, vS] w fun e w' => ∃ v, e = .returned (.tuple #[v, .bool (decide (runE s sc = 0)), .bool true]) ∧ RunQ s ins sc w.heap.size w' v ∧ Below w.heap.size w w' := by
  have hsm : s.size ≤ maxLen := by unfold maxLen; omega
  have HX := hide hX
  have HS := hide hS
  obtain ⟨A, C, rfl, hm, _⟩ := hS
  clear hX
  go_enter Try.func11, Try.ntmps11
  go_wp2_with fail
  refine (answers_any w).mono ?_
  rintro e w1 ⟨rfl, hb1⟩
  have HW1 := hide hb1
  clear hb1
  go_wp2_with fail
  refine (check_all s w1 hsm).mono ?_
  rintro e w2 ⟨rfl, hb2⟩
  have HW2 : Hid (Below w.heap.size w w2) := hide (HW1.out.trans (hb2.mono HW1.out.size))
  clear hb2
  go_wp2_with fail
  refine (seats_any s w2 hs).mono ?_
  rintro e w3 ⟨vw, rfl, hown, hb3⟩
  have HRW := hide (pc_row hown (Nat.le_trans (seats_len s) hs))
  have HW3 : Hid (Below w.heap.size w w3) := hide (HW2.out.trans (hb3.mono HW2.out.size))
  clear hown hb3
  go_wp2_with fail
  refine (kplayable_any w3 vw (seatsF s) HRW.out _ sc (HS.out.below HW3.out)).mono ?_
  rintro e w4 ⟨rfl, hb4⟩
  have HW4 : Hid (Below w.heap.size w w4) := hide (HW3.out.trans (hb4.mono HW3.out.size))
  clear hb4
  have HRE : Hid (runE s sc = if (textF s).1 ≠ 0 then (textF s).1 else if playK (seatsF s) sc then 0 else 11) := hide rfl
  have HPR := hide (fun W hX hS => prun_any s hsm W vX ins hX (.slice A sc.length C) sc hS)
  have HLN := hide (fun B w' v (h : RunQ s ins sc B w' v) => RunQ.len h (fun h0 => (runE_zero h0).1))
  generalize playK (seatsF s) sc = pk at *
  generalize (textF s).1 = te at *
  have HT0 : Hid (te ≠ 0 → runE s sc = te) := hide (fun h => by rw [HRE.out, if_pos h])
  by_cases ht : te = 0
  · subst ht
    cases pk with
    | true =>
      have HR0 : Hid (runE s sc = 0) := hide (by rw [HRE.out]; rfl)
      rw [HR0.out] at HPR
      go_wp2_with fail
      refine (HPR.out w4 (HX.out.below HW4.out) (HS.out.below HW4.out)).mono ?_
      rintro e w5 ⟨v, rfl, hq, hb5⟩
      have hln := HLN.out _ _ _ hq
      rw [if_pos HR0.out] at hln
      obtain ⟨a, cap, rfl⟩ := hln
      have HQ := hide hq
      have HW5 : Hid (Below w.heap.size w w5) := hide (HW4.out.trans (hb5.mono HW4.out.size))
      clear hq hb5
      go_wp2
      refine bodyPost_ret (v := .tuple #[.slice a sc.length cap, .bool true, .bool true]) (by simp [results, Try.results11, go_sem]) rfl ?_
      exact ⟨_, by first | rfl | (rw [decide_eq_true HR0.out]) | (rw [decide_eq_false HR0.out]), runQ_weak HQ.out HW4.out.size, HW5.out⟩
    | false =>
      have HR0 : Hid (runE s sc ≠ 0) := hide (by rw [HRE.out]; decide)
      have HR1 : Hid (runE s sc = 11) := hide (by rw [HRE.out]; rfl)
      rw [HR1.out] at HPR
      go_wp2_with fail
      refine (HPR.out w4 (HX.out.below HW4.out) (HS.out.below HW4.out)).mono ?_
      rintro e w5 ⟨v, rfl, hq, hb5⟩
      have hln := HLN.out _ _ _ hq
      rw [if_neg HR0.out] at hln
      obtain ⟨a, cap, rfl⟩ := hln
      have HQ := hide hq
      have HW5 : Hid (Below w.heap.size w w5) := hide (HW4.out.trans (hb5.mono HW4.out.size))
      clear hq hb5
      go_wp2
      refine bodyPost_ret (v := .tuple #[.slice a 0 cap, .bool false, .bool true]) (by simp [results, Try.results11, go_sem]) rfl ?_
      exact ⟨_, by first | rfl | (rw [decide_eq_true HR0.out]) | (rw [decide_eq_false HR0.out]), runQ_weak HQ.out HW4.out.size, HW5.out⟩
  · have q0 : ((te : Int) == 0) = false := by rw [beq_eq_false_iff_ne]; omega
    have q1 : ((te : Int) != 0) = true := by rw [bne_iff_ne]; omega
    have HR0 : Hid (runE s sc ≠ 0) := hide (by rw [HT0.out ht]; exact ht)
    rw [HT0.out ht] at HPR
    go_wp2_with fail
    refine (HPR.out w4 (HX.out.below HW4.out) (HS.out.below HW4.out)).mono ?_
    rintro e w5 ⟨v, rfl, hq, hb5⟩
    have hln := HLN.out _ _ _ hq
    rw [if_neg HR0.out] at hln
    obtain ⟨a, cap, rfl⟩ := hln
    have HQ := hide hq
    have HW5 : Hid (Below w.heap.size w w5) := hide (HW4.out.trans (hb5.mono HW4.out.size))
    clear hq hb5
    go_wp2
    refine bodyPost_ret (v := .tuple #[.slice a 0 cap, .bool false, .bool true]) (by simp [results, Try.results11, go_sem]) rfl ?_
    exact ⟨_, by first | rfl | (rw [decide_eq_true HR0.out]) | (rw [decide_eq_false HR0.out]), runQ_weak HQ.out HW4.out.size, HW5.out⟩

end Go.Proofs.Ytmndgoapkmhglab

/- values: does a place publish its streams' values? -/
namespace Go.Proofs.Ytmndgoapkmhglab
open Go.RowKit
attribute [local go_sem ↓] Go.wp_at_zero Go.wp_at_succ

/-- rows, as they lie. -/
structure RowsAt (w : World) (v : Value) (m n : Nat) (F : Nat → Nat → Int) : Prop where
  at' : ∃ (a : Option Addr) (cap : Nat), v = .slice a m cap ∧ (0 < m → ∃ g, a = some ⟨g, 0, none⟩ ∧ g < w.heap.size ∧ ∀ i, i < m → ∃ x, w.cell? ⟨g, i, none⟩ = some x ∧ RowAt w x (rowF F i n))
theorem RowsAt.below {w w' : World} {v : Value} {m n : Nat} {F : Nat → Nat → Int} (h : RowsAt w v m n F) (hb : Below w.heap.size w w') : RowsAt w' v m n F := by
  obtain ⟨a, cap, hv, h1⟩ := h.at'
  refine ⟨a, cap, hv, fun hp => ?_⟩
  obtain ⟨g, e, hg, h2⟩ := h1 hp
  refine ⟨g, e, Nat.lt_of_lt_of_le hg hb.size, fun i hi => ?_⟩
  obtain ⟨x, hx, hr⟩ := h2 i hi
  exact ⟨x, (hb.cell (p := ⟨g, i, none⟩) hg).trans hx, hr.below hb⟩
theorem OwnRows.at {B : Nat} {w : World} {v : Value} {m n : Nat} {F : Nat → Nat → Int} {g : Nat} {RV : Nat → Value} (h : OwnRows B w v m n F g RV) (hn : n ≤ 1000) : RowsAt w v m n F := by
  obtain ⟨a, cap, hv, ha⟩ := h.shape
  refine ⟨a, cap, hv, fun hp => ⟨g, ha hp, World.block_lt_of_cell? _ _ (h.outer 0 hp), fun i hi => ⟨RV i, h.outer i hi, own_row (h.rows i hi) hn (rowF_len _ _ _)⟩⟩⟩

theorem atG_get {ts : List Tk} {L : List Dl} {pl : Int} {i : Nat} (hi : i < (eqL L).length) (h : ((placeD ts ((eqL L)[i]) : Nat) : Int) = pl) : (atR ts L pl)[(atG ts L pl i).length]? = some i := by
  have hpre : ∀ m, i + 1 ≤ m → m ≤ (eqL L).length → ∃ r, atG ts L pl m = atG ts L pl i ++ i :: r := by
    intro m
    induction m with
    | zero => intro h1; omega
    | succ m ih =>
      intro h1 h2
      rcases Nat.eq_or_lt_of_le h1 with e | h'
      · have : m = i := by omega
        subst this
        exact ⟨[], by rw [atG_hit hi h]⟩
      · obtain ⟨r, hr⟩ := ih (by omega) (by omega)
        by_cases hp : ((placeD ts ((eqL L)[m]'(by omega)) : Nat) : Int) = pl
        · exact ⟨r ++ [m], by rw [atG_hit (by omega) hp, hr]; simp⟩
        · exact ⟨r, by rw [atG_miss (by omega) hp, hr]⟩
  obtain ⟨r, hr⟩ := hpre (eqL L).length (by omega) (Nat.le_refl _)
  unfold atR
  rw [hr, List.getElem?_append_right (Nat.le_refl _), Nat.sub_self]
  rfl

set_option maxHeartbeats 2000000 in
set_option maxRecDepth 100000 in
theorem kvalues_any (w : World) (ts : List Tk) (L : List Dl) (ins : List (List Int)) (pl at0 did : Int) (N : Nat) (vT vV : Value) (sT : ∃ a n c, vT = .slice a n c) (hV : RowAt w vV (valsR ts L ins pl N)) (vR : Value) (hR : RowsAt w vR (eqL L).length 200 (sol ts L ins)) (vW : Value) (hW : RowAt w vW ((plR ts L).map fun (p : Nat) => (p : Int))) (hN : N < 200) (hm : (eqL L).length ≤ 12) :
    Calls Try.prog 14 #[.agg #[.int .i64 pl, .int .i64 at0, .int .i64 did, .int .i64 (N : Int), vT, vV], vR, vW] w fun e w' => e = .returned (.bool true) ∧ Below w.heap.size w w' := by
  obtain ⟨aT, nT, cT, rfl⟩ := sT
  have hpl : (plR ts L).length = (eqL L).length := by unfold plR; rw [List.length_map]
  have hvl : (valsR ts L ins pl N).length = (atR ts L pl).length := by unfold valsR; rw [List.length_map]
  obtain ⟨aV, cV, rfl, hmV, hcV⟩ := hV
  obtain ⟨aR, cR, rfl, hcR⟩ := hR.at'
  obtain ⟨aW, cW, rfl, hmW, hcW⟩ := hW
  have HCV := hide hcV
  have HCR := hide hcR
  have HCW := hide hcW
  rw [List.length_map, hpl, hvl]
  have hal := atG_len ts L pl (eqL L).length
  have hal' : (atR ts L pl).length ≤ 12 := Nat.le_trans hal hm
  clear hcV hcR hcW hmW hmV hR
  obtain ⟨bx, hbx⟩ : ∃ bx, bx = w.alloc (.cells #[.int .i64 pl, .int .i64 at0, .int .i64 did, .int .i64 (N : Int), .slice aT nT cT, .slice aV (atR ts L pl).length cV] 41) := ⟨_, rfl⟩
  have HB0 : Hid (Below w.heap.size w bx) := hide (by rw [hbx]; exact (Below.refl _ _).alloc (Nat.le_refl _) _)
  have HC : Hid (∀ W : World, Below bx.heap.size bx W → W.cell? ⟨w.heap.size, 0, none⟩ = some (.int .i64 pl) ∧ W.cell? ⟨w.heap.size, 3, none⟩ = some (.int .i64 (N : Int)) ∧ W.cell? ⟨w.heap.size, 5, none⟩ = some (.slice aV (atR ts L pl).length cV)) := hide fun W hW => by
    have hy : W.heap[w.heap.size]? = some (.cells #[.int .i64 pl, .int .i64 at0, .int .i64 did, .int .i64 (N : Int), .slice aT nT cT, .slice aV (atR ts L pl).length cV] 41 (0, 0)) := by
      rw [hW.block _ (by rw [hbx]; simp), hbx]; exact heap_alloc_new _ _
    refine ⟨?_, ?_, ?_⟩ <;> (rw [cell_of_row _ _ _ _ _ _ hy]; rfl)
  have HEX := hide hbx
  clear hbx
  go_enter Try.func14, Try.ntmps14
  go_wp2
  go_loopw [7, 8] (fun va vi wr => ∃ i : Nat, i ≤ (eqL L).length ∧ vi = .int .i64 i ∧ va = .int .i64 ((atG ts L pl i).length : Nat) ∧ Below bx.heap.size bx wr) (fun _ vi _ => (eqL L).length - (intOf vi).toNat)
  case atStart => exact ⟨0, Nat.zero_le _, rfl, rfl, by rw [HEX.out]; exact Below.refl _ _⟩
  case round =>
    obtain ⟨i, hi, rfl, rfl, hbr⟩ := hrel
    obtain ⟨c0, c3, c5⟩ := HC.out wr hbr
    have HW1 : Hid (Below w.heap.size w wr) := hide (HB0.out.trans (hbr.mono HB0.out.size))
    have HBR := hide hbr
    clear hbr
    by_cases hil : i < (eqL L).length
    · obtain ⟨bw, ow, rfl, hbw, hrw⟩ := HCW.out (by rw [List.length_map, hpl]; omega)
      have y0 := (HW1.out.cell (p := ⟨bw, ow + i, none⟩) hbw).trans (hrw i (by rw [List.length_map, hpl]; exact hil))
      rw [List.getElem_map] at y0
      have hpi : (plR ts L)[i]'(by rw [hpl]; exact hil) = placeD ts ((eqL L)[i]'hil) := by unfold plR; rw [List.getElem_map]
      rw [hpi] at y0
      have k1 : (0 : Int) ≤ (i : Int) := by omega
      have k2 : (i : Int) < ((eqL L).length : Int) := by omega
      clear hrw hpi
      by_cases hp : ((placeD ts ((eqL L)[i]'hil) : Nat) : Int) = pl
      · have HH := hide (atG_hit hil hp)
        have hg := atG_get hil hp
        have hag : (atG ts L pl i).length < (atR ts L pl).length := (List.getElem?_eq_some_iff.1 hg).1
        obtain ⟨bv, ov, rfl, hbv, hrv⟩ := HCV.out (by rw [hvl]; omega)
        have y1 := (HW1.out.cell (p := ⟨bv, ov + (atG ts L pl i).length, none⟩) hbv).trans (hrv _ (by rw [hvl]; exact hag))
        have hvv : (valsR ts L ins pl N)[(atG ts L pl i).length]'(by rw [hvl]; exact hag) = sol ts L ins i N := by
          have : (valsR ts L ins pl N)[(atG ts L pl i).length]? = some (sol ts L ins i N) := by unfold valsR; rw [List.getElem?_map, hg]; rfl
          exact (List.getElem?_eq_some_iff.1 this).2
        rw [hvv] at y1
        obtain ⟨gr, rfl, hgr, hrr⟩ := HCR.out (by omega)
        obtain ⟨xr, hxr, AR, CR2, rfl, hmR, hcR⟩ := hrr i hil
        have y2 := (HW1.out.cell (p := ⟨gr, i, none⟩) hgr).trans hxr
        rw [rowF_len] at y2
        obtain ⟨br, or', rfl, hbr2, hrr2⟩ := hcR (by rw [rowF_len]; omega)
        have y3 := (HW1.out.cell (p := ⟨br, or' + N, none⟩) hbr2).trans (hrr2 N (by rw [rowF_len]; exact hN))
        have hrf : (rowF (sol ts L ins) i 200)[N]'(by rw [rowF_len]; exact hN) = sol ts L ins i N := by simp [rowF]
        rw [hrf] at y3
        have q0 : (((placeD ts ((eqL L)[i]'hil) : Nat) : Int) != pl) = false := by rw [hp]; simp
        have hi1 : i + 1 ≤ (eqL L).length := hil
        have HL : Hid ((atG ts L pl (i + 1)).length = (atG ts L pl i).length + 1) := hide (by rw [HH.out, List.length_append]; rfl)
        clear hrr hrr2 hrv hvv hrf hg hp hcR hxr hmR HH
        generalize (placeD ts ((eqL L)[i]'hil) : Nat) = pi at *
        generalize (atG ts L pl i).length = ag at *
        generalize (atR ts L pl).length = ar at *
        generalize sol ts L ins i N = sv at *
        have a1 : ¬ (ag : Int) ≥ (ar : Int) := by omega
        have a1' : decide ((ag : Int) ≥ (ar : Int)) = false := decide_eq_false a1
        have a2 : ¬ (N : Int) < 0 := by omega
        have a2' : decide ((N : Int) < 0) = false := decide_eq_false a2
        have a3 : ¬ (N : Int) ≥ 200 := by omega
        have a3' : decide ((N : Int) ≥ 200) = false := decide_eq_false a3
        have a4 : (0 : Int) ≤ (ag : Int) := by omega
        have a5 : (ag : Int) < (ar : Int) := by omega
        have a6 : (0 : Int) ≤ (N : Int) := by omega
        have a7 : (N : Int) < 200 := by omega
        go_wp2_with fail
        first | go_quiet (fail) | go_big_region
        have qv : (sv != sv) = false := by simp
        have b1 : decide (ar ≤ ag) = false := decide_eq_false (by omega)
        have b2 : ¬ ar ≤ ag := by omega
        have b3 : decide ((ar : Int) ≤ (ag : Int)) = false := decide_eq_false (by omega)
        have b4 : decide ((200 : Int) ≤ (N : Int)) = false := decide_eq_false (by omega)
        have b5 : decide (200 ≤ N) = false := decide_eq_false (by omega)
        have b6 : ¬ 200 ≤ N := by omega
        go_wp2_with fail
        go_big_region
        go_wp2
        go_roundw
        case rel => exact ⟨i + 1, hi1, by go_num, by rw [HL.out]; go_num, by first | exact HBR.out | exact below_drewN HBR.out _ | exact HBR.out.drew | exact (below_drewN HBR.out _).drew | exact HBR.out.drew.drew⟩
        case measure => simp [intOf]; omega
      · have HH := hide (atG_miss hil hp)
        have q0 : (((placeD ts ((eqL L)[i]'hil) : Nat) : Int) != pl) = true := by rw [bne_iff_ne]; exact hp
        have hi1 : i + 1 ≤ (eqL L).length := hil
        generalize (placeD ts ((eqL L)[i]'hil) : Nat) = pi at *
        clear hp
        go_wp2_with fail
        first | go_quiet (fail) | go_big_region
        go_wp2
        go_roundw
        case rel => exact ⟨i + 1, hi1, by go_num, by rw [HH.out], by first | exact HBR.out | exact below_drewN HBR.out _ | exact HBR.out.drew⟩
        case measure => simp [intOf]; omega
    · have ei : i = (eqL L).length := by omega
      have z1 : ¬ (i : Int) < ((eqL L).length : Int) := by omega
      have HE : Hid ((atG ts L pl i).length = (atR ts L pl).length) := hide (by rw [ei]; rfl)
      generalize (atG ts L pl i).length = ag at *
      generalize (atR ts L pl).length = ar at *
      have q0 : ((ag : Int) == (ar : Int)) = true := by rw [HE.out]; simp
      go_wp2
      go_ret
      exact ⟨by first | rfl | simp_all, HW1.out⟩

end Go.Proofs.Ytmndgoapkmhglab

/- Kept: plain parts. -/
namespace Go.Proofs.Ytmndgoapkmhglab
open Go.RowKit

/-- an event's cells. -/
theorem ev_cells {w : World} {B ge ce : Nat} {E : List EvF} {TV VV : Nat → Value} (h : w.ownsRow B 41 6 (.slice (some ⟨ge, 0, none⟩) E.length ce) E.length (evCells E TV VV)) {i : Nat} {e : EvF} (he : E[i]? = some e) :
    w.cell? ⟨ge, i * 6, none⟩ = some (.int .i64 e.k) ∧ w.cell? ⟨ge, i * 6 + 1, none⟩ = some (.int .i64 e.a) ∧ w.cell? ⟨ge, i * 6 + 2, none⟩ = some (.int .i64 e.did) ∧ w.cell? ⟨ge, i * 6 + 3, none⟩ = some (.int .i64 e.n) ∧ w.cell? ⟨ge, i * 6 + 4, none⟩ = some (TV i) ∧ w.cell? ⟨ge, i * 6 + 5, none⟩ = some (VV i) := by
  have hi : i < E.length := (List.getElem?_eq_some_iff.1 he).1
  have hg : ∀ j, j < 6 → (evCells E TV VV)[i * 6 + j]? = ([Value.int .i64 e.k, .int .i64 e.a, .int .i64 e.did, .int .i64 e.n, TV i, VV i] : List Value)[j]? := fun j hj => by
    unfold evCells
    rw [flat_get (fun i => [Value.int .i64 ((E[i]?.map EvF.k).getD 0), .int .i64 ((E[i]?.map EvF.a).getD 0), .int .i64 ((E[i]?.map EvF.did).getD 0), .int .i64 ((E[i]?.map EvF.n).getD 0), TV i, VV i]) 6 (fun _ => rfl) (List.range E.length) i j (by simpa using hi) hj]
    rw [List.getElem_range, he]
    rfl
  have hc : ∀ j, j < 6 → w.cell? ⟨ge, i * 6 + j, none⟩ = ([Value.int .i64 e.k, .int .i64 e.a, .int .i64 e.did, .int .i64 e.n, TV i, VV i] : List Value)[j]? := fun j hj => by rw [h.cellAt (i * 6 + j) (by omega), hg j hj]
  exact ⟨hc 0 (by omega), hc 1 (by omega), hc 2 (by omega), hc 3 (by omega), hc 4 (by omega), hc 5 (by omega)⟩

end Go.Proofs.Ytmndgoapkmhglab
