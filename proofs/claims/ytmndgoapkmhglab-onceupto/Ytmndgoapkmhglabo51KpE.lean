import Derived.Test.Ytmndgoapkmhglabo07PlyP
import Derived.Test.Ytmndgoapkmhglabo24PyB
import Derived.Test.Ytmndgoapkmhglabo38PStr
import Derived.Test.Ytmndgoapkmhglabo44LayN
import Derived.Test.Ytmndgoapkmhglabo45MarkE
import Derived.Test.Ytmndgoapkmhglabo49PRun
import Derived.Test.Ytmndgoapkmhglabo50KpB
namespace Go.Proofs.Ytmndgoapkmhglab
open Go.RowKit
attribute [local go_sem ↓] Go.wp_at_zero Go.wp_at_succ
theorem pc_row {B : Nat} {w : World} {v : Value} {ws : List Nat} (h : w.ownsRow B 3 1 v ws.length (pCells ws)) (hn : ws.length ≤ 1048576) : RowAt w v (ws.map fun (p : Nat) => (p : Int)) := by
  rcases h.2 with ⟨rfl, h0⟩ | ⟨g, cap, cur, rfl, hb, hg, h1, h2, h3, h4⟩
  · exact ⟨none, 0, by rw [List.length_map, h0], by rw [List.length_map]; omega, fun hp => by rw [List.length_map] at hp; omega⟩
  · refine ⟨_, _, by rw [List.length_map], by rw [List.length_map]; omega, fun hp => ⟨g, 0, rfl, (Array.getElem?_eq_some_iff.1 hg).1, fun c hc => ?_⟩⟩
    rw [List.length_map] at hc
    rw [Nat.zero_add, h.cellAt c (by omega), List.getElem_map]
    unfold pCells
    rw [List.getElem?_map, List.getElem?_eq_getElem hc]
    rfl
theorem seats_len (s : ByteArray) : (seatsF s).length ≤ s.size := by
  unfold seatsF
  rw [List.length_map]
  exact mkL_len _ _ _
theorem RunQ.len {s : ByteArray} {ins : List (List Int)} {sc : List OpF} {B : Nat} {w' : World} {v : Value} (h : RunQ s ins sc B w' v) (hg : runE s sc = 0 → (textF s).1 = 0) : ∃ a cap, v = .slice a (if runE s sc = 0 then sc.length else 0) cap := by
  unfold RunQ at h
  by_cases h0 : runE s sc = 0
  · rw [if_pos h0] at h ⊢
    obtain ⟨L, hG, hR, _⟩ := good_text (hg h0)
    obtain ⟨TV, VV, hE⟩ := h L hG hR
    obtain ⟨a, cap, e, _⟩ := own_shape hE.row
    exact ⟨a, cap, by rw [e, evsR_len]⟩
  · rw [if_neg h0] at h ⊢
    exact h
theorem runQ_weak {s : ByteArray} {ins : List (List Int)} {sc : List OpF} {B B' : Nat} {w' : World} {v : Value} (h : RunQ s ins sc B w' v) (hb : B' ≤ B) : RunQ s ins sc B' w' v := by
  unfold RunQ at *
  split
  · rename_i h0
    rw [if_pos h0] at h
    intro L hG hR
    obtain ⟨TV, VV, hE⟩ := h L hG hR
    exact ⟨TV, VV, own_weak hE.row hb, fun i hi => own_weak (hE.took i hi) hb, fun i hi => own_weak (hE.vals i hi) hb, hE.apT, hE.apV, hE.apTV, hE.neT, hE.neV⟩
  · rename_i h0
    rw [if_neg h0] at h
    exact h
theorem runE_zero {s : ByteArray} {sc : List OpF} (h : runE s sc = 0) : (textF s).1 = 0 ∧ playK (seatsF s) sc = true := by
  unfold runE at h
  by_cases h0 : (textF s).1 = 0
  · rw [if_neg (by simpa using h0)] at h
    cases hp : playK (seatsF s) sc with
    | true => exact ⟨h0, rfl⟩
    | false => rw [hp] at h; cases h
  · rw [if_pos h0] at h; exact absurd h h0
set_option maxHeartbeats 2000000 in
set_option maxRecDepth 100000 in
theorem krun_any (s : ByteArray) (hs : s.size ≤ 1048576) (w : World) (vX : Value) (ins : List (List Int)) (hX : LsAt w vX ins) (vS : Value) (sc : List OpF) (hS : OpsAt w vS sc) :
    Calls Try.prog 11 #[.string s, vX, vS] w fun e w' => ∃ v, e = .returned (.tuple #[v, .bool (decide (runE s sc = 0)), .bool true]) ∧ RunQ s ins sc w.heap.size w' v ∧ Below w.heap.size w w' := by
  have hsm : s.size ≤ maxLen := by unfold maxLen; omega
  have HX := hide hX
  have HS := hide hS
  obtain ⟨A, C, rfl, hm, _⟩ := hS
  clear hX
  go_enter Try.func11, Try.ntmps11
  go_wp2_with fail
  refine (answers_any w).mono ?_
  rintro e w1 ⟨rfl, hb1⟩
  have HW1 := hide hb1
  clear hb1
  go_wp2_with fail
  refine (check_all s w1 hsm).mono ?_
  rintro e w2 ⟨rfl, hb2⟩
  have HW2 : Hid (Below w.heap.size w w2) := hide (HW1.out.trans (hb2.mono HW1.out.size))
  clear hb2
  go_wp2_with fail
  refine (seats_any s w2 hs).mono ?_
  rintro e w3 ⟨vw, rfl, hown, hb3⟩
  have HRW := hide (pc_row hown (Nat.le_trans (seats_len s) hs))
  have HW3 : Hid (Below w.heap.size w w3) := hide (HW2.out.trans (hb3.mono HW2.out.size))
  clear hown hb3
  go_wp2_with fail
  refine (kplayable_any w3 vw (seatsF s) HRW.out _ sc (HS.out.below HW3.out)).mono ?_
  rintro e w4 ⟨rfl, hb4⟩
  have HW4 : Hid (Below w.heap.size w w4) := hide (HW3.out.trans (hb4.mono HW3.out.size))
  clear hb4
  have HRE : Hid (runE s sc = if (textF s).1 ≠ 0 then (textF s).1 else if playK (seatsF s) sc then 0 else 11) := hide rfl
  have HPR := hide (fun W hX hS => prun_any s hsm W vX ins hX (.slice A sc.length C) sc hS)
  have HLN := hide (fun B w' v (h : RunQ s ins sc B w' v) => RunQ.len h (fun h0 => (runE_zero h0).1))
  generalize playK (seatsF s) sc = pk at *
  generalize (textF s).1 = te at *
  have HT0 : Hid (te ≠ 0 → runE s sc = te) := hide (fun h => by rw [HRE.out, if_pos h])
  by_cases ht : te = 0
  · subst ht
    cases pk with
    | true =>
      have HR0 : Hid (runE s sc = 0) := hide (by rw [HRE.out]; rfl)
      rw [HR0.out] at HPR
      go_wp2_with fail
      refine (HPR.out w4 (HX.out.below HW4.out) (HS.out.below HW4.out)).mono ?_
      rintro e w5 ⟨v, rfl, hq, hb5⟩
      have hln := HLN.out _ _ _ hq
      rw [if_pos HR0.out] at hln
      obtain ⟨a, cap, rfl⟩ := hln
      have HQ := hide hq
      have HW5 : Hid (Below w.heap.size w w5) := hide (HW4.out.trans (hb5.mono HW4.out.size))
      clear hq hb5
      go_wp2
      refine bodyPost_ret (v := .tuple #[.slice a sc.length cap, .bool true, .bool true]) (by simp [results, Try.results11, go_sem]) rfl ?_
      exact ⟨_, by first | rfl | (rw [decide_eq_true HR0.out]) | (rw [decide_eq_false HR0.out]), runQ_weak HQ.out HW4.out.size, HW5.out⟩
    | false =>
      have HR0 : Hid (runE s sc ≠ 0) := hide (by rw [HRE.out]; decide)
      have HR1 : Hid (runE s sc = 11) := hide (by rw [HRE.out]; rfl)
      rw [HR1.out] at HPR
      go_wp2_with fail
      refine (HPR.out w4 (HX.out.below HW4.out) (HS.out.below HW4.out)).mono ?_
      rintro e w5 ⟨v, rfl, hq, hb5⟩
      have hln := HLN.out _ _ _ hq
      rw [if_neg HR0.out] at hln
      obtain ⟨a, cap, rfl⟩ := hln
      have HQ := hide hq
      have HW5 : Hid (Below w.heap.size w w5) := hide (HW4.out.trans (hb5.mono HW4.out.size))
      clear hq hb5
      go_wp2
      refine bodyPost_ret (v := .tuple #[.slice a 0 cap, .bool false, .bool true]) (by simp [results, Try.results11, go_sem]) rfl ?_
      exact ⟨_, by first | rfl | (rw [decide_eq_true HR0.out]) | (rw [decide_eq_false HR0.out]), runQ_weak HQ.out HW4.out.size, HW5.out⟩
  · have q0 : ((te : Int) == 0) = false := by rw [beq_eq_false_iff_ne]; omega
    have q1 : ((te : Int) != 0) = true := by rw [bne_iff_ne]; omega
    have HR0 : Hid (runE s sc ≠ 0) := hide (by rw [HT0.out ht]; exact ht)
    rw [HT0.out ht] at HPR
    go_wp2_with fail
    refine (HPR.out w4 (HX.out.below HW4.out) (HS.out.below HW4.out)).mono ?_
    rintro e w5 ⟨v, rfl, hq, hb5⟩
    have hln := HLN.out _ _ _ hq
    rw [if_neg HR0.out] at hln
    obtain ⟨a, cap, rfl⟩ := hln
    have HQ := hide hq
    have HW5 : Hid (Below w.heap.size w w5) := hide (HW4.out.trans (hb5.mono HW4.out.size))
    clear hq hb5
    go_wp2
    refine bodyPost_ret (v := .tuple #[.slice a 0 cap, .bool false, .bool true]) (by simp [results, Try.results11, go_sem]) rfl ?_
    exact ⟨_, by first | rfl | (rw [decide_eq_true HR0.out]) | (rw [decide_eq_false HR0.out]), runQ_weak HQ.out HW4.out.size, HW5.out⟩

end Go.Proofs.Ytmndgoapkmhglab
namespace Go.Proofs.Ytmndgoapkmhglab
open Go.RowKit
theorem ev_cells {w : World} {B ge ce : Nat} {E : List EvF} {TV VV : Nat → Value} (h : w.ownsRow B 41 6 (.slice (some ⟨ge, 0, none⟩) E.length ce) E.length (evCells E TV VV)) {i : Nat} {e : EvF} (he : E[i]? = some e) :
    w.cell? ⟨ge, i * 6, none⟩ = some (.int .i64 e.k) ∧ w.cell? ⟨ge, i * 6 + 1, none⟩ = some (.int .i64 e.a) ∧ w.cell? ⟨ge, i * 6 + 2, none⟩ = some (.int .i64 e.did) ∧ w.cell? ⟨ge, i * 6 + 3, none⟩ = some (.int .i64 e.n) ∧ w.cell? ⟨ge, i * 6 + 4, none⟩ = some (TV i) ∧ w.cell? ⟨ge, i * 6 + 5, none⟩ = some (VV i) := by
  have hi : i < E.length := (List.getElem?_eq_some_iff.1 he).1
  have hg : ∀ j, j < 6 → (evCells E TV VV)[i * 6 + j]? = ([Value.int .i64 e.k, .int .i64 e.a, .int .i64 e.did, .int .i64 e.n, TV i, VV i] : List Value)[j]? := fun j hj => by
    unfold evCells
    rw [flat_get (fun i => [Value.int .i64 ((E[i]?.map EvF.k).getD 0), .int .i64 ((E[i]?.map EvF.a).getD 0), .int .i64 ((E[i]?.map EvF.did).getD 0), .int .i64 ((E[i]?.map EvF.n).getD 0), TV i, VV i]) 6 (fun _ => rfl) (List.range E.length) i j (by simpa using hi) hj]
    rw [List.getElem_range, he]
    rfl
  have hc : ∀ j, j < 6 → w.cell? ⟨ge, i * 6 + j, none⟩ = ([Value.int .i64 e.k, .int .i64 e.a, .int .i64 e.did, .int .i64 e.n, TV i, VV i] : List Value)[j]? := fun j hj => by rw [h.cellAt (i * 6 + j) (by omega), hg j hj]
  exact ⟨hc 0 (by omega), hc 1 (by omega), hc 2 (by omega), hc 3 (by omega), hc 4 (by omega), hc 5 (by omega)⟩
end Go.Proofs.Ytmndgoapkmhglab
