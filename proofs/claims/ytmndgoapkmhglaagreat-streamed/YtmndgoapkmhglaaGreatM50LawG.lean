import Derived.Deep.Matrix
import Derived.SizedLaws
import Derived.Carry
import Derived.ProofKit
import Derived.Test.YtmndgoapkmhglaaGreatM14JudA
import Derived.Test.YtmndgoapkmhglaaGreatM45LawB
import Derived.Test.YtmndgoapkmhglaaGreatM47LawF
import Derived.Test.YtmndgoapkmhglaaGreatM49TabG
/- an argument that is a list of lists, opened. -/
namespace Go.Proofs.YtmndgoapkmhglaaGreat
open Go.ChangeShapes Go.WideShapes Go.RowKit Go.Deep

theorem Tryz.cellsInts : Tryz.prog.cellsOf 34 = 1 := by kernel_rfl
theorem Tryz.cellsInt : Tryz.prog.cellsOf 3 = 1 := by kernel_rfl
theorem Tryz.bytesInts : Tryz.prog.bytesOf 34 = 24 := by kernel_rfl
theorem Tryz.bytesInt : Tryz.prog.bytesOf 3 = 8 := by kernel_rfl
theorem Tryz.laidOut : laidOutB Tryz.prog = true := by kernel_rfl

theorem plain_add (b o r : Nat) : (⟨b, o, none⟩ : Addr).add r = ⟨b, o + r, none⟩ := Addr.add_lit b o r

theorem wf_i64 {n : Int} (h : (Lit.int .i64 n).wf = true) : -9223372036854775808 ≤ n ∧ n ≤ 9223372036854775807 := by
  simp only [Lit.wf, Bool.and_eq_true, decide_eq_true_eq] at h
  exact h

theorem spot_none {w : World} {a : Addr} {v : Value} (h : w.cell? (a.add 0) = some v) : a.spot = none := by
  obtain ⟨b, o, sp⟩ := a
  simpa [Addr.add] using World.cell?_spot h

theorem weights_all {H : Type} {P : Program} {e : TypeId} {d : DataW H} : ∀ (l : List (DataW H)), d ∈ l → ∀ n ∈ d.weights P e, n ∈ DataW.weightsAll P e l := by
  intro l
  induction l with
  | nil => intro h; simp at h
  | cons x r ih =>
    intro h n hn
    simp only [DataW.weightsAll, List.mem_append]
    rcases List.mem_cons.1 h with rfl | h
    · exact .inl hn
    · exact .inr (ih h n hn)

set_option maxRecDepth 100000 in
theorem open_lists {H : Type} {enc : TypeId × Value → H} {W : World} {A0 : Option Addr} {len0 cap0 : Nat} {d : DataW H} {ps : List MemPlace} (h : DataW.Trod enc Tryz.prog W 0 (fun _ => true) true 22 (.slice A0 len0 cap0) d ps)
    (hw : ∀ n ∈ d.weights Tryz.prog 22, n ≤ reachBytes) :
    ∃ (ins : List (List Int)) (AS : Nat → Option Addr) (CS : Nat → Nat), len0 = ins.length ∧ ArgL W A0 cap0 ins AS CS ∧ ∀ l ∈ ins, ∀ x ∈ l, (Lit.int .i64 x).wf = true := by
  obtain ⟨fuel, hf⟩ := h
  have hrb : reachBytes = 140737488351232 := rfl
  rcases open_int_rows Tryz.underlying22 Tryz.underlying34 Tryz.underlying3 Tryz.cellsInts Tryz.cellsInt hf with ⟨hcs, hx⟩ | ⟨a, len, cap, A, L, C, Z, hcs, _, hl, hm, hx, hrows⟩
  · simp [Value.cells] at hcs
    obtain ⟨rfl, rfl, rfl⟩ := hcs
    exact ⟨[], fun _ => none, fun _ => 0, rfl, ⟨by simp, fun _ => rfl, fun hp => by simp at hp, fun r hr => by simp at hr, fun r hr => by simp at hr⟩, fun l hl => by simp at hl⟩
  · simp [Value.cells] at hcs
    obtain ⟨rfl, rfl, rfl⟩ := hcs
    simp only [Prod.mk.injEq] at hx
    obtain ⟨rfl, rfl⟩ := hx
    have hsz : (len0 + (cap0 - len0)) * 24 ≤ reachBytes := by
      have := hw ((len0 + (cap0 - len0)) * 24) (by simp [DataW.weights, Tryz.underlying22, Tryz.bytesInts])
      exact this
    have hrow : ∀ r, r < len0 → (A r ≠ none → C r * 8 ≤ reachBytes) := fun r hr hne => by
      obtain ⟨_, h1, _, h2, _, h3, _⟩ := hrows r (by omega)
      refine hw _ ?_
      simp only [DataW.weights, Tryz.underlying22, List.mem_cons, List.mem_append]
      refine .inr (.inl (weights_all (d := intRow .i64 (A r) (L r) (Z r)) _ (List.mem_map.2 ⟨r, List.mem_range.2 hr, rfl⟩) _ ?_))
      cases hA : A r with
      | none => exact absurd hA hne
      | some a' =>
        simp only [intRow, DataW.weights, Tryz.underlying34, List.mem_cons]
        refine .inl ?_
        rw [Tryz.bytesInt]
        simp [lits]
        omega
    have hLl : ∀ r, r < len0 → ((Z r).take (L r)).length = L r := fun r hr => by
      obtain ⟨_, h1, _, h2, _⟩ := hrows r (by omega)
      rw [List.length_take]; omega
    have hget : ∀ r, (hr : r < ((List.range len0).map fun r => (Z r).take (L r)).length) → ((List.range len0).map fun r => (Z r).take (L r))[r] = (Z r).take (L r) := fun r hr => by simp
    refine ⟨(List.range len0).map fun r => (Z r).take (L r), A, C, by simp, ⟨by simp; omega, fun h => (by cases h), fun hp => ?_, fun r hr => ?_, fun r hr => ?_⟩, fun l hl x hx => ?_⟩
    · simp at hp
      obtain ⟨b, o, sp⟩ := a
      have hs : sp = none := spot_none (hrows 0 (by omega)).1
      subst hs
      refine ⟨b, o, rfl, ?_, fun r hr => ?_⟩
      · have := World.block_lt_of_cell? _ _ (hrows 0 (by omega)).1
        simpa [Addr.add] using this
      · have hr' : r < len0 := by simpa using hr
        rw [hget r hr, hLl r hr', ← plain_add]
        exact (hrows r (by omega)).1
    · have hr' : r < len0 := by simpa using hr
      obtain ⟨_, h1, _, h2, _, h3, h4⟩ := hrows r (by omega)
      rw [hget r hr]
      have hCr : A r = none ∨ C r * 8 ≤ reachBytes := by
        by_cases hA : A r = none
        · exact .inl hA
        · exact .inr (hrow r hr' hA)
      refine ⟨⟨A r, C r, by rw [hLl r hr'], ?_, fun hp => ?_⟩, fun hA => ?_, ?_⟩
      · rw [hLl r hr']
        rcases hCr with hA | hC
        · have := h3 hA; omega
        · omega
      · rw [hLl r hr'] at hp
        cases hA : A r with
        | none => have := h3 hA; omega
        | some a' =>
          obtain ⟨_, hcell⟩ := h4 a' hA
          obtain ⟨b, o, sp⟩ := a'
          have hs : sp = none := spot_none (hcell 0 (by omega))
          subst hs
          refine ⟨b, o, rfl, ?_, fun c hc => ?_⟩
          · have := World.block_lt_of_cell? _ _ (hcell 0 (by omega))
            simpa [Addr.add] using this
          · rw [hLl r hr'] at hc
            rw [← plain_add, hcell c (by omega)]
            simp [List.getElem_take, List.getD_eq_getElem?_getD, List.getElem?_eq_getElem (show c < (Z r).length by omega)]
      · have := h3 hA
        rw [List.eq_nil_iff_length_eq_zero, hLl r hr']
        omega
      · rw [hLl r hr']
        rcases hCr with hA | hC
        · have := h3 hA; omega
        · omega
    · have hr' : r < len0 := by simpa using hr
      rw [hget r hr, hLl r hr']
      exact (hrows r (by omega)).2.1
    · obtain ⟨r, hr, rfl⟩ := List.mem_map.1 hl
      obtain ⟨_, _, _, _, h5, _⟩ := hrows r (by have := List.mem_range.1 hr; omega)
      exact h5 x (List.mem_of_mem_take hx)

end Go.Proofs.YtmndgoapkmhglaaGreat

/- num. -/
namespace Go.Proofs.YtmndgoapkmhglaaGreat
open Go.RowKit
attribute [local go_sem ↓] Go.wp_at_zero Go.wp_at_succ

theorem num_of (n : Int) (w : World) :
    Calls Tryz.prog 8 #[.int .i64 n] w fun e w' => e = .returned (.int .i64 n) ∧ w = w' := by
  go_enter Tryz.func8, Tryz.ntmps8
  go_wp2
  go_ret
  exact ⟨rfl, rfl⟩

end Go.Proofs.YtmndgoapkmhglaaGreat

/- Streams. -/
namespace Go.Proofs.YtmndgoapkmhglaaGreat
open Go.RowKit
attribute [local go_sem ↓] Go.wp_at_zero Go.wp_at_succ

/-- a right text's streams came out. -/
def StrOk (s : ByteArray) (ins : List (List Int)) (n : Int) (B : Nat) (w' : World) (v : Value) : Prop :=
  if strR s n = 0 then ∃ L, RGood s L ∧ Right (toks s) L ∧ Outs B w' v (eqL L).length n.toNat (sol (toks s) L ins) else v = .slice none 0 0

set_option maxHeartbeats 2000000 in
theorem rStreams_any (s : ByteArray) (w : World) (vX : Value) (ins : List (List Int)) (hX : LsAt w vX ins) (n : Int) :
    Calls Tryz.prog 7 #[.string s, vX, .int .i64 n] w fun e w' => ∃ v, e = .returned (.tuple #[v, .int .i64 (strR s n : Int)]) ∧ StrOk s ins n w.heap.size w' v ∧ Below w.heap.size w w' := by
  have HX := hide hX
  clear hX
  go_enter Tryz.func7, Tryz.ntmps7
  go_wp2_with fail
  refine (rread_any s w).mono ?_
  rintro e w1 ⟨p, rfl, hb1, hok⟩
  have HB1 := hide hb1
  have HOK := hide hok
  clear hok
  by_cases h0 : (textF s).1 = 0
  · obtain ⟨q, g, cap, L, vE, vA, vI, vQ, rfl, hP, ho, hG⟩ := HOK.out h0
    have q1 : (((textF s).1 : Int) != 0) = false := by rw [h0]; rfl
    by_cases hn : n < 0 ∨ 200 < n
    · have HS : Hid (strR s n = 10) := hide (by unfold strR; rw [if_neg (by simpa using h0), if_pos hn])
      have hc : n < 0 ∨ (¬ n < 0 ∧ 200 < n) := by omega
      clear hn
      rcases hc with z1 | ⟨z1, z2⟩
      all_goals
        go_wp2
        go_ret2
        exact ⟨_, by rw [HS.out]; rfl, by unfold StrOk; rw [HS.out]; rfl, HB1.out⟩
    · have z1 : ¬ n < 0 := by omega
      have z2 : ¬ 200 < n := by omega
      have HS : Hid (strR s n = 0) := hide (by unfold strR; rw [if_neg (by simpa using h0), if_neg hn])
      obtain ⟨k, rfl⟩ : ∃ k : Nat, n = (k : Int) := ⟨n.toNat, by omega⟩
      have hR := right_of ho.F hG.sp hG.many hG.names hG.cyc
      have HCALL := hide (rstreams_any w1 q g cap (toks s) L vE vA vI vQ vX ins hP (HX.out.below hb1) hR ho k (by omega))
      have HG := hide hG
      have HRT := hide hR
      clear hP ho hG hR hn
      go_wp2_with fail
      refine HCALL.out.mono ?_
      rintro e w2 ⟨v, rfl, hO, hb2⟩
      have HO := hide hO
      have HB2 := hide hb2
      clear hO hb2
      go_wp2
      go_ret2
      refine ⟨v, by rw [HS.out]; rfl, ?_, HB1.out.trans (HB2.out.mono HB1.out.size)⟩
      unfold StrOk
      rw [if_pos HS.out]
      refine ⟨L, HG.out, HRT.out, ?_⟩
      obtain ⟨a, gr, rc, R, h1, h2, h3, h4, h5⟩ := HO.out.mat
      have := HB1.out.size
      exact ⟨⟨a, gr, rc, R, h1, h2, h3, fun i hi => by have := h4 i hi; omega, by omega⟩⟩
  · have q1 : (((textF s).1 : Int) != 0) = true := by rw [bne_iff_ne]; omega
    have HS : Hid (strR s n = (textF s).1) := hide (by unfold strR; rw [if_pos h0])
    have HS2 : Hid (strR s n ≠ 0) := hide (by rw [HS.out]; exact h0)
    clear HOK
    go_wp2
    go_ret2
    exact ⟨_, by rw [HS.out]; rfl, by unfold StrOk; rw [if_neg HS2.out]; rfl, HB1.out⟩

end Go.Proofs.YtmndgoapkmhglaaGreat

/- what a program's Streams must hand over; plain parts of the statement on it. -/
namespace Go.Proofs.YtmndgoapkmhglaaGreat
open Go.RowKit

end Go.Proofs.YtmndgoapkmhglaaGreat
