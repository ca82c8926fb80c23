import Derived.Test.YtbmhafagdchjfaaJudK
import Derived.Test.YtbmhafagdchjfaaJudge3
namespace Go.Proofs.Ytbmhafagdchjfaa
open Go.RowKit
attribute [local go_sem ↓] Go.wp_at_zero Go.wp_at_succ

set_option maxHeartbeats 1000000 in
set_option maxRecDepth 100000 in
theorem meaning_any (w : World) (q : Nat) (ds : List Dc) (ns : List Nd) (vd vn : Value) (h : ProgAt w q ds ns vd vn) (hg : Good ds ns) :
    Calls Try.prog 30 #[.pointer (some ⟨q, 0, none⟩)] w fun e w' => e = .returned (.tuple #[.int .i64 ((meaningF ds ns).1 : Int), .int .i64 ((meaningF ds ns).2 : Int)]) ∧ Below w.heap.size w w' := by
  have HP := hide h
  have HG := hide hg
  clear h hg
  go_enter Try.func30, Try.ntmps30
  go_wp2_with fail
  refine (tooMany_any w q ds ns vd vn HP.out HG.out.wf.dl).mono ?_
  rintro e w1 ⟨rfl, hb1⟩
  cases h1 : tooManyF ds with
  | some a =>
    have HF : Hid (meaningF ds ns = (3, a)) := hide (by unfold meaningF; rw [h1])
    simp only [optVal, Option.getD_some, Option.isSome_some]
    clear h1
    go_wp2_with fail
    go_ret2
    exact ⟨by rw [HF.out]; rfl, hb1⟩
  | none =>
    simp only [optVal, Option.getD_none, Option.isSome_none]
    have H1 := hide h1
    clear h1
    go_wp2_with fail
    refine (badName_any w1 q ds ns vd vn (HP.out.below hb1) HG.out.wf).mono ?_
    rintro e w2 ⟨rfl, hb2⟩
    have hb02 : Below w.heap.size w w2 := hb1.trans (hb2.mono hb1.size)
    clear hb1 hb2
    cases h2 : badNameF ds ns 0 ds with
    | some a =>
      have HF : Hid (meaningF ds ns = (4, a)) := hide (by unfold meaningF; rw [H1.out]; simp only; rw [h2])
      simp only [optVal, Option.getD_some, Option.isSome_some]
      clear h2
      go_wp2_with fail
      go_ret2
      exact ⟨by rw [HF.out]; rfl, hb02⟩
    | none =>
      simp only [optVal, Option.getD_none, Option.isSome_none]
      have H2 := hide h2
      have HB := hide (HG.out.names h2)
      clear h2
      go_wp2_with fail
      refine (badType_any w2 q ds ns vd vn (HP.out.below hb02) HG.out.wf HB.out).mono ?_
      rintro e w3 ⟨rfl, hb3⟩
      have hb03 : Below w.heap.size w w3 := hb02.trans (hb3.mono hb02.size)
      clear hb02 hb3
      cases h3 : badTypeF ds 0 ns (roots ds (List.replicate ns.length false)) with
      | some a =>
        have HF : Hid (meaningF ds ns = (5, a)) := hide (by unfold meaningF; rw [H1.out]; simp only; rw [H2.out]; simp only; rw [h3])
        simp only [optVal, Option.getD_some, Option.isSome_some]
        clear h3
        go_wp2_with fail
        go_ret2
        exact ⟨by rw [HF.out]; rfl, hb03⟩
      | none =>
        simp only [optVal, Option.getD_none, Option.isSome_none]
        have H3 := hide h3
        clear h3
        go_wp2_with fail
        refine (cycle_any w3 q ds ns vd vn (HP.out.below hb03) HG.out.wf HB.out).mono ?_
        rintro e w4 ⟨rfl, hb4⟩
        have hb04 : Below w.heap.size w w4 := hb03.trans (hb4.mono hb03.size)
        clear hb03 hb4
        cases h4 : cycleF ds ns with
        | some a =>
          have HF : Hid (meaningF ds ns = (6, a)) := hide (by unfold meaningF; rw [H1.out]; simp only; rw [H2.out]; simp only; rw [H3.out]; simp only; rw [h4])
          simp only [optVal, Option.getD_some, Option.isSome_some]
          clear h4
          go_wp2_with fail
          go_ret2
          exact ⟨by rw [HF.out]; rfl, hb04⟩
        | none =>
          simp only [optVal, Option.getD_none, Option.isSome_none]
          have H4 := hide h4
          clear h4
          go_wp2_with fail
          refine (loop_any w4 q ds ns vd vn (HP.out.below hb04) HG.out.wf HG.out.links HG.out.many).mono ?_
          rintro e w5 ⟨rfl, hb5⟩
          have hb05 : Below w.heap.size w w5 := hb04.trans (hb5.mono hb04.size)
          clear hb04 hb5
          cases h5 : loopF ds ns with
          | some a =>
            have HF : Hid (meaningF ds ns = (7, a)) := hide (by unfold meaningF; rw [H1.out]; simp only; rw [H2.out]; simp only; rw [H3.out]; simp only; rw [H4.out]; simp only; rw [h5])
            simp only [optVal, Option.getD_some, Option.isSome_some]
            clear h5
            go_wp2_with fail
            go_ret2
            exact ⟨by rw [HF.out]; rfl, hb05⟩
          | none =>
            have HF : Hid (meaningF ds ns = (0, 0)) := hide (by unfold meaningF; rw [H1.out]; simp only; rw [H2.out]; simp only; rw [H3.out]; simp only; rw [H4.out]; simp only; rw [h5])
            simp only [optVal, Option.getD_none, Option.isSome_none]
            clear h5
            go_wp2_with fail
            go_ret2
            exact ⟨by rw [HF.out]; rfl, hb05⟩

end Go.Proofs.Ytbmhafagdchjfaa
