import Derived.Test.YtmndgoapkmhglabM23JudM
import Derived.Test.YtmndgoapkmhglabM32RefH
import Derived.Test.YtmndgoapkmhglabM33LawN
import Derived.Test.YtmndgoapkmhglabM35RefK
import Derived.Test.YtmndgoapkmhglabM38RefT
import Derived.Test.YtmndgoapkmhglabM41RefP
import Derived.Test.YtmndgoapkmhglabM49RefX
namespace Go.Proofs.Ytmndgoapkmhglab
open Go.RowKit
attribute [local go_sem ↓] Go.wp_at_zero Go.wp_at_succ

/-- a program that has been laid, as its readers have it. -/
theorem RPV.prog {w' : World} {B q g cap : Nat} {ts : List Tk} {L : List Dl} {R : Nat → Rw} (h : RPV w' B q (.slice (some ⟨g, 0, none⟩) ts.length cap) R) (ht : TokAt w' g cap ts)
    (h1 : (R 1).e = 3 ∧ (R 1).sz = 1 ∧ (R 1).n = ts.length ∧ (R 1).xs = pCells ((List.range ts.length).map (behindF ts)))
    (h2 : (R 2).e = 115 ∧ (R 2).sz = 6 ∧ (R 2).n = L.length ∧ (R 2).xs = rdCells (L.map (rdc ts)))
    (h3 : (R 3).e = 115 ∧ (R 3).sz = 6 ∧ (R 3).n = (inL L).length ∧ (R 3).xs = rdCells ((inL L).map (rdc ts)))
    (h4 : (R 4).e = 115 ∧ (R 4).sz = 6 ∧ (R 4).n = (eqL L).length ∧ (R 4).xs = rdCells ((eqL L).map (rdc ts))) :
    RProg w' q g cap ts L (R 1).v (R 2).v (R 3).v (R 4).v := by
  have o1 := own_zero (h.own 1)
  have o2 := own_zero (h.own 2)
  have o3 := own_zero (h.own 3)
  have o4 := own_zero (h.own 4)
  rw [h1.1, h1.2.1, h1.2.2.1, h1.2.2.2] at o1
  rw [h2.1, h2.2.1, h2.2.2.1, h2.2.2.2] at o2
  rw [h3.1, h3.2.1, h3.2.2.1, h3.2.2.2] at o3
  rw [h4.1, h4.2.1, h4.2.2.1, h4.2.2.2] at o4
  exact ⟨h.lt, cell_of_row w' q 0 _ _ _ h.blk, cell_of_row w' q 1 _ _ _ h.blk, cell_of_row w' q 2 _ _ _ h.blk, cell_of_row w' q 3 _ _ _ h.blk, cell_of_row w' q 4 _ _ _ h.blk, ht, o1, o2, o3, o4⟩

/-- what a reading gives. -/
def ReadOk (s : ByteArray) (w : World) (p : Value) (w' : World) : Prop :=
  Below w.heap.size w w' ∧ ((textF s).1 = 0 → ∃ (q g cap : Nat) (L : List Dl) (vE vA vI vQ : Value), p = .pointer (some ⟨q, 0, none⟩) ∧ RProg w' q g cap (toks s) L vE vA vI vQ ∧ ROk (toks s) L ∧ RGood s L)

set_option maxHeartbeats 2000000 in
set_option maxRecDepth 100000 in
theorem rread_any (s : ByteArray) (w : World) :
    Calls Try.prog 34 #[.string s] w fun e w' => ∃ p, e = .returned (.tuple #[p, .int .i64 ((textF s).1 : Int), .int .i64 ((textF s).2 : Int)]) ∧ ReadOk s w p w' := by
  by_cases hs : s.size ≤ 1500
  case neg =>
    have ht : textF s = (1, 0) := by unfold textF; rw [if_pos (by omega)]
    have HT := hide ht
    have z1 : (1500 : Int) < (s.size : Int) := by omega
    clear ht
    go_enter Try.func34, Try.ntmps34
    go_wp2
    go_ret3
    exact ⟨_, by rw [HT.out]; rfl, Below.refl _ _, fun h => by rw [HT.out] at h; cases h⟩
  have z1 : ¬ (1500 : Int) < (s.size : Int) := by omega
  have hok := toks_ok s hs
  have hF := toks_F s
  have hE := toks_end s
  have hp : ∀ i, (tkAt (toks s) i).pos ≤ 1500 := fun i => Nat.le_trans (pos_le s i) hs
  have HREF := hide (text_read s hs)
  have HTS := hide (fun W => rtokens_any s W hs)
  have hrl : (rtoks s).length = (toks s).length := by unfold rtoks; rw [List.length_map]
  have HFE := hide (And.intro hF (And.intro hE (And.intro hp hok)))
  have HRL := hide hrl
  clear hF hE hp hok hrl
  go_enter Try.func34, Try.ntmps34
  go_wp2_with fail
  refine (HTS.out w).mono ?_
  rintro e w1 ⟨v, rfl, hown, hb1⟩
  rw [HRL.out] at hown
  obtain ⟨g, cap, rfl, hg1, hg2⟩ := hown.form HFE.out.2.2.2.pos
  have HTK : Hid (TokAt w1 g cap (toks s)) := hide ⟨own_zero hown, hg2⟩
  clear hown HTS
  rcases HREF.out with ⟨k, hkl, ht, n, hans⟩ | ⟨L, hsp, ⟨n, hans⟩, ht, hpar⟩
  · have HT := hide ht
    have HAN := hide hans
    have hpk := HFE.out.2.2.1 k
    generalize (tkAt (toks s) k).pos = ps at HT HAN hpk
    have z2 : (0 : Int) ≤ (ps : Int) := by omega
    clear ht hans HREF
    go_wp2_with fail
    refine (stands_any (toks s) n (ps : Int) w1 g cap HTK.out HFE.out.1 HFE.out.2.2.2.1 HAN.out).mono ?_
    rintro e2 w2 ⟨rfl, hb2⟩
    have HB := hide (hb1.trans (hb2.mono hb1.size))
    clear hb1 hb2
    go_wp2
    go_ret3
    exact ⟨_, by rw [HT.out]; rfl, HB.out, fun h => by rw [HT.out] at h; cases h⟩
  · have HT := hide ht
    have HAN := hide hans
    have HOK : Hid (ROk (toks s) L) := hide ⟨HFE.out.1, HFE.out.2.1, HFE.out.2.2.2.1, HFE.out.2.2.2.pos, hsp⟩
    have HSP := hide hsp
    have HPAR := hide hpar
    clear ht hans HREF hsp hpar
    go_wp2_with fail
    refine (stands_any (toks s) n (-1) w1 g cap HTK.out HFE.out.1 HFE.out.2.2.2.1 HAN.out).mono ?_
    rintro e2 w2 ⟨rfl, hb2⟩
    have hbw2 : Below w.heap.size w w2 := hb1.trans (hb2.mono hb1.size)
    have HTK2 := hide (HTK.out.below hb2)
    clear hb1 hb2 HTK
    go_wp2_with fail
    refine (program_any (toks s) L w2 g cap HTK2.out HFE.out.1 HFE.out.2.1 HFE.out.2.2.2.1 HSP.out).mono ?_
    rintro e3 w3 ⟨rfl, R, hrp, r1, r2, r3, r4, hb3⟩
    have hbw3 : Below w.heap.size w w3 := hbw2.trans (hb3.mono hbw2.size)
    have HRP := hide (hrp.prog (HTK2.out.below hb3) r1 r2 r3 r4)
    generalize w2.heap.size = q at HRP ⊢
    generalize (R 1).v = vE at HRP
    generalize (R 2).v = vA at HRP
    generalize (R 3).v = vI at HRP
    generalize (R 4).v = vQ at HRP
    clear hrp r1 r2 r3 r4 hb3 hbw2 HTK2
    go_wp2_with fail
    refine (rmany_any w3 q g cap (toks s) L vE vA vI vQ HRP.out HOK.out HFE.out.2.2.1).mono ?_
    rintro e4 w4 ⟨rfl, hb4⟩
    have HRP4 := hide (HRP.out.below hb4)
    have hbw4 : Below w.heap.size w w4 := hbw3.trans (hb4.mono hbw3.size)
    clear hb4 hbw3 HRP
    cases h1 : manyR (toks s) L with
    | some a =>
      have HF : Hid (textF s = (3, a)) := hide (by rw [HT.out]; unfold readR; rw [h1])
      simp only [optI]
      have z2 : (0 : Int) ≤ (a : Int) := by omega
      clear h1
      go_wp2
      go_ret3
      exact ⟨_, by rw [HF.out]; rfl, hbw4, fun h => by rw [HF.out] at h; cases h⟩
    | none =>
      have H1 := hide h1
      simp only [optI]
      clear h1
      go_wp2_with fail
      refine (rnames_any w4 q g cap (toks s) L vE vA vI vQ HRP4.out HOK.out HFE.out.2.2.1).mono ?_
      rintro e5 w5 ⟨rfl, hb5⟩
      have HRP5 := hide (HRP4.out.below hb5)
      have hbw5 : Below w.heap.size w w5 := hbw4.trans (hb5.mono hbw4.size)
      clear hb5 hbw4 HRP4
      cases h2 : namesR (toks s) L with
      | some a =>
        have HF : Hid (textF s = (4, a)) := hide (by rw [HT.out]; unfold readR; rw [H1.out]; simp only; rw [h2])
        simp only [optI]
        have z2 : (0 : Int) ≤ (a : Int) := by omega
        clear h2
        go_wp2
        go_ret3
        exact ⟨_, by rw [HF.out]; rfl, hbw5, fun h => by rw [HF.out] at h; cases h⟩
      | none =>
        have H2 := hide h2
        simp only [optI]
        clear h2
        go_wp2_with fail
        refine (rtypes_any w5 q g cap (toks s) L vE vA vI vQ HRP5.out HOK.out HFE.out.2.2.1).mono ?_
        rintro e6 w6 ⟨rfl, hb6⟩
        have HRP6 := hide (HRP5.out.below hb6)
        have hbw6 : Below w.heap.size w w6 := hbw5.trans (hb6.mono hbw5.size)
        clear hb6 hbw5 HRP5
        cases h3 : typesR (toks s) L with
        | some a =>
          have HF : Hid (textF s = (5, a)) := hide (by rw [HT.out]; unfold readR; rw [H1.out]; simp only; rw [H2.out]; simp only; rw [h3])
          simp only [optI]
          have z2 : (0 : Int) ≤ (a : Int) := by omega
          clear h3
          go_wp2
          go_ret3
          exact ⟨_, by rw [HF.out]; rfl, hbw6, fun h => by rw [HF.out] at h; cases h⟩
        | none =>
          have H3 := hide h3
          simp only [optI]
          clear h3
          go_wp2_with fail
          refine (rcycle_any w6 q g cap (toks s) L vE vA vI vQ HRP6.out HOK.out).mono ?_
          rintro e7 w7 ⟨rfl, hb7⟩
          have HRP7 := hide (HRP6.out.below hb7)
          have hbw7 : Below w.heap.size w w7 := hbw6.trans (hb7.mono hbw6.size)
          clear hb7 hbw6 HRP6
          cases h4 : cycR (toks s) L with
          | some a =>
            have HF : Hid (textF s = (6, a)) := hide (by rw [HT.out]; unfold readR; rw [H1.out]; simp only; rw [H2.out]; simp only; rw [H3.out]; simp only; rw [h4])
            simp only [optI]
            have z2 : (0 : Int) ≤ (a : Int) := by omega
            clear h4
            go_wp2
            go_ret3
            exact ⟨_, by rw [HF.out]; rfl, hbw7, fun h => by rw [HF.out] at h; cases h⟩
          | none =>
            have H4 := hide h4
            simp only [optI]
            clear h4
            go_wp2_with fail
            refine (rloop_any w7 q g cap (toks s) L vE vA vI vQ HRP7.out HOK.out).mono ?_
            rintro e8 w8 ⟨rfl, hb8⟩
            have HRP8 := hide (HRP7.out.below hb8)
            have hbw8 : Below w.heap.size w w8 := hbw7.trans (hb8.mono hbw7.size)
            clear hb8 hbw7 HRP7
            cases h5 : lpR (toks s) L with
            | some a =>
              have HF : Hid (textF s = (7, a)) := hide (by rw [HT.out]; unfold readR; rw [H1.out]; simp only; rw [H2.out]; simp only; rw [H3.out]; simp only; rw [H4.out]; simp only; rw [h5])
              simp only [optI]
              have z2 : (0 : Int) ≤ (a : Int) := by omega
              clear h5
              go_wp2
              go_ret3
              exact ⟨_, by rw [HF.out]; rfl, hbw8, fun h => by rw [HF.out] at h; cases h⟩
            | none =>
              have HF : Hid (textF s = (0, 0)) := hide (by rw [HT.out]; unfold readR; rw [H1.out]; simp only; rw [H2.out]; simp only; rw [H3.out]; simp only; rw [H4.out]; simp only; rw [h5])
              have H5 := hide h5
              simp only [optI]
              clear h5
              go_wp2
              go_ret3
              exact ⟨_, by rw [HF.out]; rfl, hbw8, fun _ => ⟨q, g, cap, L, vE, vA, vI, vQ, rfl, HRP8.out, HOK.out, ⟨H1.out, H2.out, H3.out, H4.out, H5.out, HSP.out, HPAR.out⟩⟩⟩

end Go.Proofs.Ytmndgoapkmhglab
