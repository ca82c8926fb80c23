import Derived.Test.YtmndgoapkmhglaaA22JudM
import Derived.Test.YtmndgoapkmhglaaA26RefH
import Derived.Test.YtmndgoapkmhglaaA29GoodT
import Derived.Test.YtmndgoapkmhglaaA38RefK
import Derived.Test.YtmndgoapkmhglaaA39RefT
import Derived.Test.YtmndgoapkmhglaaA41RefU
import Derived.Test.YtmndgoapkmhglaaA43RefP
namespace Go.Proofs.Ytmndgoapkmhglaa
open Go.RowKit
attribute [local go_sem ↓] Go.wp_at_zero Go.wp_at_succ

set_option maxHeartbeats 2000000 in
set_option maxRecDepth 100000 in
theorem rloop_any (w : World) (q g cap : Nat) (ts : List Tk) (L : List Dl) (vE vA vI vQ : Value) (h : RProg w q g cap ts L vE vA vI vQ) (ho : ROk ts L) :
    Calls Try.prog 77 #[.pointer (some ⟨q, 0, none⟩)] w fun e w' => e = .returned (optI (lpR ts L)) ∧ Below w.heap.size w w' := by
  obtain ⟨hm1, hm2, hm3⟩ := ho.many
  obtain ⟨av, cv, rfl, hsh⟩ := own_shape h.eqs
  have HR := hide h
  have HO := hide ho
  have HSH := hide hsh
  clear h ho hsh
  go_enter Try.func77, Try.ntmps77
  go_wp2_with fail
  refine (rwaits_any w q g cap ts L _ _ _ _ HR.out HO.out).mono ?_
  rintro e w1 ⟨g2, cap2, R, rfl, hmat, hRB, hg2, hb1⟩
  have HCY : Hid (firstP ts (warsh (waitsP ((eqL L).map (placeD ts)) (routesR ts L) noM) 4) ((eqL L).drop 0) = lpR ts L) := hide rfl
  generalize waitsP ((eqL L).map (placeD ts)) (routesR ts L) noM = WM at hmat HCY
  have HMR := hide hmat
  have HRB := hide hRB
  clear hmat hRB
  go_wp2_with fail
  refine (rcircles_any w1 (some ⟨g2, 0, none⟩) g2 4 cap2 w.heap.size R WM HMR.out (fun _ => rfl) (by omega) hb1.size HRB.out).mono ?_
  rintro e2 w2 ⟨G, rfl, hG, hrow, hb2⟩
  have hbel2 : Below w.heap.size w w2 := hb1.trans hb2
  generalize warsh WM 4 = W at hrow HCY
  have c4'' := (HR.out.below hbel2).c4
  have HROW := hide hrow
  clear hrow hb2 hb1 HMR
  go_wp2
  go_loopw [5] (fun i wx => ∃ m : Nat, m ≤ (eqL L).length ∧ i = .int .i64 m ∧ wx.rowIs G 4 4 (fun i => .bool (W i i)) ∧ Below w.heap.size w wx ∧ firstP ts W ((eqL L).drop m) = lpR ts L) (fun i _ => (eqL L).length - (intOf i).toNat)
  case atStart => exact ⟨0, Nat.zero_le _, rfl, HROW.out, hbel2, HCY.out⟩
  case round =>
    clear HROW hbel2 c4'' HCY
    obtain ⟨m, hm, rfl, hrow, hbel, hrec⟩ := hrel
    have c4 := (HR.out.below hbel).c4
    by_cases hml : m < (eqL L).length
    · obtain ⟨gq, rfl, _, hgq2⟩ := HSH.out (by omega)
      obtain ⟨x, hx⟩ : ∃ x, x = (eqL L)[m]'hml := ⟨_, rfl⟩
      obtain ⟨hxm, hxk, _, _, hxp⟩ := HO.out.eq (x := x) (by rw [hx]; exact List.getElem_mem hml)
      have ht := HO.out.tok hxm
      have hpos := rdc_pos ts x
      obtain ⟨y0, y1, y2, y3, y4, y5⟩ := rd_later HR.out.eqs hbel hgq2 hml (rdc ts x) (by rw [hx])
      have hdp : (rdc ts x).place = placeD ts x := (rdc_truth ts hxk).2.2
      rw [List.drop_eq_getElem_cons hml, ← hx] at hrec
      simp only [firstP] at hrec
      have r1 := hrow.cell hxp
      rw [← hdp] at hrec r1 hxp
      have HRC := hide hrec
      have HRW := hide hrow
      have HRP := hide (HR.out.below hbel)
      have HPX := hide hpos
      have HTX := hide ht
      have j3 : (0 : Int) ≤ (m : Int) := by omega
      have j4 : (m : Int) < ((eqL L).length : Int) := by omega
      generalize rdc ts x = d at y0 y1 y2 y3 y4 y5 HPX HTX HRC r1 hxp
      have j5 : (0 : Int) ≤ (d.place : Int) := by omega
      have j6 : (d.place : Int) < 4 := by omega
      generalize W d.place d.place = b at r1 HRC
      clear hrec hrow hxm ht hx hpos hdp hxk
      cases b
      · have HR2 : Hid (firstP ts W ((eqL L).drop (m + 1)) = lpR ts L) := hide (by rw [← HRC.out]; simp)
        clear HRC
        go_wp2
        go_roundw
        case rel => exact ⟨m + 1, by omega, by go_num, by first | exact HRW.out | exact HRW.out.of_block rfl, by first | exact hbel | exact below_drewN hbel _, HR2.out⟩
        case measure => simp [intOf]; omega
      · have HR2 : Hid (lpR ts L = some (posD ts x)) := hide (by rw [← HRC.out]; simp)
        clear HRC
        go_wp2_with fail
        refine (rplace_any _ q g cap ts L _ _ _ _ HRP.out d HTX.out).mono ?_
        rintro e3 w3 ⟨rfl, hb3⟩
        rw [HPX.out]
        go_wp2
        go_ret
        exact ⟨by rw [HR2.out]; rfl, hbel.trans (hb3.mono hbel.size)⟩
    · have em : m = (eqL L).length := by omega
      subst em
      rw [List.drop_length] at hrec
      have HRC := hide hrec
      have z2 : ¬ ((eqL L).length : Int) < ((eqL L).length : Int) := by omega
      clear hrec hrow
      go_wp2
      go_ret
      exact ⟨by rw [← HRC.out]; rfl, hbel⟩

end Go.Proofs.Ytmndgoapkmhglaa

namespace Go.Proofs.Ytmndgoapkmhglaa
open Go.RowKit
attribute [local go_sem ↓] Go.wp_at_zero Go.wp_at_succ

/-- a program that has been laid, as its readers have it. -/
theorem RPV.prog {w' : World} {B q g cap : Nat} {ts : List Tk} {L : List Dl} {R : Nat → Rw} (h : RPV w' B q (.slice (some ⟨g, 0, none⟩) ts.length cap) R) (ht : TokAt w' g cap ts)
    (h1 : (R 1).e = 3 ∧ (R 1).sz = 1 ∧ (R 1).n = ts.length ∧ (R 1).xs = pCells ((List.range ts.length).map (behindF ts)))
    (h2 : (R 2).e = 138 ∧ (R 2).sz = 6 ∧ (R 2).n = L.length ∧ (R 2).xs = rdCells (L.map (rdc ts)))
    (h3 : (R 3).e = 138 ∧ (R 3).sz = 6 ∧ (R 3).n = (inL L).length ∧ (R 3).xs = rdCells ((inL L).map (rdc ts)))
    (h4 : (R 4).e = 138 ∧ (R 4).sz = 6 ∧ (R 4).n = (eqL L).length ∧ (R 4).xs = rdCells ((eqL L).map (rdc ts))) :
    RProg w' q g cap ts L (R 1).v (R 2).v (R 3).v (R 4).v := by
  have o1 := own_zero (h.own 1)
  have o2 := own_zero (h.own 2)
  have o3 := own_zero (h.own 3)
  have o4 := own_zero (h.own 4)
  rw [h1.1, h1.2.1, h1.2.2.1, h1.2.2.2] at o1
  rw [h2.1, h2.2.1, h2.2.2.1, h2.2.2.2] at o2
  rw [h3.1, h3.2.1, h3.2.2.1, h3.2.2.2] at o3
  rw [h4.1, h4.2.1, h4.2.2.1, h4.2.2.2] at o4
  exact ⟨h.lt, cell_of_row w' q 0 _ _ _ h.blk, cell_of_row w' q 1 _ _ _ h.blk, cell_of_row w' q 2 _ _ _ h.blk, cell_of_row w' q 3 _ _ _ h.blk, cell_of_row w' q 4 _ _ _ h.blk, ht, o1, o2, o3, o4⟩

/-- what a reading gives. -/
def ReadOk (s : ByteArray) (w : World) (p : Value) (w' : World) : Prop :=
  Below w.heap.size w w' ∧ ((textF s).1 = 0 → ∃ (q g cap : Nat) (L : List Dl) (vE vA vI vQ : Value), p = .pointer (some ⟨q, 0, none⟩) ∧ RProg w' q g cap (toks s) L vE vA vI vQ ∧ ROk (toks s) L ∧ RGood s L)

set_option maxHeartbeats 2000000 in
set_option maxRecDepth 100000 in
theorem rread_any (s : ByteArray) (w : World) :
    Calls Try.prog 46 #[.string s] w fun e w' => ∃ p, e = .returned (.tuple #[p, .int .i64 ((textF s).1 : Int), .int .i64 ((textF s).2 : Int)]) ∧ ReadOk s w p w' := by
  by_cases hs : s.size ≤ 1500
  case neg =>
    have ht : textF s = (1, 0) := by unfold textF; rw [if_pos (by omega)]
    have HT := hide ht
    have z1 : (1500 : Int) < (s.size : Int) := by omega
    clear ht
    go_enter Try.func46, Try.ntmps46
    go_wp2
    go_ret3
    exact ⟨_, by rw [HT.out]; rfl, Below.refl _ _, fun h => by rw [HT.out] at h; cases h⟩
  have z1 : ¬ (1500 : Int) < (s.size : Int) := by omega
  have hok := toks_ok s hs
  have hF := toks_F s
  have hE := toks_end s
  have hp : ∀ i, (tkAt (toks s) i).pos ≤ 1500 := fun i => Nat.le_trans (pos_le s i) hs
  have HREF := hide (text_read s hs)
  have HTS := hide (fun W => rtokens_any s W hs)
  have hrl : (rtoks s).length = (toks s).length := by unfold rtoks; rw [List.length_map]
  have HFE := hide (And.intro hF (And.intro hE (And.intro hp hok)))
  have HRL := hide hrl
  clear hF hE hp hok hrl
  go_enter Try.func46, Try.ntmps46
  go_wp2_with fail
  refine (HTS.out w).mono ?_
  rintro e w1 ⟨v, rfl, hown, hb1⟩
  rw [HRL.out] at hown
  obtain ⟨g, cap, rfl, hg1, hg2⟩ := hown.form HFE.out.2.2.2.pos
  have HTK : Hid (TokAt w1 g cap (toks s)) := hide ⟨own_zero hown, hg2⟩
  clear hown HTS
  rcases HREF.out with ⟨k, hkl, ht, n, hans⟩ | ⟨L, hsp, ⟨n, hans⟩, ht, hpar⟩
  · have HT := hide ht
    have HAN := hide hans
    have hpk := HFE.out.2.2.1 k
    generalize (tkAt (toks s) k).pos = ps at HT HAN hpk
    have z2 : (0 : Int) ≤ (ps : Int) := by omega
    clear ht hans HREF
    go_wp2_with fail
    refine (stands_any (toks s) n (ps : Int) w1 g cap HTK.out HFE.out.1 HFE.out.2.2.2.1 HAN.out).mono ?_
    rintro e2 w2 ⟨rfl, hb2⟩
    have HB := hide (hb1.trans (hb2.mono hb1.size))
    clear hb1 hb2
    go_wp2
    go_ret3
    exact ⟨_, by rw [HT.out]; rfl, HB.out, fun h => by rw [HT.out] at h; cases h⟩
  · have HT := hide ht
    have HAN := hide hans
    have HOK : Hid (ROk (toks s) L) := hide ⟨HFE.out.1, HFE.out.2.1, HFE.out.2.2.2.1, HFE.out.2.2.2.pos, hsp⟩
    have HSP := hide hsp
    have HPAR := hide hpar
    clear ht hans HREF hsp hpar
    go_wp2_with fail
    refine (stands_any (toks s) n (-1) w1 g cap HTK.out HFE.out.1 HFE.out.2.2.2.1 HAN.out).mono ?_
    rintro e2 w2 ⟨rfl, hb2⟩
    have hbw2 : Below w.heap.size w w2 := hb1.trans (hb2.mono hb1.size)
    have HTK2 := hide (HTK.out.below hb2)
    clear hb1 hb2 HTK
    go_wp2_with fail
    refine (program_any (toks s) L w2 g cap HTK2.out HFE.out.1 HFE.out.2.1 HFE.out.2.2.2.1 HSP.out).mono ?_
    rintro e3 w3 ⟨rfl, R, hrp, r1, r2, r3, r4, hb3⟩
    have hbw3 : Below w.heap.size w w3 := hbw2.trans (hb3.mono hbw2.size)
    have HRP := hide (hrp.prog (HTK2.out.below hb3) r1 r2 r3 r4)
    generalize w2.heap.size = q at HRP ⊢
    generalize (R 1).v = vE at HRP
    generalize (R 2).v = vA at HRP
    generalize (R 3).v = vI at HRP
    generalize (R 4).v = vQ at HRP
    clear hrp r1 r2 r3 r4 hb3 hbw2 HTK2
    go_wp2_with fail
    refine (rmany_any w3 q g cap (toks s) L vE vA vI vQ HRP.out HOK.out HFE.out.2.2.1).mono ?_
    rintro e4 w4 ⟨rfl, hb4⟩
    have HRP4 := hide (HRP.out.below hb4)
    have hbw4 : Below w.heap.size w w4 := hbw3.trans (hb4.mono hbw3.size)
    clear hb4 hbw3 HRP
    cases h1 : manyR (toks s) L with
    | some a =>
      have HF : Hid (textF s = (3, a)) := hide (by rw [HT.out]; unfold readR; rw [h1])
      simp only [optI]
      have z2 : (0 : Int) ≤ (a : Int) := by omega
      clear h1
      go_wp2
      go_ret3
      exact ⟨_, by rw [HF.out]; rfl, hbw4, fun h => by rw [HF.out] at h; cases h⟩
    | none =>
      have H1 := hide h1
      simp only [optI]
      clear h1
      go_wp2_with fail
      refine (rnames_any w4 q g cap (toks s) L vE vA vI vQ HRP4.out HOK.out HFE.out.2.2.1).mono ?_
      rintro e5 w5 ⟨rfl, hb5⟩
      have HRP5 := hide (HRP4.out.below hb5)
      have hbw5 : Below w.heap.size w w5 := hbw4.trans (hb5.mono hbw4.size)
      clear hb5 hbw4 HRP4
      cases h2 : namesR (toks s) L with
      | some a =>
        have HF : Hid (textF s = (4, a)) := hide (by rw [HT.out]; unfold readR; rw [H1.out]; simp only; rw [h2])
        simp only [optI]
        have z2 : (0 : Int) ≤ (a : Int) := by omega
        clear h2
        go_wp2
        go_ret3
        exact ⟨_, by rw [HF.out]; rfl, hbw5, fun h => by rw [HF.out] at h; cases h⟩
      | none =>
        have H2 := hide h2
        simp only [optI]
        clear h2
        go_wp2_with fail
        refine (rtypes_any w5 q g cap (toks s) L vE vA vI vQ HRP5.out HOK.out HFE.out.2.2.1).mono ?_
        rintro e6 w6 ⟨rfl, hb6⟩
        have HRP6 := hide (HRP5.out.below hb6)
        have hbw6 : Below w.heap.size w w6 := hbw5.trans (hb6.mono hbw5.size)
        clear hb6 hbw5 HRP5
        cases h3 : typesR (toks s) L with
        | some a =>
          have HF : Hid (textF s = (5, a)) := hide (by rw [HT.out]; unfold readR; rw [H1.out]; simp only; rw [H2.out]; simp only; rw [h3])
          simp only [optI]
          have z2 : (0 : Int) ≤ (a : Int) := by omega
          clear h3
          go_wp2
          go_ret3
          exact ⟨_, by rw [HF.out]; rfl, hbw6, fun h => by rw [HF.out] at h; cases h⟩
        | none =>
          have H3 := hide h3
          simp only [optI]
          clear h3
          go_wp2_with fail
          refine (rcycle_any w6 q g cap (toks s) L vE vA vI vQ HRP6.out HOK.out).mono ?_
          rintro e7 w7 ⟨rfl, hb7⟩
          have HRP7 := hide (HRP6.out.below hb7)
          have hbw7 : Below w.heap.size w w7 := hbw6.trans (hb7.mono hbw6.size)
          clear hb7 hbw6 HRP6
          cases h4 : cycR (toks s) L with
          | some a =>
            have HF : Hid (textF s = (6, a)) := hide (by rw [HT.out]; unfold readR; rw [H1.out]; simp only; rw [H2.out]; simp only; rw [H3.out]; simp only; rw [h4])
            simp only [optI]
            have z2 : (0 : Int) ≤ (a : Int) := by omega
            clear h4
            go_wp2
            go_ret3
            exact ⟨_, by rw [HF.out]; rfl, hbw7, fun h => by rw [HF.out] at h; cases h⟩
          | none =>
            have H4 := hide h4
            simp only [optI]
            clear h4
            go_wp2_with fail
            refine (rloop_any w7 q g cap (toks s) L vE vA vI vQ HRP7.out HOK.out).mono ?_
            rintro e8 w8 ⟨rfl, hb8⟩
            have HRP8 := hide (HRP7.out.below hb8)
            have hbw8 : Below w.heap.size w w8 := hbw7.trans (hb8.mono hbw7.size)
            clear hb8 hbw7 HRP7
            cases h5 : lpR (toks s) L with
            | some a =>
              have HF : Hid (textF s = (7, a)) := hide (by rw [HT.out]; unfold readR; rw [H1.out]; simp only; rw [H2.out]; simp only; rw [H3.out]; simp only; rw [H4.out]; simp only; rw [h5])
              simp only [optI]
              have z2 : (0 : Int) ≤ (a : Int) := by omega
              clear h5
              go_wp2
              go_ret3
              exact ⟨_, by rw [HF.out]; rfl, hbw8, fun h => by rw [HF.out] at h; cases h⟩
            | none =>
              have HF : Hid (textF s = (0, 0)) := hide (by rw [HT.out]; unfold readR; rw [H1.out]; simp only; rw [H2.out]; simp only; rw [H3.out]; simp only; rw [H4.out]; simp only; rw [h5])
              have H5 := hide h5
              simp only [optI]
              clear h5
              go_wp2
              go_ret3
              exact ⟨_, by rw [HF.out]; rfl, hbw8, fun _ => ⟨q, g, cap, L, vE, vA, vI, vQ, rfl, HRP8.out, HOK.out, ⟨H1.out, H2.out, H3.out, H4.out, H5.out, HSP.out, HPAR.out⟩⟩⟩

end Go.Proofs.Ytmndgoapkmhglaa

/- the numbers of the equations at a place. -/
namespace Go.Proofs.Ytmndgoapkmhglaa
open Go.RowKit
attribute [local go_sem ↓] Go.wp_at_zero Go.wp_at_succ

set_option maxHeartbeats 2000000 in
set_option maxRecDepth 100000 in
theorem rpat_any (w : World) (q g cap : Nat) (ts : List Tk) (L : List Dl) (vE vA vI vQ : Value) (h : RProg w q g cap ts L vE vA vI vQ) (ho : ROk ts L) (pl : Int) :
    Calls Try.prog 99 #[.pointer (some ⟨q, 0, none⟩), .int .i64 pl] w fun e w' => ∃ v, e = .returned v ∧ w'.ownsRow w.heap.size 3 1 v (atR ts L pl).length (pCells (atR ts L pl)) ∧ Below w.heap.size w w' := by
  obtain ⟨i0, hi0, hz0, hz1, hz2⟩ := info_parts Try.infoInt
  obtain ⟨hm1, hm2, hm3⟩ := ho.many
  obtain ⟨av, cv, rfl, hsh⟩ := own_shape h.eqs
  have HR := hide h
  have HO := hide ho
  have HSH := hide hsh
  clear h ho hsh
  go_enter Try.func99, Try.ntmps99
  go_wp2
  go_loopw [5, 6] (fun v vi wr => ∃ m : Nat, m ≤ (eqL L).length ∧ vi = .int .i64 m ∧ wr.ownsRow w.heap.size 3 1 v (atG ts L pl m).length (pCells (atG ts L pl m)) ∧ Below w.heap.size w wr) (fun _ vi _ => (eqL L).length - (intOf vi).toNat)
  case atStart => exact ⟨0, Nat.zero_le _, rfl, World.ownsRow_nil _ _ _ _, Below.refl _ _⟩
  case round =>
    obtain ⟨m, hm, rfl, hown, hbel⟩ := hrel
    have c4 := (HR.out.below hbel).c4
    have HOW := hide hown
    have HBR := hide hbel
    have hbs := hbel.size
    have hal := atG_len ts L pl m
    clear hown
    by_cases hml : m < (eqL L).length
    · obtain ⟨gq, rfl, _, hgq2⟩ := HSH.out (by omega)
      obtain ⟨x, hx⟩ : ∃ x, x = (eqL L)[m]'hml := ⟨_, rfl⟩
      obtain ⟨hxm, hxk, hxs, hxl, _⟩ := HO.out.eq (x := x) (by rw [hx]; exact List.getElem_mem hml)
      obtain ⟨e1, e2, e3⟩ := rdc_truth ts hxk
      obtain ⟨d, hd⟩ : ∃ d, d = rdc ts x := ⟨_, rfl⟩
      rw [← hd] at e1 e2 e3
      obtain ⟨y0, y1, y2, y3, y4, y5⟩ := rd_later HR.out.eqs hbel hgq2 hml d (by rw [hd, hx])
      have j3 : (0 : Int) ≤ (m : Int) := by omega
      have j4 : (m : Int) < ((eqL L).length : Int) := by omega
      have HE : Hid (((placeD ts ((eqL L)[m]'hml) : Nat) : Int) = (d.place : Int)) := hide (by rw [e3, hx])
      clear hd hx e1 e2 e3 hxm hxk hxs hxl y0 y1 y2 y3 y5 hbel
      by_cases hp : (d.place : Int) = pl
      · have q0 : ((d.place : Int) == pl) = true := by rw [hp]; simp
        have HN := hide (atG_hit hml (HE.out.trans hp))
        generalize (d.place : Int) = dp at *
        generalize atG ts L pl m = F at *
        clear hp
        have hod := HOW.out
        go_wp2_with (at_builtin; refine wpList_append_lies _ rfl _ _ _ rfl w.heap.size 3 i0 _ 1 8 Try.underlying48 hi0 hz0 hz1 hz2 rfl (by omega) _ F.length (pCells F) rfl (hod.alloc _) ⟨wr.heap.size, 0, none⟩ 1 1 [.int .i64 (m : Int)] rfl rfl (World.news_of_block (cs := #[.int .i64 (m : Int)]) (t := 3) (fr := (0, 0)) (heap_alloc_new wr _)) (by simp [Value.oneCell']) (by omega) (by unfold maxLen; omega) (by omega) (by simp; omega) (wr.heap.size + 1) (by simp) ?_; intro g3 cap3 w3 hown3 hgrow hat hlt3)
        go_roundw
        case rel =>
          refine ⟨m + 1, by omega, by go_num, ?_, ?_⟩
          · rw [HN.out, List.length_append, pCells_snoc]; exact hown3
          · exact (HBR.out.alloc hbs _).grown hgrow (by simp; omega) (fun j hj => ownBlock_ge hod j hj)
        case measure => simp [intOf]; omega
      · have q0 : ((d.place : Int) == pl) = false := by rw [beq_eq_false_iff_ne]; exact hp
        have HN := hide (atG_miss hml (by rw [HE.out]; exact hp))
        generalize (d.place : Int) = dp at *
        clear hp
        go_wp2
        go_roundw
        case rel => exact ⟨m + 1, by omega, by go_num, by rw [HN.out]; first | exact HOW.out | exact bel_own HOW.out (below_drewN (Below.refl _ _) _), by first | exact HBR.out | exact below_drewN HBR.out _⟩
        case measure => simp [intOf]; omega
    · have em : m = (eqL L).length := by omega
      subst em
      have z1 : ¬ ((eqL L).length : Int) < ((eqL L).length : Int) := by omega
      clear hbel
      go_wp2
      go_ret
      exact ⟨_, rfl, by first | exact HOW.out | exact bel_own HOW.out (below_drewN (Below.refl _ _) _), by first | exact HBR.out | exact below_drewN HBR.out _⟩

end Go.Proofs.Ytmndgoapkmhglaa
