import Derived.Test.YtmndgoapkmhglabM18OrdA
import Derived.Test.YtmndgoapkmhglabM34GoodT
import Derived.Test.YtmndgoapkmhglabM38RefT
namespace Go.Proofs.Ytmndgoapkmhglab
open Go.RowKit
attribute [local go_sem ↓] Go.wp_at_zero Go.wp_at_succ

theorem phase_col (M : Mx) (k i : Nat) : phase M k i k = M i k := by unfold phase; cases h : M i k <;> simp
theorem midM_col (M : Mx) (k f m : Nat) : midM M k f m f k = M f k := by
  unfold midM
  split
  · exact phase_col M k f
  · rfl
theorem midM_put (M : Mx) (k f m : Nat) (v : Bool) (hv : v = phase M k f m) : upd (midM M k f m) f m v = midM M k f (m + 1) := by
  funext i j
  unfold upd midM
  by_cases e : i = f ∧ j = m
  · obtain ⟨rfl, rfl⟩ := e
    rw [if_pos ⟨rfl, rfl⟩, if_pos (.inr ⟨rfl, by omega⟩), hv]
  · rw [if_neg e]
    by_cases h : i < f ∨ (i = f ∧ j < m)
    · rw [if_pos h, if_pos (by omega)]
    · rw [if_neg h, if_neg (by omega)]

theorem RowsOnly.bel {w w' : World} {B n : Nat} {R : Nat → Nat} (h : RowsOnly w w' n R) (hR : ∀ i, i < n → B ≤ R i) : Below B w w' :=
  ⟨h.os, h.tape, h.output, by rw [h.size]; exact Nat.le_refl _, fun k hk => h.block k (fun i hi => by have := hR i hi; omega)⟩

set_option maxHeartbeats 2000000 in
set_option maxRecDepth 100000 in
theorem rcircles_any (w : World) (a : Option Addr) (g n cap B : Nat) (R : Nat → Nat) (M : Mx) (h : Mat w g n R M) (ha : 0 < n → a = some ⟨g, 0, none⟩) (hn : n ≤ 1501) (hB : B ≤ w.heap.size) (hR : ∀ i, i < n → B ≤ R i) :
    Calls Try.prog 95 #[.slice a n cap] w fun e w' => ∃ G, e = .returned (.slice (some ⟨G, 0, none⟩) n n) ∧ B ≤ G ∧ w'.rowIs G 4 n (fun i => .bool (warsh M n i i)) ∧ Below B w w' := by
  have hm2 := run_make_row' (P := Try.prog) 113 4 (.bool false) 1 Try.underlying113 Try.infoBool rfl .i64 .i64 n (by omega) (by omega)
  have HM := hide h
  have HA := hide ha
  have HR := hide hR
  clear h ha hR
  go_enter Try.func95, Try.ntmps95
  go_wp2
  go_loopw [4] (fun i wr => ∃ k : Nat, k ≤ n ∧ i = .int .i64 k ∧ Mat wr g n R (warsh M k) ∧ Below B w wr) (fun i _ => n - (intOf i).toNat)
  case atStart => exact ⟨0, Nat.zero_le _, rfl, HM.out, Below.refl _ _⟩
  case round =>
    clear HM
    obtain ⟨k, hk, rfl, hmat, hro⟩ := hrel
    by_cases hlt : k < n
    · have hag := HA.out (by omega)
      subst hag
      have HW : Hid (warsh M (k + 1) = phase (warsh M k) k) := hide rfl
      generalize warsh M k = Mk at *
      have HMAT := hide hmat
      have HRO := hide hro
      have j3 : (0 : Int) ≤ (k : Int) := by omega
      have j4 : (k : Int) < (n : Int) := by omega
      clear hmat hro
      go_wp2
      go_loopw [5] (fun i wr => ∃ f : Nat, f ≤ n ∧ i = .int .i64 f ∧ Mat wr g n R (midM Mk k f 0) ∧ Below B w wr) (fun i _ => n - (intOf i).toNat)
      case atStart => exact ⟨0, Nat.zero_le _, rfl, by rw [midM_zero]; exact HMAT.out, HRO.out⟩
      case round =>
        clear HMAT HRO
        obtain ⟨f, hf, rfl, hmat, hro⟩ := hrel
        by_cases hfl : f < n
        · have HMAT := hide hmat
          have HRO := hide hro
          have j1 : (0 : Int) ≤ (f : Int) := by omega
          have j2 : (f : Int) < (n : Int) := by omega
          clear hmat hro
          go_wp2
          go_loopw [6] (fun i wr => ∃ m : Nat, m ≤ n ∧ i = .int .i64 m ∧ Mat wr g n R (midM Mk k f m) ∧ Below B w wr) (fun i _ => n - (intOf i).toNat)
          case atStart => exact ⟨0, Nat.zero_le _, rfl, HMAT.out, HRO.out⟩
          case round =>
            clear HMAT HRO
            obtain ⟨m, hm, rfl, hmat, hro⟩ := hrel
            by_cases hml : m < n
            · have o1 := hmat.outer f hfl
              have o2 := hmat.outer k hlt
              have x2 := hmat.cell (i := k) (j := m) hlt hml
              rw [midM_between Mk k f m m (by omega)] at x2
              have x3 := hmat.cell (i := f) (j := m) hfl hml
              rw [midM_here Mk k f m m (by omega)] at x3
              have x4 := hmat.cell (i := f) (j := k) hfl hlt
              rw [midM_col] at x4
              have f3 := hmat.froz hfl m
              have HMAT := hide hmat
              have HRO := hide hro
              have j5 : (0 : Int) ≤ (m : Int) := by omega
              have j6 : (m : Int) < (n : Int) := by omega
              have HPH : Hid (phase Mk k f m = (Mk f m || (Mk f k && Mk k m))) := hide rfl
              have HBf := hide (HR.out f hfl)
              have HX : Hid (∀ (W : World) (V : Bool), Mat W g n R (midM Mk k f m) → V = phase Mk k f m → Mat (W.setCell ⟨R f, m, none⟩ (.bool V)) g n R (midM Mk k f (m + 1))) := hide (fun W V hW hV => by
                rw [← midM_put Mk k f m V hV]; exact hW.set hfl m V)
              clear hmat hro
              generalize hv1 : Mk f m = v1 at x3 HPH
              generalize hv2 : Mk f k = v2 at x4 HPH
              generalize hv3 : Mk k m = v3 at x2 HPH
              clear hv1 hv2 hv3
              have hc : v1 = true ∨ (v1 = false ∧ v2 = false) ∨ (v1 = false ∧ v2 = true) := by cases v1 <;> cases v2 <;> simp
              rcases hc with rfl | ⟨rfl, rfl⟩ | ⟨rfl, rfl⟩
              all_goals
                go_wp2_with fail
                go_big_region
                go_wp2
                go_roundw
                case rel =>
                  exact ⟨m + 1, by omega, by go_num, (HX.out _ _ HMAT.out (by rw [HPH.out]; rfl)).drew, (HRO.out.setCell HBf.out _).drew⟩
                case measure => simp [intOf]; omega
            · have HMAT := hide hmat
              have HRO := hide hro
              clear hmat hro
              go_wp2
              go_roundw
              case rel => exact ⟨f + 1, by omega, by go_num, HMAT.out.congr (midM_done Mk n k f m (by omega)), HRO.out⟩
              case measure => simp [intOf]; omega
        · have HMAT := hide hmat
          have HRO := hide hro
          clear hmat hro
          go_wp2
          go_roundw
          case rel => exact ⟨k + 1, by omega, by go_num, by rw [HW.out]; exact HMAT.out.congr (midM_all Mk n k f (by omega)), HRO.out⟩
          case measure => simp [intOf]; omega
    · have ek : k = n := by omega
      subst ek
      have HMAT := hide hmat
      have HRO := hide hro
      clear hmat hro
      go_wp2
      generalize hWM : warsh M k = WM at HMAT ⊢
      have hGB : B ≤ wr.heap.size := Nat.le_trans hB HRO.out.size
      have HGM : Hid (∀ i, i < k → R i ≠ wr.heap.size ∧ g ≠ wr.heap.size) := hide (fun i hi => ⟨by have := World.rowIs.lt (HMAT.out.rows i hi); omega, by have := HMAT.out.lt (by omega); omega⟩)
      obtain ⟨G, hG⟩ : ∃ G, G = wr.heap.size := ⟨_, rfl⟩
      rw [← hG] at HGM hGB ⊢
      have HR0 : Hid ((wr.alloc (.cells (madeCells #[.bool false] k) 4)).rowIs G 4 k (fun _ => .bool false)) := hide (by rw [hG]; exact World.rowIs_made wr (.bool false) k 4)
      have HRW : Hid (Below B w (wr.alloc (.cells (madeCells #[.bool false] k) 4))) := hide (HRO.out.alloc (Nat.le_trans hB HRO.out.size) _)
      have HMW := hide (HMAT.out.alloc (.cells (madeCells #[.bool false] k) 4))
      clear hG
      go_loopw [8] (fun i wx => ∃ m : Nat, m ≤ k ∧ i = .int .i64 m ∧ Mat wx g k R WM ∧ wx.rowIs G 4 k (fun i => if i < m then .bool (WM i i) else .bool false) ∧ Below B w wx) (fun i _ => k - (intOf i).toNat)
      case atStart => exact ⟨0, Nat.zero_le _, rfl, HMW.out, HR0.out.congr (fun i _ => by simp), HRW.out⟩
      case round =>
        clear HMAT HRO HRW HMW HR0
        obtain ⟨m, hm, rfl, hmat, hrow, hbel⟩ := hrel
        by_cases hml : m < k
        · have hag := HA.out (by omega)
          subst hag
          have o1 := hmat.outer m hml
          have x1 := hmat.cell hml hml
          have g1 := hrow.cell hml
          rw [if_neg (by omega)] at g1
          have g2 := hrow.frozen m
          have HMAT := hide hmat
          have HROW := hide hrow
          have j5 : (0 : Int) ≤ (m : Int) := by omega
          have j6 : (m : Int) < (k : Int) := by omega
          clear hmat hrow
          go_wp2
          go_roundw
          case rel =>
            refine ⟨m + 1, by omega, by go_num, HMAT.out.keep (heap_setCell_other wr ⟨G, m, none⟩ g _ (HGM.out m hml).2) (fun i hi => heap_setCell_other wr ⟨G, m, none⟩ (R i) _ (HGM.out i hi).1), ?_, hbel.setCell hGB _⟩
            refine (HROW.out.set m (.bool (WM m m))).congr (fun i hi => ?_)
            by_cases e : i = m
            · subst e; rw [if_pos rfl, if_pos (by omega)]
            · rw [if_neg e]
              by_cases h2 : i < m
              · rw [if_pos h2, if_pos (by omega)]
              · rw [if_neg h2, if_neg (by omega)]
          case measure => simp [intOf]; omega
        · have em : m = k := by omega
          subst em
          have HROW := hide hrow
          clear hmat hrow
          go_wp2
          go_ret
          subst hWM
          refine ⟨G, rfl, hGB, ?_, hbel⟩
          exact HROW.out.congr (fun i hi => by rw [if_pos hi])

end Go.Proofs.Ytmndgoapkmhglab

namespace Go.Proofs.Ytmndgoapkmhglab
open Go.RowKit
attribute [local go_sem ↓] Go.wp_at_zero Go.wp_at_succ

/-- a declaration laid into a box. -/
theorem dec_step (d : RDc) (w : World) {wr : World} (hb : Below (w.alloc (.cells #[.string d.name, .int .i64 (d.tok : Int), .bool d.input, .bool d.truth, .int .i64 (d.place : Int), .int .i64 (d.body : Int)] 115)).heap.size (w.alloc (.cells #[.string d.name, .int .i64 (d.tok : Int), .bool d.input, .bool d.truth, .int .i64 (d.place : Int), .int .i64 (d.body : Int)] 115)) wr) :
    wr.cell? ⟨w.heap.size, 5, none⟩ = some (.int .i64 (d.body : Int)) ∧ wr.cell? ⟨w.heap.size, 4, none⟩ = some (.int .i64 (d.place : Int)) ∧ Below w.heap.size w wr := by
  have hN := (hb.block w.heap.size (by simp)).trans (heap_alloc_new w _)
  refine ⟨?_, ?_, ((Below.refl _ _).alloc (Nat.le_refl _) _).trans (hb.mono (by simp))⟩
  · rw [cell_of_row wr _ 5 _ _ _ hN]; rfl
  · rw [cell_of_row wr _ 4 _ _ _ hN]; rfl

set_option maxHeartbeats 1000000 in
theorem rhangs_any (w : World) (q g cap : Nat) (ts : List Tk) (L : List Dl) (vE vA vI vQ : Value) (h : RProg w q g cap ts L vE vA vI vQ) (ho : ROk ts L) (x : Dl) (hx : x ∈ eqL L) (name : ByteArray) :
    Calls Try.prog 94 #[.pointer (some ⟨q, 0, none⟩), (rdc ts x).val, .string name] w fun e w' => e = .returned (.bool (hangsR ts x name.data.toList)) ∧ Below w.heap.size w w' := by
  have hlen := ho.len
  have hpos := ho.pos
  obtain ⟨gE, capE, rfl, _, hgE⟩ := h.ends.form (by omega)
  obtain ⟨hxm, hxk, hxs, hxl, _⟩ := ho.eq hx
  have hbd : (rdc ts x).body = x.i + 5 := by unfold rdc; rw [if_neg hxk]
  have hbe : behindF ts (x.i + 5) = x.i + 5 + x.t.len := behind_sp ho.F x.t (x.i + 5) hxs (by omega)
  have HR := hide h
  have HO := hide ho
  generalize rdc ts x = d at hbd
  obtain ⟨b, hb⟩ : ∃ b, b = x.i + 5 := ⟨_, rfl⟩
  obtain ⟨e, he⟩ : ∃ e, e = b + x.t.len := ⟨_, rfl⟩
  rw [← hb] at hbe hbd
  rw [← he] at hbe
  have HBE := hide hbe
  have HHG : Hid (((List.range' b (e - b)).any fun j => isNm ts j && (lAt ts j == name.data.toList && !delayedR ts b j)) = hangsR ts x name.data.toList) := hide (by unfold hangsR; rw [← hb, he, Nat.add_sub_cancel_left])
  have hel : e < ts.length := by omega
  have hble : b ≤ e := by omega
  have HB := hide (fun wr hb => dec_step d w (wr := wr) hb)
  rw [hbd] at HB
  clear hbe he hb h ho hxs hxm hxk hx
  obtain ⟨W0, hW0⟩ : ∃ W0, W0 = w.alloc (.cells #[.string d.name, .int .i64 (d.tok : Int), .bool d.input, .bool d.truth, .int .i64 (d.place : Int), .int .i64 (b : Int)] 115) := ⟨_, rfl⟩
  rw [← hW0] at HB
  obtain ⟨t0, _, t2⟩ := HB.out W0 (Below.refl _ _)
  have r0 := end_later HR.out.ends t2 hgE (show b < ts.length by omega)
  have c1 := (HR.out.below t2).c1
  rw [HBE.out] at r0
  have j1 : (0 : Int) ≤ (b : Int) := by omega
  have j2 : (b : Int) < (ts.length : Int) := by omega
  show Calls Try.prog 94 #[.pointer (some ⟨q, 0, none⟩), .agg #[.string d.name, .int .i64 (d.tok : Int), .bool d.input, .bool d.truth, .int .i64 (d.place : Int), .int .i64 (d.body : Int)], .string name] w _
  rw [hbd]
  have HW0 := hide hW0
  clear hbd hW0
  go_enter Try.func94, Try.ntmps94
  go_wp2
  rw [← HW0.out]
  go_loopw [7] (fun f wr => ∃ k : Nat, b ≤ k ∧ k ≤ e ∧ f = .int .i64 k ∧ Below W0.heap.size W0 wr ∧ ((List.range' k (e - k)).any fun j => isNm ts j && (lAt ts j == name.data.toList && !delayedR ts b j)) = hangsR ts x name.data.toList) (fun f _ => e - (intOf f).toNat)
  case atStart => exact ⟨b, Nat.le_refl _, hble, rfl, Below.refl _ _, HHG.out⟩
  case round =>
    clear t0 c1 r0
    obtain ⟨k, hk0, hk, rfl, hbel, hrec⟩ := hrel
    obtain ⟨t0, _, hbw⟩ := HB.out wr hbel
    have hrp := HR.out.below hbw
    have c0 := hrp.c0
    have c1 := hrp.c1
    have r0 := end_later HR.out.ends hbw hgE (show b < ts.length by omega)
    rw [HBE.out] at r0
    by_cases hlt : k < e
    · have j5 : (k : Int) < (e : Int) := by omega
      have j3 : (0 : Int) ≤ (k : Int) := by omega
      have j4 : (k : Int) < (ts.length : Int) := by omega
      rw [any_range _ _ hlt] at hrec
      have HRC := hide hrec
      have HRP := hide hrp
      clear hrec hrp
      go_wp2_with fail
      go_quiet (fail)
      go_wp2_with fail
      have hdr : Below wr.heap.size wr (wr.drewN nq) := below_drewN (Below.refl _ _) _
      refine (rdelayed_any _ q g cap ts L _ _ _ _ (HRP.out.below hdr) HO.out b k hk0 (by omega)).mono ?_
      rintro e1 w2 ⟨rfl, hb2⟩
      have hbx : Below wr.heap.size wr w2 := hdr.trans (hb2.mono hdr.size)
      have hbel2 : Below W0.heap.size W0 w2 := hbel.trans (hbx.mono hbel.size)
      have hbw2 : Below w.heap.size w w2 := hbw.trans (hbx.mono hbw.size)
      clear hdr hb2 hbx hbel hbw c0 c1 r0 t0
      have c0 := (HR.out.below hbw2).c0
      obtain ⟨a, ha⟩ : ∃ a, a = rtok (tkAt ts k) := ⟨_, rfl⟩
      obtain ⟨x0, x1, x2, x3⟩ := HR.out.toks.cells hbw2 (show k < ts.length by omega) a ha
      have hc := c97 (tkAt ts k)
      rw [← ha] at hc
      have hrec := HRC.out
      generalize delayedR ts b k = lt at hrec ⊢
      by_cases hnm : (tkAt ts k).kind = 1
      · have q1 : ((a.c : Int) == 97) = true := by
          rw [show (97 : Int) = ((97 : Nat) : Int) from rfl, beq_cast, hc, hnm]; rfl
        have hw : a.word = (tkAt ts k).text := by rw [ha]; unfold rtok; simp [hnm]
        obtain ⟨ee, qE⟩ : ∃ ee, (a.word.toList == name.toList) = ee := ⟨_, rfl⟩
        have eE : (lAt ts k == name.data.toList) = ee := by
          rw [← qE, ByteArray.toList_eq, ByteArray.toList_eq, hw]; rfl
        rw [eE, show isNm ts k = true by unfold isNm; rw [hnm]; rfl, Bool.true_and] at hrec
        have HRX := hide hrec
        have HB2 := hide (And.intro hbel2 hbw2)
        clear hrec hc hnm ha hw eE HRC
        cases ee
        · have HR2 : Hid (((List.range' (k + 1) (e - (k + 1))).any fun j => isNm ts j && (lAt ts j == name.data.toList && !delayedR ts b j)) = hangsR ts x name.data.toList) := hide (by rw [← HRX.out]; simp)
          clear HRX
          go_wp2
          go_roundw
          case rel => exact ⟨k + 1, by omega, by omega, by go_num, by first | exact HB2.out.1 | exact below_drewN HB2.out.1 _, HR2.out⟩
          case measure => simp [intOf]; omega
        · cases lt
          · have HR2 : Hid (hangsR ts x name.data.toList = true) := hide (by rw [← HRX.out]; simp)
            clear HRX
            go_wp2
            go_ret
            exact ⟨by rw [HR2.out]; rfl, by first | exact HB2.out.2 | exact below_drewN HB2.out.2 _⟩
          · have HR2 : Hid (((List.range' (k + 1) (e - (k + 1))).any fun j => isNm ts j && (lAt ts j == name.data.toList && !delayedR ts b j)) = hangsR ts x name.data.toList) := hide (by rw [← HRX.out]; simp)
            clear HRX
            go_wp2
            go_roundw
            case rel => exact ⟨k + 1, by omega, by omega, by go_num, by first | exact HB2.out.1 | exact below_drewN HB2.out.1 _, HR2.out⟩
            case measure => simp [intOf]; omega
      · have q1 : ((a.c : Int) == 97) = false := by
          rw [show (97 : Int) = ((97 : Nat) : Int) from rfl, beq_cast, hc]; exact beq_eq_false_iff_ne.2 hnm
        have hno : isNm ts k = false := by unfold isNm; exact beq_eq_false_iff_ne.2 hnm
        have HR2 : Hid (((List.range' (k + 1) (e - (k + 1))).any fun j => isNm ts j && (lAt ts j == name.data.toList && !delayedR ts b j)) = hangsR ts x name.data.toList) := hide (by rw [← hrec, hno]; simp)
        have HB2 := hide (And.intro hbel2 hbw2)
        clear hrec hc hnm ha hno HRC
        go_wp2
        go_roundw
        case rel => exact ⟨k + 1, by omega, by omega, by go_num, by first | exact HB2.out.1 | exact below_drewN HB2.out.1 _, HR2.out⟩
        case measure => simp [intOf]; omega
    · have ek : e - k = 0 := by omega
      rw [ek] at hrec
      have HRC := hide hrec
      have z1 : ¬ (k : Int) < (e : Int) := by omega
      have HBW := hide hbw
      clear hrec ek hrp
      go_wp2_with fail
      go_quiet (fail)
      go_wp2
      go_ret
      exact ⟨by rw [← HRC.out]; rfl, below_drewN HBW.out _⟩

end Go.Proofs.Ytmndgoapkmhglab
