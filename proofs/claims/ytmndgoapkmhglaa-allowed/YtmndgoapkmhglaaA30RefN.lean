import Derived.Test.YtmndgoapkmhglaaA18OrdA
import Derived.Test.YtmndgoapkmhglaaA29GoodT
namespace Go.Proofs.Ytmndgoapkmhglaa
open Go.RowKit
attribute [local go_sem ↓] Go.wp_at_zero Go.wp_at_succ

theorem rdc_tok (ts : List Tk) (x : Dl) : (rdc ts x).tok = x.i + 1 ∧ (rdc ts x).name = nameD ts x := by unfold rdc; split <;> exact ⟨rfl, rfl⟩
theorem ROk.tok {ts : List Tk} {L : List Dl} (h : ROk ts L) {x : Dl} (hx : x ∈ L) : (rdc ts x).tok < ts.length := by
  have := (h.mem hx).1; have := Dl.len_pos x; rw [(rdc_tok ts x).1]; omega

theorem rdc_pos (ts : List Tk) (x : Dl) : (tkAt ts (rdc ts x).tok).pos = posD ts x := by rw [(rdc_tok ts x).1]; rfl

theorem pos_le (s : ByteArray) (i : Nat) : (tkAt (toks s) i).pos ≤ s.size := by
  obtain ⟨h1, _⟩ := tk_pos _ 0 s.data.toList rfl
  rw [toks_list]
  by_cases h : i < (tk 0 s.data.toList).length
  · rw [tkAt_left h]; have := (h1 _ (tkAt_mem h)).2; rw [size_list]; omega
  · by_cases e : i = (tk 0 s.data.toList).length
    · rw [e, tkAt_mid]; exact Nat.le_refl _
    · have : tkAt (tk 0 s.data.toList ++ [⟨0, s.size, ⟨#[]⟩⟩]) i = tkEnd := by
        unfold tkAt
        rw [List.getD_eq_getElem?_getD, List.getElem?_eq_none (by simp; omega)]
        rfl
      rw [this]; exact Nat.zero_le _

/-- the cells of one declaration of a row, with the row's own address. -/
theorem row_at {w : World} {v : Value} {ts : List Tk} {l : List Dl} (h : w.ownsRow 0 138 6 v l.length (rdCells (l.map (rdc ts)))) {k : Nat} (hk : k < l.length) :
    ∃ g cap, v = .slice (some ⟨g, 0, none⟩) l.length cap ∧ g < w.heap.size ∧ ∀ wr, Below w.heap.size w wr → ∀ a, a = rdc ts (l[k]'hk) → wr.cell? ⟨g, k * 6, none⟩ = some (.string a.name) ∧ wr.cell? ⟨g, k * 6 + 1, none⟩ = some (.int .i64 (a.tok : Int)) ∧ wr.cell? ⟨g, k * 6 + 2, none⟩ = some (.bool a.input) ∧ wr.cell? ⟨g, k * 6 + 3, none⟩ = some (.bool a.truth) ∧
    wr.cell? ⟨g, k * 6 + 4, none⟩ = some (.int .i64 (a.place : Int)) ∧ wr.cell? ⟨g, k * 6 + 5, none⟩ = some (.int .i64 (a.body : Int)) := by
  obtain ⟨g, cap, rfl, _, h2⟩ := h.form (by omega)
  exact ⟨g, cap, rfl, h2, fun wr hb a ha => rd_later h hb h2 hk a ha⟩

set_option maxHeartbeats 1000000 in
theorem rmany_any (w : World) (q g cap : Nat) (ts : List Tk) (L : List Dl) (vE vA vI vQ : Value) (h : RProg w q g cap ts L vE vA vI vQ) (ho : ROk ts L) (hp : ∀ i, (tkAt ts i).pos ≤ 1500) :
    Calls Try.prog 73 #[.pointer (some ⟨q, 0, none⟩)] w fun e w' => e = .returned (optI (manyR ts L)) ∧ Below w.heap.size w w' := by
  obtain ⟨av, cv, hv, _⟩ := own_shape h.eqs
  obtain ⟨ai, ci, hi, _⟩ := own_shape h.ins
  obtain ⟨hm1, hm2, hm3⟩ := ho.many
  have c4 : w.cell? ⟨q, 4, none⟩ = some (.slice av (eqL L).length cv) := by rw [h.c4, hv]
  have c3 : w.cell? ⟨q, 3, none⟩ = some (.slice ai (inL L).length ci) := by rw [h.c3, hi]
  have HR := hide h
  have HO := hide ho
  have hp := hp
  clear h ho
  by_cases hq : 12 < (eqL L).length
  · obtain ⟨gq, cq, hvq, hgq, hcq⟩ := row_at HR.out.eqs hq
    obtain ⟨x, hx⟩ : ∃ x, x = (eqL L)[12]'hq := ⟨_, rfl⟩
    have hxm : x ∈ L := (List.mem_filter.1 (by rw [hx]; exact List.getElem_mem hq)).1
    obtain ⟨y0, y1, y2, y3, y4, y5⟩ := hcq w (Below.refl _ _) (rdc ts x) (by rw [hx])
    have hE : ((eqL L)[12]?).map (posD ts) = some (posD ts x) := by rw [List.getElem?_eq_getElem hq, ← hx]; rfl
    rw [hvq] at hv
    cases hv
    have ht := HO.out.tok hxm
    have hpos := rdc_pos ts x
    have hp12 : posD ts x ≤ 1500 := hp _
    have HTX := hide ht
    have HPX := hide hpos
    have i1 : (12 : Int) < ((eqL L).length : Int) := by omega
    clear hcq hxm hx ht hpos
    by_cases hi4 : 4 < (inL L).length
    · obtain ⟨gi, cI, hvi, hgi, hci⟩ := row_at HR.out.ins hi4
      obtain ⟨z, hz⟩ : ∃ z, z = (inL L)[4]'hi4 := ⟨_, rfl⟩
      have hzm : z ∈ L := (List.mem_filter.1 (by rw [hz]; exact List.getElem_mem hi4)).1
      have hI : ((inL L)[4]?).map (posD ts) = some (posD ts z) := by rw [List.getElem?_eq_getElem hi4, ← hz]; rfl
      rw [hvi] at hi
      cases hi
      have hti := HO.out.tok hzm
      have hposi := rdc_pos ts z
      have hp4 : posD ts z ≤ 1500 := hp _
      have HCI := hide (fun wr hb => hci wr hb (rdc ts z) (by rw [hz]))
      have HTI := hide hti
      have HPI := hide hposi
      have i2 : (4 : Int) < ((inL L).length : Int) := by omega
      clear hci hzm hz hti hposi
      go_enter Try.func73, Try.ntmps73
      go_wp2_with fail
      refine (rplace_any w q g cap ts L _ _ _ _ HR.out (rdc ts x) HTX.out).mono ?_
      rintro e w1 ⟨rfl, hb1⟩
      rw [HPX.out]
      obtain ⟨n1, hn1⟩ : ∃ n, n = posD ts x := ⟨_, rfl⟩
      rw [← hn1]
      rw [← hn1] at hp12
      have HN1 := hide hn1
      have HB1 := hide hb1
      have c3' := (hb1.cell (p := ⟨q, 3, none⟩) HR.out.lt).trans c3
      clear hn1 y0 y1 y2 y3 y4 y5 c3 c4 hb1
      obtain ⟨z0, z1, z2, z3, z4, z5⟩ := HCI.out w1 HB1.out
      go_wp2_with fail
      refine (rplace_any w1 q g cap ts L _ _ _ _ (HR.out.below HB1.out) (rdc ts z) HTI.out).mono ?_
      rintro e w2 ⟨rfl, hb2⟩
      rw [HPI.out]
      obtain ⟨n2, hn2⟩ : ∃ n, n = posD ts z := ⟨_, rfl⟩
      rw [← hn2]
      rw [← hn2] at hp4
      have HN2 := hide hn2
      have HB2 := hide hb2
      clear hn2 hb2
      have m1 : ¬ (n1 : Int) < 0 := by omega
      by_cases hlt : n2 < n1
      · have m2 : (n2 : Int) < (n1 : Int) := by omega
        have HF : Hid (manyR ts L = some n2) := hide (by unfold manyR; rw [hE, hI, ← HN1.out, ← HN2.out]; simp only [less]; rw [if_pos hlt])
        clear hlt hE hI
        go_wp2
        go_ret
        exact ⟨by rw [HF.out]; rfl, HB1.out.trans (HB2.out.mono HB1.out.size)⟩
      · have m2 : ¬ (n2 : Int) < (n1 : Int) := by omega
        have HF : Hid (manyR ts L = some n1) := hide (by unfold manyR; rw [hE, hI, ← HN1.out, ← HN2.out]; simp only [less]; rw [if_neg hlt])
        clear hlt hE hI
        go_wp2
        go_ret
        exact ⟨by rw [HF.out]; rfl, HB1.out.trans (HB2.out.mono HB1.out.size)⟩
    · have i2 : ¬ (4 : Int) < ((inL L).length : Int) := by omega
      have hI : ((inL L)[4]?).map (posD ts) = none := by rw [List.getElem?_eq_none (by omega)]; rfl
      go_enter Try.func73, Try.ntmps73
      go_wp2_with fail
      refine (rplace_any w q g cap ts L _ _ _ _ HR.out (rdc ts x) HTX.out).mono ?_
      rintro e w1 ⟨rfl, hb1⟩
      rw [HPX.out]
      obtain ⟨n1, hn1⟩ : ∃ n, n = posD ts x := ⟨_, rfl⟩
      rw [← hn1]
      rw [← hn1] at hp12
      have HN1 := hide hn1
      have HB1 := hide hb1
      have c3' := (hb1.cell (p := ⟨q, 3, none⟩) HR.out.lt).trans c3
      clear hn1 y0 y1 y2 y3 y4 y5 c3 c4 hb1
      have HF : Hid (manyR ts L = some n1) := hide (by unfold manyR; rw [hE, hI, ← HN1.out]; rfl)
      clear hE hI
      go_wp2
      go_ret
      exact ⟨by rw [HF.out]; rfl, HB1.out⟩
  · have i1 : ¬ (12 : Int) < ((eqL L).length : Int) := by omega
    have hE : ((eqL L)[12]?).map (posD ts) = none := by rw [List.getElem?_eq_none (by omega)]; rfl
    by_cases hi4 : 4 < (inL L).length
    · obtain ⟨gi, cI, hvi, hgi, hci⟩ := row_at HR.out.ins hi4
      obtain ⟨z, hz⟩ : ∃ z, z = (inL L)[4]'hi4 := ⟨_, rfl⟩
      have hzm : z ∈ L := (List.mem_filter.1 (by rw [hz]; exact List.getElem_mem hi4)).1
      have hI : ((inL L)[4]?).map (posD ts) = some (posD ts z) := by rw [List.getElem?_eq_getElem hi4, ← hz]; rfl
      rw [hvi] at hi
      cases hi
      have hti := HO.out.tok hzm
      have hposi := rdc_pos ts z
      have hp4 : posD ts z ≤ 1500 := hp _
      have HCI := hide (fun wr hb => hci wr hb (rdc ts z) (by rw [hz]))
      have HTI := hide hti
      have HPI := hide hposi
      have i2 : (4 : Int) < ((inL L).length : Int) := by omega
      clear hci hzm hz hti hposi
      obtain ⟨z0, z1, z2, z3, z4, z5⟩ := HCI.out w (Below.refl _ _)
      go_enter Try.func73, Try.ntmps73
      go_wp2_with fail
      refine (rplace_any w q g cap ts L _ _ _ _ HR.out (rdc ts z) HTI.out).mono ?_
      rintro e w2 ⟨rfl, hb2⟩
      rw [HPI.out]
      obtain ⟨n2, hn2⟩ : ∃ n, n = posD ts z := ⟨_, rfl⟩
      rw [← hn2]
      rw [← hn2] at hp4
      have HN2 := hide hn2
      have HB2 := hide hb2
      clear hn2 hb2
      have HF : Hid (manyR ts L = some n2) := hide (by unfold manyR; rw [hE, hI, ← HN2.out]; rfl)
      clear hE hI
      go_wp2
      go_ret
      exact ⟨by rw [HF.out]; rfl, HB2.out⟩
    · have i2 : ¬ (4 : Int) < ((inL L).length : Int) := by omega
      have hI : ((inL L)[4]?).map (posD ts) = none := by rw [List.getElem?_eq_none (by omega)]; rfl
      have HF : Hid (manyR ts L = none) := hide (by unfold manyR; rw [hE, hI]; rfl)
      clear hE hI
      go_enter Try.func73, Try.ntmps73
      go_wp2_with fail
      go_ret
      exact ⟨by rw [HF.out]; rfl, Below.refl _ _⟩

end Go.Proofs.Ytmndgoapkmhglaa

namespace Go.Proofs.Ytmndgoapkmhglaa
open Go.RowKit
attribute [local go_sem ↓] Go.wp_at_zero Go.wp_at_succ

theorem phase_col (M : Mx) (k i : Nat) : phase M k i k = M i k := by unfold phase; cases h : M i k <;> simp
theorem midM_col (M : Mx) (k f m : Nat) : midM M k f m f k = M f k := by
  unfold midM
  split
  · exact phase_col M k f
  · rfl
theorem midM_put (M : Mx) (k f m : Nat) (v : Bool) (hv : v = phase M k f m) : upd (midM M k f m) f m v = midM M k f (m + 1) := by
  funext i j
  unfold upd midM
  by_cases e : i = f ∧ j = m
  · obtain ⟨rfl, rfl⟩ := e
    rw [if_pos ⟨rfl, rfl⟩, if_pos (.inr ⟨rfl, by omega⟩), hv]
  · rw [if_neg e]
    by_cases h : i < f ∨ (i = f ∧ j < m)
    · rw [if_pos h, if_pos (by omega)]
    · rw [if_neg h, if_neg (by omega)]

theorem RowsOnly.bel {w w' : World} {B n : Nat} {R : Nat → Nat} (h : RowsOnly w w' n R) (hR : ∀ i, i < n → B ≤ R i) : Below B w w' :=
  ⟨h.os, h.tape, h.output, by rw [h.size]; exact Nat.le_refl _, fun k hk => h.block k (fun i hi => by have := hR i hi; omega)⟩

set_option maxHeartbeats 2000000 in
set_option maxRecDepth 100000 in
theorem rcircles_any (w : World) (a : Option Addr) (g n cap B : Nat) (R : Nat → Nat) (M : Mx) (h : Mat w g n R M) (ha : 0 < n → a = some ⟨g, 0, none⟩) (hn : n ≤ 1501) (hB : B ≤ w.heap.size) (hR : ∀ i, i < n → B ≤ R i) :
    Calls Try.prog 116 #[.slice a n cap] w fun e w' => ∃ G, e = .returned (.slice (some ⟨G, 0, none⟩) n n) ∧ B ≤ G ∧ w'.rowIs G 4 n (fun i => .bool (warsh M n i i)) ∧ Below B w w' := by
  have hm2 := run_make_row' (P := Try.prog) 175 4 (.bool false) 1 Try.underlying175 Try.infoBool rfl .i64 .i64 n (by omega) (by omega)
  have HM := hide h
  have HA := hide ha
  have HR := hide hR
  clear h ha hR
  go_enter Try.func116, Try.ntmps116
  go_wp2
  go_loopw [4] (fun i wr => ∃ k : Nat, k ≤ n ∧ i = .int .i64 k ∧ Mat wr g n R (warsh M k) ∧ Below B w wr) (fun i _ => n - (intOf i).toNat)
  case atStart => exact ⟨0, Nat.zero_le _, rfl, HM.out, Below.refl _ _⟩
  case round =>
    clear HM
    obtain ⟨k, hk, rfl, hmat, hro⟩ := hrel
    by_cases hlt : k < n
    · have hag := HA.out (by omega)
      subst hag
      have HW : Hid (warsh M (k + 1) = phase (warsh M k) k) := hide rfl
      generalize warsh M k = Mk at *
      have HMAT := hide hmat
      have HRO := hide hro
      have j3 : (0 : Int) ≤ (k : Int) := by omega
      have j4 : (k : Int) < (n : Int) := by omega
      clear hmat hro
      go_wp2
      go_loopw [5] (fun i wr => ∃ f : Nat, f ≤ n ∧ i = .int .i64 f ∧ Mat wr g n R (midM Mk k f 0) ∧ Below B w wr) (fun i _ => n - (intOf i).toNat)
      case atStart => exact ⟨0, Nat.zero_le _, rfl, by rw [midM_zero]; exact HMAT.out, HRO.out⟩
      case round =>
        clear HMAT HRO
        obtain ⟨f, hf, rfl, hmat, hro⟩ := hrel
        by_cases hfl : f < n
        · have HMAT := hide hmat
          have HRO := hide hro
          have j1 : (0 : Int) ≤ (f : Int) := by omega
          have j2 : (f : Int) < (n : Int) := by omega
          clear hmat hro
          go_wp2
          go_loopw [6] (fun i wr => ∃ m : Nat, m ≤ n ∧ i = .int .i64 m ∧ Mat wr g n R (midM Mk k f m) ∧ Below B w wr) (fun i _ => n - (intOf i).toNat)
          case atStart => exact ⟨0, Nat.zero_le _, rfl, HMAT.out, HRO.out⟩
          case round =>
            clear HMAT HRO
            obtain ⟨m, hm, rfl, hmat, hro⟩ := hrel
            by_cases hml : m < n
            · have o1 := hmat.outer f hfl
              have o2 := hmat.outer k hlt
              have x2 := hmat.cell (i := k) (j := m) hlt hml
              rw [midM_between Mk k f m m (by omega)] at x2
              have x3 := hmat.cell (i := f) (j := m) hfl hml
              rw [midM_here Mk k f m m (by omega)] at x3
              have x4 := hmat.cell (i := f) (j := k) hfl hlt
              rw [midM_col] at x4
              have f3 := hmat.froz hfl m
              have HMAT := hide hmat
              have HRO := hide hro
              have j5 : (0 : Int) ≤ (m : Int) := by omega
              have j6 : (m : Int) < (n : Int) := by omega
              have HPH : Hid (phase Mk k f m = (Mk f m || (Mk f k && Mk k m))) := hide rfl
              have HBf := hide (HR.out f hfl)
              have HX : Hid (∀ (W : World) (V : Bool), Mat W g n R (midM Mk k f m) → V = phase Mk k f m → Mat (W.setCell ⟨R f, m, none⟩ (.bool V)) g n R (midM Mk k f (m + 1))) := hide (fun W V hW hV => by
                rw [← midM_put Mk k f m V hV]; exact hW.set hfl m V)
              clear hmat hro
              generalize hv1 : Mk f m = v1 at x3 HPH
              generalize hv2 : Mk f k = v2 at x4 HPH
              generalize hv3 : Mk k m = v3 at x2 HPH
              clear hv1 hv2 hv3
              have hc : v1 = true ∨ (v1 = false ∧ v2 = false) ∨ (v1 = false ∧ v2 = true) := by cases v1 <;> cases v2 <;> simp
              rcases hc with rfl | ⟨rfl, rfl⟩ | ⟨rfl, rfl⟩
              all_goals
                go_wp2_with fail
                go_big_region
                go_wp2
                go_roundw
                case rel =>
                  exact ⟨m + 1, by omega, by go_num, (HX.out _ _ HMAT.out (by rw [HPH.out]; rfl)).drew, (HRO.out.setCell HBf.out _).drew⟩
                case measure => simp [intOf]; omega
            · have HMAT := hide hmat
              have HRO := hide hro
              clear hmat hro
              go_wp2
              go_roundw
              case rel => exact ⟨f + 1, by omega, by go_num, HMAT.out.congr (midM_done Mk n k f m (by omega)), HRO.out⟩
              case measure => simp [intOf]; omega
        · have HMAT := hide hmat
          have HRO := hide hro
          clear hmat hro
          go_wp2
          go_roundw
          case rel => exact ⟨k + 1, by omega, by go_num, by rw [HW.out]; exact HMAT.out.congr (midM_all Mk n k f (by omega)), HRO.out⟩
          case measure => simp [intOf]; omega
    · have ek : k = n := by omega
      subst ek
      have HMAT := hide hmat
      have HRO := hide hro
      clear hmat hro
      go_wp2
      generalize hWM : warsh M k = WM at HMAT ⊢
      have hGB : B ≤ wr.heap.size := Nat.le_trans hB HRO.out.size
      have HGM : Hid (∀ i, i < k → R i ≠ wr.heap.size ∧ g ≠ wr.heap.size) := hide (fun i hi => ⟨by have := World.rowIs.lt (HMAT.out.rows i hi); omega, by have := HMAT.out.lt (by omega); omega⟩)
      obtain ⟨G, hG⟩ : ∃ G, G = wr.heap.size := ⟨_, rfl⟩
      rw [← hG] at HGM hGB ⊢
      have HR0 : Hid ((wr.alloc (.cells (madeCells #[.bool false] k) 4)).rowIs G 4 k (fun _ => .bool false)) := hide (by rw [hG]; exact World.rowIs_made wr (.bool false) k 4)
      have HRW : Hid (Below B w (wr.alloc (.cells (madeCells #[.bool false] k) 4))) := hide (HRO.out.alloc (Nat.le_trans hB HRO.out.size) _)
      have HMW := hide (HMAT.out.alloc (.cells (madeCells #[.bool false] k) 4))
      clear hG
      go_loopw [8] (fun i wx => ∃ m : Nat, m ≤ k ∧ i = .int .i64 m ∧ Mat wx g k R WM ∧ wx.rowIs G 4 k (fun i => if i < m then .bool (WM i i) else .bool false) ∧ Below B w wx) (fun i _ => k - (intOf i).toNat)
      case atStart => exact ⟨0, Nat.zero_le _, rfl, HMW.out, HR0.out.congr (fun i _ => by simp), HRW.out⟩
      case round =>
        clear HMAT HRO HRW HMW HR0
        obtain ⟨m, hm, rfl, hmat, hrow, hbel⟩ := hrel
        by_cases hml : m < k
        · have hag := HA.out (by omega)
          subst hag
          have o1 := hmat.outer m hml
          have x1 := hmat.cell hml hml
          have g1 := hrow.cell hml
          rw [if_neg (by omega)] at g1
          have g2 := hrow.frozen m
          have HMAT := hide hmat
          have HROW := hide hrow
          have j5 : (0 : Int) ≤ (m : Int) := by omega
          have j6 : (m : Int) < (k : Int) := by omega
          clear hmat hrow
          go_wp2
          go_roundw
          case rel =>
            refine ⟨m + 1, by omega, by go_num, HMAT.out.keep (heap_setCell_other wr ⟨G, m, none⟩ g _ (HGM.out m hml).2) (fun i hi => heap_setCell_other wr ⟨G, m, none⟩ (R i) _ (HGM.out i hi).1), ?_, hbel.setCell hGB _⟩
            refine (HROW.out.set m (.bool (WM m m))).congr (fun i hi => ?_)
            by_cases e : i = m
            · subst e; rw [if_pos rfl, if_pos (by omega)]
            · rw [if_neg e]
              by_cases h2 : i < m
              · rw [if_pos h2, if_pos (by omega)]
              · rw [if_neg h2, if_neg (by omega)]
          case measure => simp [intOf]; omega
        · have em : m = k := by omega
          subst em
          have HROW := hide hrow
          clear hmat hrow
          go_wp2
          go_ret
          subst hWM
          refine ⟨G, rfl, hGB, ?_, hbel⟩
          exact HROW.out.congr (fun i hi => by rw [if_pos hi])

end Go.Proofs.Ytmndgoapkmhglaa
