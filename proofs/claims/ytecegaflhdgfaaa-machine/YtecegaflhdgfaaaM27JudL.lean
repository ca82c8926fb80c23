import Derived.Test.YtecegaflhdgfaaaM00Cut
import Derived.Test.YtecegaflhdgfaaaM26JudJ
namespace Go.Proofs.Ytecegaflhdgfaaa
open Go.RowKit
attribute [local go_sem ↓] Go.wp_at_zero Go.wp_at_succ

theorem own_same {w w' : World} {B e size n : Nat} {v : Value} {xs : List Value} (h : w.ownsRow B e size v n xs) (hb : ∀ g, v.ownBlock = some g → w'.heap[g]? = w.heap[g]?) : w'.ownsRow B e size v n xs := by
  refine ⟨h.1, ?_⟩
  rcases h.2 with h0 | ⟨g, cap, cur, hv, h1, h2, h3⟩
  · exact .inl h0
  · exact .inr ⟨g, cap, cur, hv, h1, (hb g (by rw [hv]; rfl)).trans h2, h3⟩

theorem rtAt_cells {w : World} {B g cap : Nat} {l : List Rt} (h : w.ownsRow B 42 3 (.slice (some ⟨g, 0, none⟩) l.length cap) l.length (rtCells l)) {i : Nat} (hi : i < l.length) (r : Rt) (hr : r = l[i]'hi) :
    w.cell? ⟨g, i * 3, none⟩ = some (.int .i64 (r.src : Int)) ∧ w.cell? ⟨g, i * 3 + 1, none⟩ = some (.int .i64 (r.dst : Int)) ∧ w.cell? ⟨g, i * 3 + 2, none⟩ = some (.bool r.late) := by
  have hj : ∀ j, j < 3 → w.cell? ⟨g, i * 3 + j, none⟩ = r.cells[j]? := fun j hj => by
    rw [h.cellAt (i * 3 + j) (by omega), hr]
    exact flat_get Rt.cells 3 rt_len l i j hi hj
  exact ⟨hj 0 (by omega), hj 1 (by omega), hj 2 (by omega)⟩

theorem Mat.fr {w w' : World} {X : Nat → Prop} {g n : Nat} {R : Nat → Nat} {M : Mx} (h : Mat w g n R M) (hf : Fr X w w') (hg : X g) (hr : ∀ i, i < n → X (R i)) : Mat w' g n R M := h.keep (hf.block g hg) (fun i hi => hf.block _ (hr i hi))

set_option maxHeartbeats 2000000 in
set_option maxRecDepth 100000 in
theorem loop_any (w : World) (q : Nat) (ds : List Dc) (ns : List Nd) (vd vn : Value) (h : ProgAt w q ds ns vd vn) (hwf : ProgWf ds ns) (hL : ∀ r ∈ linksF ds ns, r.src < (eqsF ds).length ∧ r.dst < 4) (hll : (linksF ds ns).length ≤ 6100) :
    Calls Try.prog 89 #[.pointer (some ⟨q, 0, none⟩)] w fun e w' => e = .returned (optVal (loopF ds ns)) ∧ Below w.heap.size w w' := by
  have hdl := hwf.dl
  have HP := hide h
  have HWF := hide hwf
  have HL := hide hL
  have hel : (eqsF ds).length ≤ 1501 := Nat.le_trans (List.length_filter_le _ _) hdl
  have HEP : Hid (∀ d ∈ eqsF ds, d.place < 4) := hide (fun d hd => hwf.place d (List.mem_filter.1 hd).1)
  have HLF : Hid (loopF ds ns = firstAt (warsh (waitsM (eqsF ds) (linksF ds ns) noM) 4) (eqsF ds)) := hide rfl
  clear h hwf hL
  go_enter Try.func89, Try.ntmps89
  go_wp2_with fail
  refine (equations_any w q ds ns vd vn HP.out hdl).mono ?_
  rintro e w1 ⟨ve, rfl, he1, hb1⟩
  go_wp2_with fail
  refine (square_any w1 4 (by omega)).mono ?_
  rintro e w2 ⟨rfl, hm2, hb2, hs2⟩
  have hb02 : Below w.heap.size w w2 := hb1.trans (hb2.mono hb1.size)
  go_wp2_with fail
  refine (linksOf_any w2 q ds ns vd vn (HP.out.below hb02) HWF.out).mono ?_
  rintro e w3 ⟨vl, rfl, hl3, hb3⟩
  have hb03 : Below w.heap.size w w3 := hb02.trans (hb3.mono hb02.size)
  have hm3 : Mat w3 w1.heap.size 4 (fun i => w1.heap.size + 1 + i) noM := hm2.keep (hb3.block _ (by omega)) (fun i hi => hb3.block _ (by omega))
  have he3 : w3.ownsRow w.heap.size 114 7 ve (eqsF ds).length (dcCells (eqsF ds)) := own_same he1 (fun g hg => (hb3.block g (by have := (he1.lt g hg).2; have := hb2.size; omega)).trans (hb2.block g (he1.lt g hg).2))
  have hbe : ∀ g, ve.ownBlock = some g → g < w1.heap.size := fun g hg => (he1.lt g hg).2
  have hbl : ∀ g, vl.ownBlock = some g → w2.heap.size ≤ g ∧ g < w3.heap.size := fun g hg => hl3.lt g hg
  have hs3 := hb3.size
  have hw1 := hb1.size
  obtain ⟨ae, ce, rfl, hshe⟩ := own_shape he3
  obtain ⟨al, cl, rfl, hshl⟩ := own_shape hl3
  generalize w1.heap.size = G at *
  generalize w2.heap.size = G2 at *
  have HM3 := hide hm3
  have HE3 := hide he3
  have HL3 := hide hl3
  have HSE := hide hshe
  have HSL := hide hshl
  have HBE := hide hbe
  have HBL := hide hbl
  clear he1 hb1 hm2 hb2 hb02 hl3 hb3 hm3 he3 hshe hshl hbe hbl
  generalize eqsF ds = es at *
  generalize linksF ds ns = ls at *
  go_wp2
  go_loopw [17] (fun i wr => ∃ (k : Nat) (M : Mx), k ≤ ls.length ∧ i = .int .i64 k ∧ Below w.heap.size w wr ∧ Fr (fun j => (j < G ∨ G2 ≤ j) ∧ j < w3.heap.size) w3 wr ∧ Mat wr G 4 (fun i => G + 1 + i) M ∧ waitsM es (ls.drop k) M = waitsM es ls noM) (fun i _ => ls.length - (intOf i).toNat)
  case atStart => exact ⟨0, noM, Nat.zero_le _, rfl, hb03, Fr.refl _ _, HM3.out, rfl⟩
  case round =>
    clear hb03 HM3
    obtain ⟨k, M, hk, rfl, hbel, hfr, hmat, hrec⟩ := hrel
    by_cases hlt : k < ls.length
    · obtain ⟨gl, rfl, _, hgl⟩ := HSL.out (by omega)
      have hol := own_same HL3.out (fun g hg => hfr.block g (by have := HBL.out g hg; omega))
      obtain ⟨r, hr⟩ : ∃ r, r = ls[k]'hlt := ⟨_, rfl⟩
      obtain ⟨x0, x1, x2⟩ := rtAt_cells hol hlt r hr
      rw [drop_at ls k hlt, ← hr] at hrec
      obtain ⟨hr1, hr2⟩ := HL.out r (by rw [hr]; exact List.getElem_mem hlt)
      have j1 : (0 : Int) ≤ (k : Int) := by omega
      have j2 : (k : Int) < (ls.length : Int) := by omega
      simp only [waitsM] at hrec
      have HREC := hide hrec
      have HMAT := hide hmat
      have HFR := hide hfr
      have hsw := hfr.size
      clear hr hrec hmat hol hfr
      by_cases hlate : r.late = true
      · have HF : Hid (waitsM es (ls.drop (k + 1)) M = waitsM es ls noM) := hide (by rw [← HREC.out, if_pos hlate])
        go_wp2
        go_roundw
        case rel => exact ⟨k + 1, M, by omega, by go_num, hbel.alloc hbel.size _, HFR.out.trans (Fr.of_below ((Below.refl _ _).alloc (Nat.le_refl _) _) (fun j hj => by omega)), HMAT.out.alloc _, HF.out⟩
        case measure => simp [intOf]; omega
      · have hlate' : r.late = false := by simpa using hlate
        obtain ⟨ge, rfl, _, hge⟩ := HSE.out (by omega)
        obtain ⟨d, hd⟩ : ∃ d, d = es[r.src]'hr1 := ⟨_, rfl⟩
        have hoe := own_zero (own_same HE3.out (fun g hg => HFR.out.block g (by have := HBE.out g hg; omega)))
        have y4 := dcAt_cells hoe hr1 4 (by omega)
        rw [← hd] at y4
        simp [Dc.cells] at y4
        have hdp : d.place < 4 := HEP.out d (by rw [hd]; exact List.getElem_mem hr1)
        have HF : Hid (waitsM es (ls.drop (k + 1)) (upd M r.dst d.place true) = waitsM es ls noM) := hide (by rw [← HREC.out, if_neg hlate]; simp [hr1, hd])
        have lge : ge < wr.heap.size := by omega
        have y4' : ∀ o, (wr.alloc o).cell? ⟨ge, r.src * 7 + 4, none⟩ = some (.int .i64 (d.place : Int)) := fun o => (World.cell?_alloc_past _ _ _ lge).trans y4
        have o1 : ∀ o, (wr.alloc o).cell? ⟨G, r.dst, none⟩ = some (.slice (some ⟨G + 1 + r.dst, 0, none⟩) 4 4) := fun o => (HMAT.out.alloc o).outer _ hr2
        have o2 : ∀ o, (wr.alloc o).cell? ⟨G + 1 + r.dst, d.place, none⟩ = some (.bool (M r.dst d.place)) := fun o => (HMAT.out.alloc o).cell hr2 hdp
        have o3 : ∀ o, (wr.alloc o).frozen? ⟨G + 1 + r.dst, d.place, none⟩ = false := fun o => (HMAT.out.alloc o).froz hr2 _
        have i1 : (0 : Int) ≤ (r.src : Int) := by omega
        have i2 : (r.src : Int) < (es.length : Int) := by omega
        have i3 : (0 : Int) ≤ (r.dst : Int) := by omega
        have i4 : (r.dst : Int) < 4 := by omega
        have i5 : (0 : Int) ≤ (d.place : Int) := by omega
        have i6 : (d.place : Int) < 4 := by omega
        clear hlate hoe y4 hd
        go_wp2
        go_roundw
        case rel =>
          refine ⟨k + 1, upd M r.dst d.place true, by omega, by go_num, ?_, ?_, ?_, HF.out⟩
          · first | exact (hbel.alloc hbel.size _).setCell (by show w.heap.size ≤ G + 1 + r.dst; omega) _ | exact (hbel.setCell (by show w.heap.size ≤ G + 1 + r.dst; omega) _).alloc (by simp; exact hbel.size) _
          · have hf1 := HFR.out.trans (Fr.of_below (X := fun j => (j < G ∨ G2 ≤ j) ∧ j < w3.heap.size) ((Below.refl _ wr).alloc (Nat.le_refl _) (.cells #[.int .i64 (r.src : Int), .int .i64 (r.dst : Int), .bool false] 42)) (fun j hj => by omega))
            have hf2 := HFR.out.setCell (n := G + 1 + r.dst) (i := d.place) (by omega) (.bool true)
            first | exact hf1.setCell (by omega) _ | exact hf2.trans (Fr.of_below ((Below.refl _ _).alloc (Nat.le_refl _) _) (fun j hj => by simp; omega))
          · first | exact (HMAT.out.alloc _).set hr2 _ _ | exact (HMAT.out.set hr2 _ _).alloc _
        case measure => simp [intOf]; omega
    · have HF : Hid (waitsM es ls noM = M) := hide (by rw [← hrec, List.drop_of_length_le (by omega)]; rfl)
      have HMAT := hide hmat
      have HFR := hide hfr
      clear hrec hmat hfr
      go_wp2_with fail
      refine (follow_any wr G 4 4 _ M HMAT.out (by omega)).mono ?_
      rintro e w4 ⟨rfl, hm4, hro4⟩
      have hb4 : Below w.heap.size w w4 := hbel.trans (hro4.below (fun i _ => by omega))
      have hoe4 : w4.ownsRow 0 114 7 (.slice ae es.length ce) es.length (dcCells es) := own_zero (own_same HE3.out (fun g hg => (hro4.block g (fun i _ => by have := HBE.out g hg; omega)).trans (HFR.out.block g (by have := HBE.out g hg; omega))))
      have HC : Hid (loopF ds ns = firstAt (warsh M 4) es) := hide (by rw [HLF.out, HF.out])
      have HM4 := hide hm4
      have HO4 := hide hoe4
      have hlt4 : G < w4.heap.size := hm4.lt (by omega)
      have hge4 : ∀ ge, ae = some ⟨ge, 0, none⟩ → ge < w4.heap.size := fun ge h => by
        have h1 : (Value.slice ae es.length ce).ownBlock = some ge := by rw [h]; rfl
        have := (hoe4.lt ge h1).2
        exact this
      have HGE := hide hge4
      clear hm4 hro4 hbel HMAT HFR hoe4 hge4
      generalize warsh M 4 = MW at *
      go_wp2
      go_loopw [42] (fun i wx => ∃ j : Nat, j ≤ es.length ∧ i = .int .i64 j ∧ Below w.heap.size w wx ∧ Below w4.heap.size w4 wx ∧ firstAt MW (es.drop j) = firstAt MW es) (fun i _ => es.length - (intOf i).toNat)
      case atStart => exact ⟨0, Nat.zero_le _, rfl, hb4, Below.refl _ _, rfl⟩
      case round =>
        clear hb4 hlt hk
        obtain ⟨k, hk, rfl, hbx, hbx4, hrb⟩ := hrel
        by_cases hlt : k < es.length
        · obtain ⟨ge, rfl, _, _⟩ := HSE.out (by omega)
          rw [drop_at es k hlt] at hrb
          obtain ⟨a, ha⟩ : ∃ a, a = es[k]'hlt := ⟨_, rfl⟩
          rw [← ha] at hrb
          obtain ⟨x0, x1, x2, x3, x4, x5, x6⟩ := dc_later HO4.out hbx4 (HGE.out ge rfl) hlt a ha
          have hap : a.place < 4 := HEP.out a (by rw [ha]; exact List.getElem_mem hlt)
          have hmx : Mat wr G 4 (fun i => G + 1 + i) MW := HM4.out.keep (hbx4.block _ hlt4) (fun i hi => hbx4.block _ ((HM4.out.rows i hi).lt))
          have j1 : (0 : Int) ≤ (k : Int) := by omega
          have j2 : (k : Int) < (es.length : Int) := by omega
          have j3 : (0 : Int) ≤ (a.place : Int) := by omega
          have j4 : (a.place : Int) < 4 := by omega
          simp only [firstAt] at hrb
          have o1 : ∀ o, (wr.alloc o).cell? ⟨G, a.place, none⟩ = some (.slice (some ⟨G + 1 + a.place, 0, none⟩) 4 4) := fun o => (hmx.alloc o).outer _ hap
          have o2 : ∀ o, (wr.alloc o).cell? ⟨G + 1 + a.place, a.place, none⟩ = some (.bool (MW a.place a.place)) := fun o => (hmx.alloc o).cell hap hap
          have HRB := hide hrb
          have hb4s := hbx4.size
          clear ha hrb hmx
          by_cases hs : MW a.place a.place = true
          · have HF2 : Hid (loopF ds ns = some a.pos) := hide (by rw [HC.out, ← HRB.out, if_pos hs])
            go_wp2_with fail
            go_quiet (fail)
            go_wp2
            go_ret2
            exact ⟨opt_some HF2.out, below_drewN (hbx.alloc hbx.size _) _⟩
          · have hs' : MW a.place a.place = false := by simpa using hs
            have HF2 : Hid (firstAt MW (es.drop (k + 1)) = firstAt MW es) := hide (by rw [← HRB.out, if_neg hs])
            clear hs
            go_wp2_with fail
            go_quiet (fail)
            go_wp2
            go_roundw
            case rel => exact ⟨k + 1, by omega, by go_num, below_drewN (hbx.alloc hbx.size _) _, below_drewN (hbx4.alloc hb4s _) _, HF2.out⟩
            case measure => simp [intOf]; omega
        · have HF2 : Hid (loopF ds ns = none) := hide (by rw [HC.out, ← hrb, List.drop_of_length_le (by omega)]; rfl)
          clear hrb
          go_wp2
          go_ret2
          exact ⟨opt_none HF2.out, hbx⟩

end Go.Proofs.Ytecegaflhdgfaaa

namespace Go.Proofs.Ytecegaflhdgfaaa
open Go.RowKit
attribute [local go_sem ↓] Go.wp_at_zero Go.wp_at_succ

set_option maxHeartbeats 1000000 in
set_option maxRecDepth 100000 in
theorem meaning_any (w : World) (q : Nat) (ds : List Dc) (ns : List Nd) (vd vn : Value) (h : ProgAt w q ds ns vd vn) (hg : Good ds ns) :
    Calls Try.prog 57 #[.pointer (some ⟨q, 0, none⟩)] w fun e w' => e = .returned (.tuple #[.int .i64 ((meaningF ds ns).1 : Int), .int .i64 ((meaningF ds ns).2 : Int)]) ∧ Below w.heap.size w w' := by
  have HP := hide h
  have HG := hide hg
  clear h hg
  go_enter Try.func57, Try.ntmps57
  go_wp2_with fail
  refine (tooMany_any w q ds ns vd vn HP.out HG.out.wf.dl).mono ?_
  rintro e w1 ⟨rfl, hb1⟩
  cases h1 : tooManyF ds with
  | some a =>
    have HF : Hid (meaningF ds ns = (3, a)) := hide (by unfold meaningF; rw [h1])
    simp only [optVal, Option.getD_some, Option.isSome_some]
    clear h1
    go_wp2_with fail
    go_ret2
    exact ⟨by rw [HF.out]; rfl, hb1⟩
  | none =>
    simp only [optVal, Option.getD_none, Option.isSome_none]
    have H1 := hide h1
    clear h1
    go_wp2_with fail
    refine (badName_any w1 q ds ns vd vn (HP.out.below hb1) HG.out.wf).mono ?_
    rintro e w2 ⟨rfl, hb2⟩
    have hb02 : Below w.heap.size w w2 := hb1.trans (hb2.mono hb1.size)
    clear hb1 hb2
    cases h2 : badNameF ds ns 0 ds with
    | some a =>
      have HF : Hid (meaningF ds ns = (4, a)) := hide (by unfold meaningF; rw [H1.out]; simp only; rw [h2])
      simp only [optVal, Option.getD_some, Option.isSome_some]
      clear h2
      go_wp2_with fail
      go_ret2
      exact ⟨by rw [HF.out]; rfl, hb02⟩
    | none =>
      simp only [optVal, Option.getD_none, Option.isSome_none]
      have H2 := hide h2
      have HB := hide (HG.out.names h2)
      clear h2
      go_wp2_with fail
      refine (badType_any w2 q ds ns vd vn (HP.out.below hb02) HG.out.wf HB.out).mono ?_
      rintro e w3 ⟨rfl, hb3⟩
      have hb03 : Below w.heap.size w w3 := hb02.trans (hb3.mono hb02.size)
      clear hb02 hb3
      cases h3 : badTypeF ds 0 ns (roots ds (List.replicate ns.length false)) with
      | some a =>
        have HF : Hid (meaningF ds ns = (5, a)) := hide (by unfold meaningF; rw [H1.out]; simp only; rw [H2.out]; simp only; rw [h3])
        simp only [optVal, Option.getD_some, Option.isSome_some]
        clear h3
        go_wp2_with fail
        go_ret2
        exact ⟨by rw [HF.out]; rfl, hb03⟩
      | none =>
        simp only [optVal, Option.getD_none, Option.isSome_none]
        have H3 := hide h3
        clear h3
        go_wp2_with fail
        refine (cycle_any w3 q ds ns vd vn (HP.out.below hb03) HG.out.wf HB.out).mono ?_
        rintro e w4 ⟨rfl, hb4⟩
        have hb04 : Below w.heap.size w w4 := hb03.trans (hb4.mono hb03.size)
        clear hb03 hb4
        cases h4 : cycleF ds ns with
        | some a =>
          have HF : Hid (meaningF ds ns = (6, a)) := hide (by unfold meaningF; rw [H1.out]; simp only; rw [H2.out]; simp only; rw [H3.out]; simp only; rw [h4])
          simp only [optVal, Option.getD_some, Option.isSome_some]
          clear h4
          go_wp2_with fail
          go_ret2
          exact ⟨by rw [HF.out]; rfl, hb04⟩
        | none =>
          simp only [optVal, Option.getD_none, Option.isSome_none]
          have H4 := hide h4
          clear h4
          go_wp2_with fail
          refine (loop_any w4 q ds ns vd vn (HP.out.below hb04) HG.out.wf HG.out.links HG.out.many).mono ?_
          rintro e w5 ⟨rfl, hb5⟩
          have hb05 : Below w.heap.size w w5 := hb04.trans (hb5.mono hb04.size)
          clear hb04 hb5
          cases h5 : loopF ds ns with
          | some a =>
            have HF : Hid (meaningF ds ns = (7, a)) := hide (by unfold meaningF; rw [H1.out]; simp only; rw [H2.out]; simp only; rw [H3.out]; simp only; rw [H4.out]; simp only; rw [h5])
            simp only [optVal, Option.getD_some, Option.isSome_some]
            clear h5
            go_wp2_with fail
            go_ret2
            exact ⟨by rw [HF.out]; rfl, hb05⟩
          | none =>
            have HF : Hid (meaningF ds ns = (0, 0)) := hide (by unfold meaningF; rw [H1.out]; simp only; rw [H2.out]; simp only; rw [H3.out]; simp only; rw [H4.out]; simp only; rw [h5])
            simp only [optVal, Option.getD_none, Option.isSome_none]
            clear h5
            go_wp2_with fail
            go_ret2
            exact ⟨by rw [HF.out]; rfl, hb05⟩

end Go.Proofs.Ytecegaflhdgfaaa
