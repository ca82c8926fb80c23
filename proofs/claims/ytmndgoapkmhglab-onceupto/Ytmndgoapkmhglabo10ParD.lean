import Derived.Test.Ytmndgoapkmhglabo02BoxC
import Derived.Test.Ytmndgoapkmhglabo09ParC
namespace Go.Proofs.Ytmndgoapkmhglab
open Go.RowKit
attribute [local go_sem ↓] Go.wp_at_zero Go.wp_at_succ
attribute [local go_sem] Try.fieldTok0 Try.fieldTok1 Try.fieldTok2
set_option maxHeartbeats 1000000 in
set_option maxRecDepth 100000 in
theorem leaf_any (w : World) (X : Nat → Prop) (b : Nat) (ts : List Tk) (p : PS) (n : Nd) (h : Par w X b ts p) (hn : p.next < ts.length) (hl : ts.length ≤ 1501) (hnl : p.nodes.length ≤ 1501) :
    Calls Try.prog 137 #[.pointer (some ⟨b, 0, none⟩), n.val] w fun e w' =>
      e = .returned (.int .i64 (p.nodes.length : Int)) ∧ Par w' X b ts (leafF ts p n).2 ∧ Fr X w w' := by
  have hX := h.xlt
  have HL : Hid ((leafF ts p n).2 = (p.add ts n).adv ts) := hide rfl
  go_enter Try.func137, Try.ntmps137
  go_wp2_with fail
  refine (add_any _ X b ts p n (h.below ((Below.refl _ _).alloc (Nat.le_refl _) _)) hn hl hnl).mono ?_
  rintro e w1 ⟨rfl, hp1, hb1⟩
  go_wp2_with fail
  refine (step_any _ X b ts (p.add ts n) hp1 hn hl).mono ?_
  rintro e w2 ⟨rfl, hp2, hb2⟩
  go_wp2_with fail
  go_ret
  exact ⟨rfl, by rw [HL.out]; exact hp2, (((Fr.of_below ((Below.refl _ _).alloc (Nat.le_refl _) _) hX).trans hb1).trans hb2)⟩
def ResN (w' : World) (X : Nat → Prop) (b : Nat) (ts : List Tk) (dl : Nat) (e : Ending) : Except Nat (Nat × PS) → Prop
  | .ok (r, p') => e = .returned (.tuple #[.int .i64 (r : Int), .bool true]) ∧ Par w' X b ts p'
  | .error k => ∃ (v : Nat) (p' : PS), e = .returned (.tuple #[.int .i64 (v : Int), .bool false]) ∧ Par w' X b ts p' ∧ p'.next = k ∧ k < ts.length ∧ p'.delays = dl
set_option maxHeartbeats 1000000 in
set_option maxRecDepth 100000 in
theorem place_any (w : World) (X : Nat → Prop) (b : Nat) (ts : List Tk) (p : PS) (h : Par w X b ts p) (hn : p.next < ts.length) (hl : ts.length ≤ 1501) (hd : TsDig ts) :
    Calls Try.prog 130 #[.pointer (some ⟨b, 0, none⟩)] w fun e w' => ResN w' X b ts p.delays e (placeF ts p) ∧ Fr X w w' := by
  have hX := h.xlt
  have hdt : DigTok (p.hd ts) := hd _ hn
  by_cases hk : (p.hd ts).kind = 3
  · obtain ⟨hd1, hd2⟩ := hdt hk
    have q1 : (((p.hd ts).kind : Int) != 3) = false := by rw [hk]; rfl
    by_cases hv : valOf (p.hd ts).l < 4
    · have HF : Hid (placeF ts p = .ok (valOf (p.hd ts).l, p.adv ts)) := hide (by unfold placeF; rw [if_pos ⟨hk, hv⟩])
      have q2 : ¬ (4 : Int) ≤ (valOf (p.hd ts).text.data.toList : Nat) := by have : (p.hd ts).l = (p.hd ts).text.data.toList := rfl; rw [this] at hv; omega
      clear hk hv hdt
      go_enter Try.func130, Try.ntmps130
      go_wp2_with fail
      refine (here_any _ X b ts p h hn hl).mono ?_
      rintro e w1 ⟨rfl, hb1⟩
      go_wp2_with fail
      refine (valueOf_any _ _ hd1 hd2).mono ?_
      rintro e w2 ⟨rfl, rfl⟩
      go_wp2_with fail
      refine (step_any _ X b ts p ((h.below hb1).below ((Below.refl _ _).alloc (Nat.le_refl _) _)) hn hl).mono ?_
      rintro e w2 ⟨rfl, hp2, hb2⟩
      go_wp2_with fail
      go_ret2
      exact ⟨by rw [HF.out]; exact ⟨rfl, hp2⟩, (Fr.of_below (hb1.alloc hb1.size _) hX).trans hb2⟩
    · have HF : Hid (placeF ts p = .error p.next) := hide (by unfold placeF; rw [if_neg (fun h => hv h.2)])
      have q2 : (4 : Int) ≤ (valOf (p.hd ts).text.data.toList : Nat) := by have : (p.hd ts).l = (p.hd ts).text.data.toList := rfl; rw [this] at hv; omega
      clear hk hv hdt
      go_enter Try.func130, Try.ntmps130
      go_wp2_with fail
      refine (here_any _ X b ts p h hn hl).mono ?_
      rintro e w1 ⟨rfl, hb1⟩
      go_wp2_with fail
      refine (valueOf_any _ _ hd1 hd2).mono ?_
      rintro e w2 ⟨rfl, rfl⟩
      go_wp2_with fail
      go_ret2
      exact ⟨by rw [HF.out]; exact ⟨0, p, rfl, (h.below hb1).below ((Below.refl _ _).alloc (Nat.le_refl _) _), rfl, hn, rfl⟩, Fr.of_below (hb1.alloc hb1.size _) hX⟩
  · have q1 : (((p.hd ts).kind : Int) != 3) = true := by rw [bne_iff_ne]; omega
    have HF : Hid (placeF ts p = .error p.next) := hide (by unfold placeF; rw [if_neg (fun h => hk h.1)])
    clear hk hdt
    go_enter Try.func130, Try.ntmps130
    go_wp2_with fail
    refine (here_any _ X b ts p h hn hl).mono ?_
    rintro e w1 ⟨rfl, hb1⟩
    go_wp2_with fail
    go_ret2
    exact ⟨by rw [HF.out]; exact ⟨0, p, rfl, (h.below hb1).below ((Below.refl _ _).alloc (Nat.le_refl _) _), rfl, hn, rfl⟩, Fr.of_below (hb1.alloc hb1.size _) hX⟩
theorem dcAt_cells {w : World} {B g cap : Nat} {l : List Dc} (h : w.ownsRow B 126 7 (.slice (some ⟨g, 0, none⟩) l.length cap) l.length (dcCells l)) {i : Nat} (hi : i < l.length) :
    ∀ j, j < 7 → w.cell? ⟨g, i * 7 + j, none⟩ = (l[i]'hi).cells[j]? := fun j hj => by
  rw [h.cellAt (i * 7 + j) (by omega)]
  exact flat_get Dc.cells 7 dc_len l i j hi hj
theorem ndAt_cells {w : World} {B g cap : Nat} {l : List Nd} (h : w.ownsRow B 171 11 (.slice (some ⟨g, 0, none⟩) l.length cap) l.length (ndCells l)) {i : Nat} (hi : i < l.length) :
    ∀ j, j < 11 → w.cell? ⟨g, i * 11 + j, none⟩ = (l[i]'hi).cells[j]? := fun j hj => by
  rw [h.cellAt (i * 11 + j) (by omega)]
  exact flat_get Nd.cells 11 nd_len l i j hi hj
theorem sameSort_snoc (d a : Dc) (l : List Dc) : sameSort d (l ++ [a]) = sameSort d l + if (a.kind == 0) == (d.kind == 0) then 1 else 0 := by
  unfold sameSort
  rw [List.filter_append]
  by_cases h : ((a.kind == 0) == (d.kind == 0)) = true
  · simp [h]
  · have h' : ((a.kind == 0) == (d.kind == 0)) = false := by simpa using h
    simp [h']
theorem sameSort_le (d : Dc) (l : List Dc) : sameSort d l ≤ l.length := List.length_filter_le _ _
theorem sort_same {a d : Nat} (h : ((a == 0) == (d == 0)) = true) : (((a : Int) == 0) = true ∧ ((d : Int) == 0) = true) ∨ (((a : Int) == 0) = false ∧ ((d : Int) == 0) = false) := by
  by_cases ha : a = 0
  · by_cases hd : d = 0
    · subst ha; subst hd; exact .inl ⟨rfl, rfl⟩
    · simp [ha, hd] at h
  · by_cases hd : d = 0
    · simp [ha, hd] at h
    · exact .inr ⟨by rw [beq_eq_false_iff_ne]; omega, by rw [beq_eq_false_iff_ne]; omega⟩
theorem sort_differs {a d : Nat} (h : ¬ ((a == 0) == (d == 0)) = true) : (((a : Int) == 0) = true ∧ ((d : Int) == 0) = false) ∨ (((a : Int) == 0) = false ∧ ((d : Int) == 0) = true) := by
  by_cases ha : a = 0
  · by_cases hd : d = 0
    · exact absurd (by simp [ha, hd]) h
    · subst ha; exact .inl ⟨rfl, by rw [beq_eq_false_iff_ne]; omega⟩
  · by_cases hd : d = 0
    · subst hd; exact .inr ⟨by rw [beq_eq_false_iff_ne]; omega, rfl⟩
    · have e1 : (a == 0) = false := by simpa using ha
      have e2 : (d == 0) = false := by simpa using hd
      exact absurd (by rw [e1, e2]; rfl) h
theorem declRow (w : World) (N : Nat) (a0 a1 a2 a3 a4 a5 a6 v1 : Value) (t : TypeId) (o : Obj) (h : w.heap[N]? = some (.cells #[a0, a1, a2, a3, a4, a5, a6] t)) :
    ((w.setCell ⟨N, 1, none⟩ v1).alloc o).heap[N]? = some (.cells #[a0, v1, a2, a3, a4, a5, a6] t) := by
  have h1 := heap_setCell_same w N 1 _ _ v1 h
  have hlt : N < (w.setCell ⟨N, 1, none⟩ v1).heap.size := by
    rcases Nat.lt_or_ge N (w.setCell ⟨N, 1, none⟩ v1).heap.size with hl | hg
    · exact hl
    · rw [Array.getElem?_eq_none hg] at h1; cases h1
  rw [Below.heap_alloc _ _ _ hlt, h1]; simp
set_option maxHeartbeats 4000000 in
set_option maxRecDepth 100000 in
theorem declare_any (w : World) (X : Nat → Prop) (b : Nat) (ts : List Tk) (p : PS) (d : Dc) (h : Par w X b ts p) (hdl : p.decls.length ≤ 1501) (hd0 : d.number = 0) :
    Calls Try.prog 128 #[.pointer (some ⟨b, 0, none⟩), d.val] w fun e w' =>
      e = .returned (.tuple #[]) ∧ Par w' X b ts (p.declare d) ∧ Fr X w w' := by
  have HXL := hide h.xlt
  obtain ⟨i0, hi0, hz0, hz1, hz2⟩ := info_parts Try.infoDecl
  obtain ⟨vt, vd, vn, hp⟩ := h
  have hbN : b < w.heap.size := hp.lt
  have hpa : ∀ o, ParV (w.alloc o) X b ts p vt vd vn := fun o => hp.below ((Below.refl _ _).alloc (Nat.le_refl _) _)
  have c4 : ∀ o, (w.alloc o).cell? ⟨b, 4, none⟩ = some vd := fun o => (hpa o).cell.2.2.2.2.1
  have on : vn.ownBlock ≠ some w.heap.size := fun hk => by have := (hp.nodes.lt _ hk).2; omega
  have od : vd.ownBlock ≠ some w.heap.size := fun hk => by have := (hp.decls.lt _ hk).2; omega
  have ot : vt.ownBlock ≠ some w.heap.size := fun hk => by have := (hp.toks.lt _ hk).2; omega
  obtain ⟨dk, dn, dnm, dp, dpl, dr, df⟩ := d
  simp only at hd0
  subst hd0
  obtain ⟨av, cap, rfl, hsh⟩ := own_shape hp.decls
  have HSH := hide hsh
  have HPA := hide hpa
  clear hpa hp hsh
  go_enter Try.func128, Try.ntmps128
  go_wp2
  go_loopw [12] (fun i wr => ∃ k : Nat, k ≤ p.decls.length ∧ i = .int .i64 k ∧
      wr.heap[w.heap.size]? = some (.cells #[.int .i64 (dk : Int), .int .i64 ((sameSort ⟨dk, 0, dnm, dp, dpl, dr, df⟩ (p.decls.take k) : Nat) : Int), .string dnm, .int .i64 (dp : Int), .int .i64 (dpl : Int), .int .i64 (dr : Int), .int .i64 (df : Int)] 126) ∧
      ParV wr X b ts p vt (.slice av p.decls.length cap) vn ∧ Below w.heap.size w wr ∧ w.heap.size < wr.heap.size) (fun i _ => p.decls.length - (intOf i).toNat)
  case atStart => exact ⟨0, Nat.zero_le _, rfl, heap_alloc_new w _, HPA.out _, (Below.refl _ _).alloc (Nat.le_refl _) _, by simp⟩
  case round =>
    obtain ⟨k, hk, rfl, hblk, hpr, hbel, hNr⟩ := hrel
    clear c4
    have e0 := cell_of_row wr w.heap.size 0 _ _ _ hblk
    have e1 := cell_of_row wr w.heap.size 1 _ _ _ hblk
    have f1 := frozen_of_row wr w.heap.size 1 _ _ hblk
    simp at e0 e1
    by_cases hlt : k < p.decls.length
    · obtain ⟨g, rfl, hg1, hg2⟩ := HSH.out (by omega)
      have hcs := dcAt_cells hpr.decls hlt
      have ss := sameSort_snoc ⟨dk, 0, dnm, dp, dpl, dr, df⟩ (p.decls[k]'hlt) (p.decls.take k)
      rw [← List.take_succ_eq_append_getElem hlt] at ss
      have sl := sameSort_le ⟨dk, 0, dnm, dp, dpl, dr, df⟩ (p.decls.take k)
      have sl2 : (p.decls.take k).length ≤ k := List.length_take_le _ _
      obtain ⟨a, ha⟩ : ∃ a, a = p.decls[k]'hlt := ⟨_, rfl⟩
      rw [← ha] at hcs ss
      have SS := hide ss
      have x0 := hcs 0 (by omega)
      have x1 := hcs 1 (by omega)
      have x2 := hcs 2 (by omega)
      have x3 := hcs 3 (by omega)
      have x4 := hcs 4 (by omega)
      have x5 := hcs 5 (by omega)
      have x6 := hcs 6 (by omega)
      simp [Dc.cells] at x0 x1 x2 x3 x4 x5 x6
      generalize hq : sameSort ⟨dk, 0, dnm, dp, dpl, dr, df⟩ (p.decls.take k) = q at *
      have j1 : (0 : Int) ≤ (k : Int) := by omega
      have j2 : (k : Int) < (p.decls.length : Int) := by omega
      have HBLK := hide hblk
      have HPR := hide hpr
      clear hcs ss ha hq hblk hpr
      by_cases hs : ((a.kind == 0) == (dk == 0)) = true
      · have hqq : (((a.kind : Int) == 0) = true ∧ ((dk : Int) == 0) = true) ∨ (((a.kind : Int) == 0) = false ∧ ((dk : Int) == 0) = false) := by
          exact sort_same hs
        have HS := hide hs
        clear hs
        rcases hqq with ⟨q1, q2⟩ | ⟨q1, q2⟩
        all_goals
          go_wp2
          go_roundw
          case rel =>
            refine ⟨k + 1, by omega, by go_num, ?_, ?_, ?_, ?_⟩
            · rw [SS.out, if_pos HS.out]
              exact declRow wr w.heap.size _ _ _ _ _ _ _ _ _ _ HBLK.out
            · exact (HPR.out.other (by omega) ot od on).below ((Below.refl _ _).alloc (Nat.le_refl _) _)
            · exact (hbel.setCell (Nat.le_refl _) _).alloc (by simp; omega) _
            · simp; omega
          case measure => simp [intOf]; omega
      · have hqq : (((a.kind : Int) == 0) = true ∧ ((dk : Int) == 0) = false) ∨ (((a.kind : Int) == 0) = false ∧ ((dk : Int) == 0) = true) := by
          exact sort_differs hs
        have HS := hide hs
        clear hs
        rcases hqq with ⟨q1, q2⟩ | ⟨q1, q2⟩
        all_goals
          go_wp2
          go_roundw
          case rel =>
            refine ⟨k + 1, by omega, by go_num, ?_, ?_, ?_, ?_⟩
            · rw [SS.out, if_neg HS.out]
              rw [Below.heap_alloc _ _ _ (by omega)]
              exact HBLK.out
            · exact HPR.out.below ((Below.refl _ _).alloc (Nat.le_refl _) _)
            · exact hbel.alloc (by omega) _
            · simp; omega
          case measure => simp [intOf]; omega
    · have ek : k = p.decls.length := by omega
      subst ek
      rw [List.take_length] at hblk e1
      have sl := sameSort_le ⟨dk, 0, dnm, dp, dpl, dr, df⟩ p.decls
      have HA : Hid (p.declare ⟨dk, 0, dnm, dp, dpl, dr, df⟩ = { p with decls := p.decls ++ [⟨dk, sameSort ⟨dk, 0, dnm, dp, dpl, dr, df⟩ p.decls, dnm, dp, dpl, dr, df⟩] }) := hide (by simp [PS.declare])
      generalize sameSort ⟨dk, 0, dnm, dp, dpl, dr, df⟩ p.decls = q at *
      have e2 := cell_of_row wr w.heap.size 2 _ _ _ hblk
      have e3 := cell_of_row wr w.heap.size 3 _ _ _ hblk
      have e4 := cell_of_row wr w.heap.size 4 _ _ _ hblk
      have e5 := cell_of_row wr w.heap.size 5 _ _ _ hblk
      have e6 := cell_of_row wr w.heap.size 6 _ _ _ hblk
      simp at e2 e3 e4 e5 e6
      have c4 := hpr.cell.2.2.2.2.1
      have f4 := hpr.froz 4
      have ca : ∀ o, (wr.alloc o).cell? ⟨b, 4, none⟩ = some (.slice av p.decls.length cap) := fun o => by rw [World.cell?_alloc_past _ _ _ hpr.lt]; exact c4
      have fa : ∀ o, (wr.alloc o).frozen? ⟨b, 4, none⟩ = false := fun o => by rw [World.frozen?_alloc_past _ _ _ hpr.lt]; exact f4
      have nbv := hpr.db
      have hown := hpr.decls
      have lb := hpr.lt
      have HPR := hide hpr
      clear hpr hblk
      go_wp2_with fail
      go_region_law ((refine step_append_lies _ (by rfl) _ _ _ (by rfl) 0 126 i0 _ 7 64 Try.underlying67 hi0 hz0 hz1 hz2 rfl (by omega) (.slice av p.decls.length cap) p.decls.length (dcCells p.decls) (by rfl) ((hown.alloc _).drew) ⟨wr.heap.size, 0, none⟩ 1 1 [.int .i64 (dk : Int), .int .i64 (q : Int), .string dnm, .int .i64 (dp : Int), .int .i64 (dpl : Int), .int .i64 (dr : Int), .int .i64 (df : Int)] (by rfl) (by rfl) (World.news_of_block (cs := #[.int .i64 (dk : Int), .int .i64 (q : Int), .string dnm, .int .i64 (dp : Int), .int .i64 (dpl : Int), .int .i64 (dr : Int), .int .i64 (df : Int)]) (t := 126) (fr := (0, 0)) (heap_alloc_new wr _)) (by simp [Value.oneCell']) (by omega) (by unfold maxLen; omega) (by omega) (by simp) (wr.heap.size + 1) (by simp) ?_; intro gg cap2 w3 hown3 hgrow hat hlt3; have k4 := (hgrow.cell_far ⟨b, 4, none⟩ (by simp; omega) (Ne.symm nbv)).trans (ca _); have g4 := (hgrow.frozen_far ⟨b, 4, none⟩ (by simp; omega) (Ne.symm nbv)).trans (fa _)))
      all_goals
        have hPa : ParV (wr.alloc (.cells #[.int .i64 (dk : Int), .int .i64 (q : Int), .string dnm, .int .i64 (dp : Int), .int .i64 (dpl : Int), .int .i64 (dr : Int), .int .i64 (df : Int)] 126)).drew X b ts p vt (.slice av p.decls.length cap) vn := HPR.out.below (((Below.refl _ _).alloc (Nat.le_refl _) _).drew)
        have hfin := hPa.newDecls (g := gg) (cap := cap2) (len := p.decls.length + 1) (l := p.decls ++ [⟨dk, q, dnm, dp, dpl, dr, df⟩]) hgrow (by rw [dcCells_snoc]; exact hown3) (by simp) (hat_le hat (by simp))
        have HFIN := hide hfin
        have HBEL : Hid (Fr X w (wr.alloc (.cells #[.int .i64 (dk : Int), .int .i64 (q : Int), .string dnm, .int .i64 (dp : Int), .int .i64 (dpl : Int), .int .i64 (dr : Int), .int .i64 (df : Int)] 126)).drew) := hide (Fr.of_below ((hbel.alloc (by omega) _).drew) HXL.out)
        clear hown3 hgrow hat hPa hfin hown HPR c4 f4
        go_wp2
        go_end0
        exact ⟨rfl, by rw [HA.out]; exact ⟨_, _, _, HFIN.out.1⟩, HBEL.out.trans HFIN.out.2⟩
end Go.Proofs.Ytmndgoapkmhglab
