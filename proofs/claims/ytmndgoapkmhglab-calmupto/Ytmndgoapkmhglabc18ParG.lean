import Derived.Test.Ytmndgoapkmhglabc04ParC
import Derived.Test.Ytmndgoapkmhglabc05Bytes
namespace Go.Proofs.Ytmndgoapkmhglab
open Go.RowKit
attribute [local go_sem ↓] Go.wp_at_zero Go.wp_at_succ
attribute [local go_sem] Try.fieldTok0 Try.fieldTok1 Try.fieldTok2
set_option maxHeartbeats 1000000 in
set_option maxRecDepth 100000 in
theorem leaf_any (w : World) (X : Nat → Prop) (b : Nat) (ts : List Tk) (p : PS) (n : Nd) (h : Par w X b ts p) (hn : p.next < ts.length) (hl : ts.length ≤ 1501) (hnl : p.nodes.length ≤ 1501) :
    Calls Try.prog 137 #[.pointer (some ⟨b, 0, none⟩), n.val] w fun e w' =>
      e = .returned (.int .i64 (p.nodes.length : Int)) ∧ Par w' X b ts (leafF ts p n).2 ∧ Fr X w w' := by
  have hX := h.xlt
  have HL : Hid ((leafF ts p n).2 = (p.add ts n).adv ts) := hide rfl
  go_enter Try.func137, Try.ntmps137
  go_wp2_with fail
  refine (add_any _ X b ts p n (h.below ((Below.refl _ _).alloc (Nat.le_refl _) _)) hn hl hnl).mono ?_
  rintro e w1 ⟨rfl, hp1, hb1⟩
  go_wp2_with fail
  refine (step_any _ X b ts (p.add ts n) hp1 hn hl).mono ?_
  rintro e w2 ⟨rfl, hp2, hb2⟩
  go_wp2_with fail
  go_ret
  exact ⟨rfl, by rw [HL.out]; exact hp2, (((Fr.of_below ((Below.refl _ _).alloc (Nat.le_refl _) _) hX).trans hb1).trans hb2)⟩
def ResN (w' : World) (X : Nat → Prop) (b : Nat) (ts : List Tk) (dl : Nat) (e : Ending) : Except Nat (Nat × PS) → Prop
  | .ok (r, p') => e = .returned (.tuple #[.int .i64 (r : Int), .bool true]) ∧ Par w' X b ts p'
  | .error k => ∃ (v : Nat) (p' : PS), e = .returned (.tuple #[.int .i64 (v : Int), .bool false]) ∧ Par w' X b ts p' ∧ p'.next = k ∧ k < ts.length ∧ p'.delays = dl
set_option maxHeartbeats 1000000 in
set_option maxRecDepth 100000 in
theorem place_any (w : World) (X : Nat → Prop) (b : Nat) (ts : List Tk) (p : PS) (h : Par w X b ts p) (hn : p.next < ts.length) (hl : ts.length ≤ 1501) (hd : TsDig ts) :
    Calls Try.prog 130 #[.pointer (some ⟨b, 0, none⟩)] w fun e w' => ResN w' X b ts p.delays e (placeF ts p) ∧ Fr X w w' := by
  have hX := h.xlt
  have hdt : DigTok (p.hd ts) := hd _ hn
  by_cases hk : (p.hd ts).kind = 3
  · obtain ⟨hd1, hd2⟩ := hdt hk
    have q1 : (((p.hd ts).kind : Int) != 3) = false := by rw [hk]; rfl
    by_cases hv : valOf (p.hd ts).l < 4
    · have HF : Hid (placeF ts p = .ok (valOf (p.hd ts).l, p.adv ts)) := hide (by unfold placeF; rw [if_pos ⟨hk, hv⟩])
      have q2 : ¬ (4 : Int) ≤ (valOf (p.hd ts).text.data.toList : Nat) := by have : (p.hd ts).l = (p.hd ts).text.data.toList := rfl; rw [this] at hv; omega
      clear hk hv hdt
      go_enter Try.func130, Try.ntmps130
      go_wp2_with fail
      refine (here_any _ X b ts p h hn hl).mono ?_
      rintro e w1 ⟨rfl, hb1⟩
      go_wp2_with fail
      refine (valueOf_any _ _ hd1 hd2).mono ?_
      rintro e w2 ⟨rfl, rfl⟩
      go_wp2_with fail
      refine (step_any _ X b ts p ((h.below hb1).below ((Below.refl _ _).alloc (Nat.le_refl _) _)) hn hl).mono ?_
      rintro e w2 ⟨rfl, hp2, hb2⟩
      go_wp2_with fail
      go_ret2
      exact ⟨by rw [HF.out]; exact ⟨rfl, hp2⟩, (Fr.of_below (hb1.alloc hb1.size _) hX).trans hb2⟩
    · have HF : Hid (placeF ts p = .error p.next) := hide (by unfold placeF; rw [if_neg (fun h => hv h.2)])
      have q2 : (4 : Int) ≤ (valOf (p.hd ts).text.data.toList : Nat) := by have : (p.hd ts).l = (p.hd ts).text.data.toList := rfl; rw [this] at hv; omega
      clear hk hv hdt
      go_enter Try.func130, Try.ntmps130
      go_wp2_with fail
      refine (here_any _ X b ts p h hn hl).mono ?_
      rintro e w1 ⟨rfl, hb1⟩
      go_wp2_with fail
      refine (valueOf_any _ _ hd1 hd2).mono ?_
      rintro e w2 ⟨rfl, rfl⟩
      go_wp2_with fail
      go_ret2
      exact ⟨by rw [HF.out]; exact ⟨0, p, rfl, (h.below hb1).below ((Below.refl _ _).alloc (Nat.le_refl _) _), rfl, hn, rfl⟩, Fr.of_below (hb1.alloc hb1.size _) hX⟩
  · have q1 : (((p.hd ts).kind : Int) != 3) = true := by rw [bne_iff_ne]; omega
    have HF : Hid (placeF ts p = .error p.next) := hide (by unfold placeF; rw [if_neg (fun h => hk h.1)])
    clear hk hdt
    go_enter Try.func130, Try.ntmps130
    go_wp2_with fail
    refine (here_any _ X b ts p h hn hl).mono ?_
    rintro e w1 ⟨rfl, hb1⟩
    go_wp2_with fail
    go_ret2
    exact ⟨by rw [HF.out]; exact ⟨0, p, rfl, (h.below hb1).below ((Below.refl _ _).alloc (Nat.le_refl _) _), rfl, hn, rfl⟩, Fr.of_below (hb1.alloc hb1.size _) hX⟩
theorem dcAt_cells {w : World} {B g cap : Nat} {l : List Dc} (h : w.ownsRow B 126 7 (.slice (some ⟨g, 0, none⟩) l.length cap) l.length (dcCells l)) {i : Nat} (hi : i < l.length) :
    ∀ j, j < 7 → w.cell? ⟨g, i * 7 + j, none⟩ = (l[i]'hi).cells[j]? := fun j hj => by
  rw [h.cellAt (i * 7 + j) (by omega)]
  exact flat_get Dc.cells 7 dc_len l i j hi hj
theorem ndAt_cells {w : World} {B g cap : Nat} {l : List Nd} (h : w.ownsRow B 171 11 (.slice (some ⟨g, 0, none⟩) l.length cap) l.length (ndCells l)) {i : Nat} (hi : i < l.length) :
    ∀ j, j < 11 → w.cell? ⟨g, i * 11 + j, none⟩ = (l[i]'hi).cells[j]? := fun j hj => by
  rw [h.cellAt (i * 11 + j) (by omega)]
  exact flat_get Nd.cells 11 nd_len l i j hi hj
theorem sameSort_snoc (d a : Dc) (l : List Dc) : sameSort d (l ++ [a]) = sameSort d l + if (a.kind == 0) == (d.kind == 0) then 1 else 0 := by
  unfold sameSort
  rw [List.filter_append]
  by_cases h : ((a.kind == 0) == (d.kind == 0)) = true
  · simp [h]
  · have h' : ((a.kind == 0) == (d.kind == 0)) = false := by simpa using h
    simp [h']
theorem sameSort_le (d : Dc) (l : List Dc) : sameSort d l ≤ l.length := List.length_filter_le _ _
theorem sort_same {a d : Nat} (h : ((a == 0) == (d == 0)) = true) : (((a : Int) == 0) = true ∧ ((d : Int) == 0) = true) ∨ (((a : Int) == 0) = false ∧ ((d : Int) == 0) = false) := by
  by_cases ha : a = 0
  · by_cases hd : d = 0
    · subst ha; subst hd; exact .inl ⟨rfl, rfl⟩
    · simp [ha, hd] at h
  · by_cases hd : d = 0
    · simp [ha, hd] at h
    · exact .inr ⟨by rw [beq_eq_false_iff_ne]; omega, by rw [beq_eq_false_iff_ne]; omega⟩
theorem sort_differs {a d : Nat} (h : ¬ ((a == 0) == (d == 0)) = true) : (((a : Int) == 0) = true ∧ ((d : Int) == 0) = false) ∨ (((a : Int) == 0) = false ∧ ((d : Int) == 0) = true) := by
  by_cases ha : a = 0
  · by_cases hd : d = 0
    · exact absurd (by simp [ha, hd]) h
    · subst ha; exact .inl ⟨rfl, by rw [beq_eq_false_iff_ne]; omega⟩
  · by_cases hd : d = 0
    · subst hd; exact .inr ⟨by rw [beq_eq_false_iff_ne]; omega, rfl⟩
    · have e1 : (a == 0) = false := by simpa using ha
      have e2 : (d == 0) = false := by simpa using hd
      exact absurd (by rw [e1, e2]; rfl) h
theorem declRow (w : World) (N : Nat) (a0 a1 a2 a3 a4 a5 a6 v1 : Value) (t : TypeId) (o : Obj) (h : w.heap[N]? = some (.cells #[a0, a1, a2, a3, a4, a5, a6] t)) :
    ((w.setCell ⟨N, 1, none⟩ v1).alloc o).heap[N]? = some (.cells #[a0, v1, a2, a3, a4, a5, a6] t) := by
  have h1 := heap_setCell_same w N 1 _ _ v1 h
  have hlt : N < (w.setCell ⟨N, 1, none⟩ v1).heap.size := by
    rcases Nat.lt_or_ge N (w.setCell ⟨N, 1, none⟩ v1).heap.size with hl | hg
    · exact hl
    · rw [Array.getElem?_eq_none hg] at h1; cases h1
  rw [Below.heap_alloc _ _ _ hlt, h1]; simp
set_option maxHeartbeats 4000000 in
set_option maxRecDepth 100000 in
theorem declare_any (w : World) (X : Nat → Prop) (b : Nat) (ts : List Tk) (p : PS) (d : Dc) (h : Par w X b ts p) (hdl : p.decls.length ≤ 1501) (hd0 : d.number = 0) :
    Calls Try.prog 128 #[.pointer (some ⟨b, 0, none⟩), d.val] w fun e w' =>
      e = .returned (.tuple #[]) ∧ Par w' X b ts (p.declare d) ∧ Fr X w w' := by
  have HXL := hide h.xlt
  obtain ⟨i0, hi0, hz0, hz1, hz2⟩ := info_parts Try.infoDecl
  obtain ⟨vt, vd, vn, hp⟩ := h
  have hbN : b < w.heap.size := hp.lt
  have hpa : ∀ o, ParV (w.alloc o) X b ts p vt vd vn := fun o => hp.below ((Below.refl _ _).alloc (Nat.le_refl _) _)
  have c4 : ∀ o, (w.alloc o).cell? ⟨b, 4, none⟩ = some vd := fun o => (hpa o).cell.2.2.2.2.1
  have on : vn.ownBlock ≠ some w.heap.size := fun hk => by have := (hp.nodes.lt _ hk).2; omega
  have od : vd.ownBlock ≠ some w.heap.size := fun hk => by have := (hp.decls.lt _ hk).2; omega
  have ot : vt.ownBlock ≠ some w.heap.size := fun hk => by have := (hp.toks.lt _ hk).2; omega
  obtain ⟨dk, dn, dnm, dp, dpl, dr, df⟩ := d
  simp only at hd0
  subst hd0
  obtain ⟨av, cap, rfl, hsh⟩ := own_shape hp.decls
  have HSH := hide hsh
  have HPA := hide hpa
  clear hpa hp hsh
  go_enter Try.func128, Try.ntmps128
  go_wp2
  go_loopw [12] (fun i wr => ∃ k : Nat, k ≤ p.decls.length ∧ i = .int .i64 k ∧
      wr.heap[w.heap.size]? = some (.cells #[.int .i64 (dk : Int), .int .i64 ((sameSort ⟨dk, 0, dnm, dp, dpl, dr, df⟩ (p.decls.take k) : Nat) : Int), .string dnm, .int .i64 (dp : Int), .int .i64 (dpl : Int), .int .i64 (dr : Int), .int .i64 (df : Int)] 126) ∧
      ParV wr X b ts p vt (.slice av p.decls.length cap) vn ∧ Below w.heap.size w wr ∧ w.heap.size < wr.heap.size) (fun i _ => p.decls.length - (intOf i).toNat)
  case atStart => exact ⟨0, Nat.zero_le _, rfl, heap_alloc_new w _, HPA.out _, (Below.refl _ _).alloc (Nat.le_refl _) _, by simp⟩
  case round =>
    obtain ⟨k, hk, rfl, hblk, hpr, hbel, hNr⟩ := hrel
    clear c4
    have e0 := cell_of_row wr w.heap.size 0 _ _ _ hblk
    have e1 := cell_of_row wr w.heap.size 1 _ _ _ hblk
    have f1 := frozen_of_row wr w.heap.size 1 _ _ hblk
    simp at e0 e1
    by_cases hlt : k < p.decls.length
    · obtain ⟨g, rfl, hg1, hg2⟩ := HSH.out (by omega)
      have hcs := dcAt_cells hpr.decls hlt
      have ss := sameSort_snoc ⟨dk, 0, dnm, dp, dpl, dr, df⟩ (p.decls[k]'hlt) (p.decls.take k)
      rw [← List.take_succ_eq_append_getElem hlt] at ss
      have sl := sameSort_le ⟨dk, 0, dnm, dp, dpl, dr, df⟩ (p.decls.take k)
      have sl2 : (p.decls.take k).length ≤ k := List.length_take_le _ _
      obtain ⟨a, ha⟩ : ∃ a, a = p.decls[k]'hlt := ⟨_, rfl⟩
      rw [← ha] at hcs ss
      have SS := hide ss
      have x0 := hcs 0 (by omega)
      have x1 := hcs 1 (by omega)
      have x2 := hcs 2 (by omega)
      have x3 := hcs 3 (by omega)
      have x4 := hcs 4 (by omega)
      have x5 := hcs 5 (by omega)
      have x6 := hcs 6 (by omega)
      simp [Dc.cells] at x0 x1 x2 x3 x4 x5 x6
      generalize hq : sameSort ⟨dk, 0, dnm, dp, dpl, dr, df⟩ (p.decls.take k) = q at *
      have j1 : (0 : Int) ≤ (k : Int) := by omega
      have j2 : (k : Int) < (p.decls.length : Int) := by omega
      have HBLK := hide hblk
      have HPR := hide hpr
      clear hcs ss ha hq hblk hpr
      by_cases hs : ((a.kind == 0) == (dk == 0)) = true
      · have hqq : (((a.kind : Int) == 0) = true ∧ ((dk : Int) == 0) = true) ∨ (((a.kind : Int) == 0) = false ∧ ((dk : Int) == 0) = false) := by
          exact sort_same hs
        have HS := hide hs
        clear hs
        rcases hqq with ⟨q1, q2⟩ | ⟨q1, q2⟩
        all_goals
          go_wp2
          go_roundw
          case rel =>
            refine ⟨k + 1, by omega, by go_num, ?_, ?_, ?_, ?_⟩
            · rw [SS.out, if_pos HS.out]
              exact declRow wr w.heap.size _ _ _ _ _ _ _ _ _ _ HBLK.out
            · exact (HPR.out.other (by omega) ot od on).below ((Below.refl _ _).alloc (Nat.le_refl _) _)
            · exact (hbel.setCell (Nat.le_refl _) _).alloc (by simp; omega) _
            · simp; omega
          case measure => simp [intOf]; omega
      · have hqq : (((a.kind : Int) == 0) = true ∧ ((dk : Int) == 0) = false) ∨ (((a.kind : Int) == 0) = false ∧ ((dk : Int) == 0) = true) := by
          exact sort_differs hs
        have HS := hide hs
        clear hs
        rcases hqq with ⟨q1, q2⟩ | ⟨q1, q2⟩
        all_goals
          go_wp2
          go_roundw
          case rel =>
            refine ⟨k + 1, by omega, by go_num, ?_, ?_, ?_, ?_⟩
            · rw [SS.out, if_neg HS.out]
              rw [Below.heap_alloc _ _ _ (by omega)]
              exact HBLK.out
            · exact HPR.out.below ((Below.refl _ _).alloc (Nat.le_refl _) _)
            · exact hbel.alloc (by omega) _
            · simp; omega
          case measure => simp [intOf]; omega
    · have ek : k = p.decls.length := by omega
      subst ek
      rw [List.take_length] at hblk e1
      have sl := sameSort_le ⟨dk, 0, dnm, dp, dpl, dr, df⟩ p.decls
      have HA : Hid (p.declare ⟨dk, 0, dnm, dp, dpl, dr, df⟩ = { p with decls := p.decls ++ [⟨dk, sameSort ⟨dk, 0, dnm, dp, dpl, dr, df⟩ p.decls, dnm, dp, dpl, dr, df⟩] }) := hide (by simp [PS.declare])
      generalize sameSort ⟨dk, 0, dnm, dp, dpl, dr, df⟩ p.decls = q at *
      have e2 := cell_of_row wr w.heap.size 2 _ _ _ hblk
      have e3 := cell_of_row wr w.heap.size 3 _ _ _ hblk
      have e4 := cell_of_row wr w.heap.size 4 _ _ _ hblk
      have e5 := cell_of_row wr w.heap.size 5 _ _ _ hblk
      have e6 := cell_of_row wr w.heap.size 6 _ _ _ hblk
      simp at e2 e3 e4 e5 e6
      have c4 := hpr.cell.2.2.2.2.1
      have f4 := hpr.froz 4
      have ca : ∀ o, (wr.alloc o).cell? ⟨b, 4, none⟩ = some (.slice av p.decls.length cap) := fun o => by rw [World.cell?_alloc_past _ _ _ hpr.lt]; exact c4
      have fa : ∀ o, (wr.alloc o).frozen? ⟨b, 4, none⟩ = false := fun o => by rw [World.frozen?_alloc_past _ _ _ hpr.lt]; exact f4
      have nbv := hpr.db
      have hown := hpr.decls
      have lb := hpr.lt
      have HPR := hide hpr
      clear hpr hblk
      go_wp2_with fail
      go_region_law ((refine step_append_lies _ (by rfl) _ _ _ (by rfl) 0 126 i0 _ 7 64 Try.underlying67 hi0 hz0 hz1 hz2 rfl (by omega) (.slice av p.decls.length cap) p.decls.length (dcCells p.decls) (by rfl) ((hown.alloc _).drew) ⟨wr.heap.size, 0, none⟩ 1 1 [.int .i64 (dk : Int), .int .i64 (q : Int), .string dnm, .int .i64 (dp : Int), .int .i64 (dpl : Int), .int .i64 (dr : Int), .int .i64 (df : Int)] (by rfl) (by rfl) (World.news_of_block (cs := #[.int .i64 (dk : Int), .int .i64 (q : Int), .string dnm, .int .i64 (dp : Int), .int .i64 (dpl : Int), .int .i64 (dr : Int), .int .i64 (df : Int)]) (t := 126) (fr := (0, 0)) (heap_alloc_new wr _)) (by simp [Value.oneCell']) (by omega) (by unfold maxLen; omega) (by omega) (by simp) (wr.heap.size + 1) (by simp) ?_; intro gg cap2 w3 hown3 hgrow hat hlt3; have k4 := (hgrow.cell_far ⟨b, 4, none⟩ (by simp; omega) (Ne.symm nbv)).trans (ca _); have g4 := (hgrow.frozen_far ⟨b, 4, none⟩ (by simp; omega) (Ne.symm nbv)).trans (fa _)))
      all_goals
        have hPa : ParV (wr.alloc (.cells #[.int .i64 (dk : Int), .int .i64 (q : Int), .string dnm, .int .i64 (dp : Int), .int .i64 (dpl : Int), .int .i64 (dr : Int), .int .i64 (df : Int)] 126)).drew X b ts p vt (.slice av p.decls.length cap) vn := HPR.out.below (((Below.refl _ _).alloc (Nat.le_refl _) _).drew)
        have hfin := hPa.newDecls (g := gg) (cap := cap2) (len := p.decls.length + 1) (l := p.decls ++ [⟨dk, q, dnm, dp, dpl, dr, df⟩]) hgrow (by rw [dcCells_snoc]; exact hown3) (by simp) (hat_le hat (by simp))
        have HFIN := hide hfin
        have HBEL : Hid (Fr X w (wr.alloc (.cells #[.int .i64 (dk : Int), .int .i64 (q : Int), .string dnm, .int .i64 (dp : Int), .int .i64 (dpl : Int), .int .i64 (dr : Int), .int .i64 (df : Int)] 126)).drew) := hide (Fr.of_below ((hbel.alloc (by omega) _).drew) HXL.out)
        clear hown3 hgrow hat hPa hfin hown HPR c4 f4
        go_wp2
        go_end0
        exact ⟨rfl, by rw [HA.out]; exact ⟨_, _, _, HFIN.out.1⟩, HBEL.out.trans HFIN.out.2⟩
def ResD (w' : World) (X : Nat → Prop) (b : Nat) (ts : List Tk) (dl : Nat) (e : Ending) : Except Nat (Nd × PS) → Prop
  | .ok (n, p') => e = .returned (.tuple #[n.val, .bool true]) ∧ Par w' X b ts p'
  | .error k => ∃ (n : Nd) (p' : PS), e = .returned (.tuple #[n.val, .bool false]) ∧ Par w' X b ts p' ∧ p'.next = k ∧ k < ts.length ∧ p'.delays = dl
def ExprC (ts : List Tk) (f : Nat) : Prop :=
  ∀ (w : World) (X : Nat → Prop) (b : Nat) (p : PS), Par w X b ts p → p.Wf ts → p.depth + f = 16 →
    Calls Try.prog 131 #[.pointer (some ⟨b, 0, none⟩)] w fun e w' => ResN w' X b ts p.delays e (exprF ts f p) ∧ Fr X w w'
theorem row11 {w : World} {N : Nat} {a0 a1 a2 a3 a4 a5 a6 a7 a8 a9 a10 : Value} {t : TypeId} (h : w.heap[N]? = some (.cells #[a0, a1, a2, a3, a4, a5, a6, a7, a8, a9, a10] t)) :
    (w.cell? ⟨N, 0, none⟩ = some a0 ∧ w.cell? ⟨N, 1, none⟩ = some a1 ∧ w.cell? ⟨N, 2, none⟩ = some a2 ∧ w.cell? ⟨N, 3, none⟩ = some a3 ∧ w.cell? ⟨N, 4, none⟩ = some a4 ∧ w.cell? ⟨N, 5, none⟩ = some a5 ∧
    w.cell? ⟨N, 6, none⟩ = some a6 ∧ w.cell? ⟨N, 7, none⟩ = some a7 ∧ w.cell? ⟨N, 8, none⟩ = some a8 ∧ w.cell? ⟨N, 9, none⟩ = some a9 ∧ w.cell? ⟨N, 10, none⟩ = some a10) ∧ (∀ i, w.frozen? ⟨N, i, none⟩ = false) := by
  refine ⟨⟨?_, ?_, ?_, ?_, ?_, ?_, ?_, ?_, ?_, ?_, ?_⟩, fun i => frozen_of_row w N i _ _ h⟩ <;> (rw [cell_of_row w N _ _ _ _ h]; rfl)
def two (X : Nat → Prop) (N : Nat) : Nat → Prop := fun k => X k ∨ k = N ∨ k = N + 1
theorem two_blocks {w w' : World} {o1 o2 : Obj} {X : Nat → Prop} (hf : Fr (two X w.heap.size) ((w.alloc o1).alloc o2) w') :
    w'.heap[w.heap.size]? = some o1 ∧ w'.heap[w.heap.size + 1]? = some o2 := by
  refine ⟨(hf.block _ (.inr (.inl rfl))).trans ?_, (hf.block _ (.inr (.inr rfl))).trans ?_⟩
  · rw [Below.heap_alloc _ _ _ (by simp)]; exact heap_alloc_new w o1
  · have := heap_alloc_new (w.alloc o1) o2
    simpa using this
theorem Par.two {w : World} {X : Nat → Prop} {b : Nat} {ts : List Tk} {p : PS} (h : Par w X b ts p) (o1 o2 : Obj) : Par ((w.alloc o1).alloc o2) (two X w.heap.size) b ts p :=
  h.more (((Below.refl _ _).alloc (Nat.le_refl _) _).alloc (by simp) _) (fun k hk => by
    rcases hk with h | h | h
    · exact .inl h
    · right; simp; omega
    · right; simp; omega)
theorem fr_two {w w' : World} {X : Nat → Prop} {o1 o2 : Obj} (hX : ∀ k, X k → k < w.heap.size) (hf : Fr (two X w.heap.size) ((w.alloc o1).alloc o2) w') : Fr X w w' :=
  (Fr.of_below (((Below.refl w.heap.size w).alloc (Nat.le_refl _) o1).alloc (by simp) o2) hX).trans (hf.mono fun k hk => .inl hk)
theorem two_not {X : Nat → Prop} {N : Nat} (hX : ∀ k, X k → k < N) : ¬ X N ∧ ¬ X (N + 1) := ⟨fun h => by have := hX _ h; omega, fun h => by have := hX _ h; omega⟩
set_option maxHeartbeats 4000000 in
set_option maxRecDepth 100000 in
theorem not_any {ts : List Tk} (hl : ts.length ≤ 1501) {f : Nat} (hE : ExprC ts f) (w : World) (X : Nat → Prop) (b : Nat) (p : PS) (n : Nd) (h : Par w X b ts p) (hw : p.Wf ts) (hd : p.depth + f = 16) :
    Calls Try.prog 140 #[.pointer (some ⟨b, 0, none⟩), n.val] w fun e w' => ResD w' X b ts p.delays e (notF ts (exprF ts f) p n) ∧ Fr X w w' := by
  have HXL := hide h.xlt
  have HE := hide hE
  have HW := hide hw
  clear hE hw
  go_enter Try.func140, Try.ntmps140
  go_wp2_with fail
  refine (step_any _ (two X w.heap.size) b ts p (h.two _ _) HW.out.next hl).mono ?_
  rintro e w2 ⟨rfl, hp2, hf2⟩
  go_wp2_with fail
  refine (HE.out w2 _ b (p.adv ts) hp2 (adv_wf HW.out) (by simp; exact hd)).mono ?_
  rintro e w3 ⟨hr, hf3⟩
  have hf := hf2.trans hf3
  obtain ⟨hb1, hb2⟩ := two_blocks hf
  have HFR := hide (fr_two HXL.out hf)
  clear hf hf2 hf3 hp2
  obtain ⟨⟨d0, d1, d2, d3, d4, d5, d6, d7, d8, d9, d10⟩, dF⟩ := row11 hb1
  obtain ⟨⟨r0, r1, r2, r3, r4, r5, r6, r7, r8, r9, r10⟩, rF⟩ := row11 hb2
  clear hb1 hb2
  have HNX := hide (two_not HXL.out)
  generalize w.heap.size = N at *
  have hN : two X N N := .inr (.inl rfl)
  have hN1 : two X N (N + 1) := .inr (.inr rfl)
  cases hx : exprF ts f (p.adv ts) with
  | ok ap =>
    obtain ⟨a, p1⟩ := ap
    rw [hx] at hr
    obtain ⟨rfl, hp3⟩ := hr
    have HR : Hid (notF ts (exprF ts f) p n = .ok ({ n with kind := 3, a := a }, p1)) := hide (by unfold notF; rw [hx])
    have HP := hide hp3
    clear hx hp3 HE HW
    go_wp2
    refine bodyPost_ret (v := .tuple #[({ n with kind := 3, a := a } : Nd).val, .bool true]) (by simp [results, Try.results140, go_sem, *]) rfl ?_
    refine ⟨?_, ?_⟩
    · rw [HR.out]
      exact ⟨rfl, Par.less (((((((((((((HP.out.poke hN).poke hN).poke hN1).poke hN1).poke hN1).poke hN1).poke hN1).poke hN1).poke hN1).poke hN1).poke hN1).poke hN1).poke hN1) (fun k hk => .inl hk)⟩
    · exact (((((((((((((HFR.out.setCell HNX.out.1 _).setCell HNX.out.1 _).setCell HNX.out.2 _).setCell HNX.out.2 _).setCell HNX.out.2 _).setCell HNX.out.2 _).setCell HNX.out.2 _).setCell HNX.out.2 _).setCell HNX.out.2 _).setCell HNX.out.2 _).setCell HNX.out.2 _).setCell HNX.out.2 _).setCell HNX.out.2 _)
  | error k =>
    rw [hx] at hr
    obtain ⟨a, p1, rfl, hp3, hk1, hk2, hk3⟩ := hr
    have HR : Hid (notF ts (exprF ts f) p n = .error k) := hide (by unfold notF; rw [hx])
    have HP := hide hp3
    have HK := hide hk1
    have HK3 := hide hk3
    clear hx hp3 HE HW hk1 hk3
    go_wp2
    refine bodyPost_ret (v := .tuple #[({ n with kind := 3, a := a } : Nd).val, .bool false]) (by simp [results, Try.results140, go_sem, *]) rfl ?_
    refine ⟨?_, ?_⟩
    · rw [HR.out]
      exact ⟨_, p1, rfl, Par.less (((((((((((((HP.out.poke hN).poke hN).poke hN1).poke hN1).poke hN1).poke hN1).poke hN1).poke hN1).poke hN1).poke hN1).poke hN1).poke hN1).poke hN1) (fun k hk => .inl hk), HK.out, hk2, by rw [HK3.out]; simp⟩
    · exact (((((((((((((HFR.out.setCell HNX.out.1 _).setCell HNX.out.1 _).setCell HNX.out.2 _).setCell HNX.out.2 _).setCell HNX.out.2 _).setCell HNX.out.2 _).setCell HNX.out.2 _).setCell HNX.out.2 _).setCell HNX.out.2 _).setCell HNX.out.2 _).setCell HNX.out.2 _).setCell HNX.out.2 _).setCell HNX.out.2 _)
set_option maxHeartbeats 2000000 in
set_option maxRecDepth 100000 in
theorem choice_any {ts : List Tk} (ht : TsOk ts) {f : Nat} (hE : ExprC ts f) (w : World) (X : Nat → Prop) (b : Nat) (p : PS) (n : Nd) (h : Par w X b ts p) (hw : p.Wf ts) (hd : p.depth + f = 16) :
    Calls Try.prog 141 #[.pointer (some ⟨b, 0, none⟩), n.val] w fun e w' => ResD w' X b ts p.delays e (choiceF ts (exprF ts f) p n) ∧ Fr X w w' := by
  have HXL := hide h.xlt
  have HE := hide hE
  have HW := hide hw
  have HT := hide ht
  clear hE hw ht
  go_enter Try.func141, Try.ntmps141
  go_wp2_with fail
  refine (step_any _ (two X w.heap.size) b ts p (h.two _ _) HW.out.next HT.out.1).mono ?_
  rintro e w2 ⟨rfl, hp2, hf2⟩
  go_wp2_with fail
  refine (HE.out w2 _ b (p.adv ts) hp2 (adv_wf HW.out) (by simp; exact hd)).mono ?_
  rintro e w3 ⟨hr, hf3⟩
  have hf := hf2.trans hf3
  clear hf2 hf3 hp2
  cases hx : exprF ts f (p.adv ts) with
  | error k =>
    rw [hx] at hr
    obtain ⟨a, p3, rfl, hp3, hk1, hk2, hk3⟩ := hr
    have HR : Hid (choiceF ts (exprF ts f) p n = .error k) := hide (by unfold choiceF; rw [hx])
    rw [adv_delays] at hk3
    clear hx HE HW HT
    obtain ⟨hb1, hb2⟩ := two_blocks hf
    have HFR := hide (fr_two HXL.out hf)
    have HNX := hide (two_not HXL.out)
    obtain ⟨⟨d0, d1, d2, d3, d4, d5, d6, d7, d8, d9, d10⟩, dF⟩ := row11 hb1
    obtain ⟨⟨r0, r1, r2, r3, r4, r5, r6, r7, r8, r9, r10⟩, rF⟩ := row11 hb2
    clear hb1 hb2
    have hN : two X w.heap.size w.heap.size := .inr (.inl rfl)
    have hN1 : two X w.heap.size (w.heap.size + 1) := .inr (.inr rfl)
    generalize w.heap.size = N at *
    have HP := hide hp3
    have HK := hide hk1
    have HK3 := hide hk3
    clear hp3 hk1 hk3
    go_wp2
    refine bodyPost_ret (v := .tuple #[(n : Nd).val, .bool false]) (by simp [results, Try.results141, go_sem, *]) rfl ?_
    refine ⟨?_, ?_⟩
    · rw [HR.out]
      exact ⟨_, p3, rfl, Par.less (((((((((((HP.out.poke hN1).poke hN1).poke hN1).poke hN1).poke hN1).poke hN1).poke hN1).poke hN1).poke hN1).poke hN1).poke hN1) (fun k hk => .inl hk), HK.out, hk2, HK3.out⟩
    · exact (((((((((((HFR.out.setCell HNX.out.2 _).setCell HNX.out.2 _).setCell HNX.out.2 _).setCell HNX.out.2 _).setCell HNX.out.2 _).setCell HNX.out.2 _).setCell HNX.out.2 _).setCell HNX.out.2 _).setCell HNX.out.2 _).setCell HNX.out.2 _).setCell HNX.out.2 _)
  | ok ap =>
    obtain ⟨a, p1⟩ := ap
    rw [hx] at hr
    obtain ⟨rfl, hp1⟩ := hr
    have hs1 := ((expr_ok HT.out f p.depth hd (p.adv ts) (adv_wf HW.out) (by simp)).1 _ _ hx).1
    have hw1 := hs1.wf (adv_wf HW.out)
    have hdp1 : p1.depth = p.depth := by rw [hs1.depth]; simp
    have HL1 : Hid (p1.delays = p.delays) := hide (by rw [hs1.delays]; simp)
    have HX1 := hide hx
    have HW1 := hide hw1
    have HD1 := hide hdp1
    clear hx hs1 hw1 hdp1
    go_wp2_with fail
    refine (HE.out w3 _ b p1 hp1 HW1.out (by rw [HD1.out]; exact hd)).mono ?_
    rintro e w4 ⟨hr, hf4⟩
    have hf := hf.trans hf4
    clear hf4 hp1
    cases hx : exprF ts f p1 with
    | error k =>
      rw [hx] at hr
      obtain ⟨c, p3, rfl, hp3, hk1, hk2, hk3⟩ := hr
      have HR : Hid (choiceF ts (exprF ts f) p n = .error k) := hide (by unfold choiceF; rw [HX1.out]; simp only; rw [hx])
      rw [HL1.out] at hk3
      clear hx HE HW HT HX1 HW1 HD1
      obtain ⟨hb1, hb2⟩ := two_blocks hf
      have HFR := hide (fr_two HXL.out hf)
      have HNX := hide (two_not HXL.out)
      obtain ⟨⟨d0, d1, d2, d3, d4, d5, d6, d7, d8, d9, d10⟩, dF⟩ := row11 hb1
      obtain ⟨⟨r0, r1, r2, r3, r4, r5, r6, r7, r8, r9, r10⟩, rF⟩ := row11 hb2
      clear hb1 hb2
      have hN : two X w.heap.size w.heap.size := .inr (.inl rfl)
      have hN1 : two X w.heap.size (w.heap.size + 1) := .inr (.inr rfl)
      generalize w.heap.size = N at *
      have HP := hide hp3
      have HK := hide hk1
      have HK3 := hide hk3
      clear hp3 hk1 hk3
      go_wp2
      refine bodyPost_ret (v := .tuple #[(n : Nd).val, .bool false]) (by simp [results, Try.results141, go_sem, *]) rfl ?_
      refine ⟨?_, ?_⟩
      · rw [HR.out]
        exact ⟨_, p3, rfl, Par.less (((((((((((HP.out.poke hN1).poke hN1).poke hN1).poke hN1).poke hN1).poke hN1).poke hN1).poke hN1).poke hN1).poke hN1).poke hN1) (fun k hk => .inl hk), HK.out, hk2, HK3.out⟩
      · exact (((((((((((HFR.out.setCell HNX.out.2 _).setCell HNX.out.2 _).setCell HNX.out.2 _).setCell HNX.out.2 _).setCell HNX.out.2 _).setCell HNX.out.2 _).setCell HNX.out.2 _).setCell HNX.out.2 _).setCell HNX.out.2 _).setCell HNX.out.2 _).setCell HNX.out.2 _)
    | ok ap =>
      obtain ⟨b2, p2⟩ := ap
      rw [hx] at hr
      obtain ⟨rfl, hp2⟩ := hr
      have hs2 := ((expr_ok HT.out f p1.depth (by rw [HD1.out]; exact hd) p1 HW1.out rfl).1 _ _ hx).1
      have hw2 := hs2.wf HW1.out
      have hdp2 : p2.depth = p.depth := by rw [hs2.depth]; exact HD1.out
      have HL2 : Hid (p2.delays = p.delays) := hide (by rw [hs2.delays]; exact HL1.out)
      have HX2 := hide hx
      have HW2 := hide hw2
      have HD2 := hide hdp2
      clear hx hs2 hw2 hdp2
      go_wp2_with fail
      refine (HE.out w4 _ b p2 hp2 HW2.out (by rw [HD2.out]; exact hd)).mono ?_
      rintro e w5 ⟨hr, hf5⟩
      have hf := hf.trans hf5
      clear hf5 hp2
      cases hx : exprF ts f p2 with
      | error k =>
        rw [hx] at hr
        obtain ⟨c, p3, rfl, hp3, hk1, hk2, hk3⟩ := hr
        have HR : Hid (choiceF ts (exprF ts f) p n = .error k) := hide (by unfold choiceF; rw [HX1.out]; simp only; rw [HX2.out]; simp only; rw [hx])
        rw [HL2.out] at hk3
        clear hx HE HW HT HX1 HW1 HD1 HX2 HW2 HD2
        obtain ⟨hb1, hb2⟩ := two_blocks hf
        have HFR := hide (fr_two HXL.out hf)
        have HNX := hide (two_not HXL.out)
        obtain ⟨⟨d0, d1, d2, d3, d4, d5, d6, d7, d8, d9, d10⟩, dF⟩ := row11 hb1
        obtain ⟨⟨r0, r1, r2, r3, r4, r5, r6, r7, r8, r9, r10⟩, rF⟩ := row11 hb2
        clear hb1 hb2
        have hN : two X w.heap.size w.heap.size := .inr (.inl rfl)
        have hN1 : two X w.heap.size (w.heap.size + 1) := .inr (.inr rfl)
        generalize w.heap.size = N at *
        have HP := hide hp3
        have HK := hide hk1
        have HK3 := hide hk3
        clear hp3 hk1 hk3
        go_wp2
        refine bodyPost_ret (v := .tuple #[({ n with kind := 4, a := a, b := b2, c := c } : Nd).val, .bool false]) (by simp [results, Try.results141, go_sem, *]) rfl ?_
        refine ⟨?_, ?_⟩
        · rw [HR.out]
          exact ⟨_, p3, rfl, Par.less (((((((((((((((HP.out.poke hN).poke hN).poke hN).poke hN).poke hN1).poke hN1).poke hN1).poke hN1).poke hN1).poke hN1).poke hN1).poke hN1).poke hN1).poke hN1).poke hN1) (fun k hk => .inl hk), HK.out, hk2, HK3.out⟩
        · exact (((((((((((((((HFR.out.setCell HNX.out.1 _).setCell HNX.out.1 _).setCell HNX.out.1 _).setCell HNX.out.1 _).setCell HNX.out.2 _).setCell HNX.out.2 _).setCell HNX.out.2 _).setCell HNX.out.2 _).setCell HNX.out.2 _).setCell HNX.out.2 _).setCell HNX.out.2 _).setCell HNX.out.2 _).setCell HNX.out.2 _).setCell HNX.out.2 _).setCell HNX.out.2 _)
      | ok ap =>
        obtain ⟨c, p3⟩ := ap
        rw [hx] at hr
        obtain ⟨rfl, hp3⟩ := hr
        have HR : Hid (choiceF ts (exprF ts f) p n = .ok ({ n with kind := 4, a := a, b := b2, c := c }, p3)) := hide (by unfold choiceF; rw [HX1.out]; simp only; rw [HX2.out]; simp only; rw [hx])
        clear hx HE HW HT HX1 HW1 HD1 HX2 HW2 HD2
        obtain ⟨hb1, hb2⟩ := two_blocks hf
        have HFR := hide (fr_two HXL.out hf)
        have HNX := hide (two_not HXL.out)
        obtain ⟨⟨d0, d1, d2, d3, d4, d5, d6, d7, d8, d9, d10⟩, dF⟩ := row11 hb1
        obtain ⟨⟨r0, r1, r2, r3, r4, r5, r6, r7, r8, r9, r10⟩, rF⟩ := row11 hb2
        clear hb1 hb2
        have hN : two X w.heap.size w.heap.size := .inr (.inl rfl)
        have hN1 : two X w.heap.size (w.heap.size + 1) := .inr (.inr rfl)
        generalize w.heap.size = N at *
        have HP := hide hp3
        clear hp3
        go_wp2
        refine bodyPost_ret (v := .tuple #[({ n with kind := 4, a := a, b := b2, c := c } : Nd).val, .bool true]) (by simp [results, Try.results141, go_sem, *]) rfl ?_
        refine ⟨?_, ?_⟩
        · rw [HR.out]
          exact ⟨rfl, Par.less (((((((((((((((HP.out.poke hN).poke hN).poke hN).poke hN).poke hN1).poke hN1).poke hN1).poke hN1).poke hN1).poke hN1).poke hN1).poke hN1).poke hN1).poke hN1).poke hN1) (fun k hk => .inl hk)⟩
        · exact (((((((((((((((HFR.out.setCell HNX.out.1 _).setCell HNX.out.1 _).setCell HNX.out.1 _).setCell HNX.out.1 _).setCell HNX.out.2 _).setCell HNX.out.2 _).setCell HNX.out.2 _).setCell HNX.out.2 _).setCell HNX.out.2 _).setCell HNX.out.2 _).setCell HNX.out.2 _).setCell HNX.out.2 _).setCell HNX.out.2 _).setCell HNX.out.2 _).setCell HNX.out.2 _)
set_option maxHeartbeats 2000000 in
set_option maxRecDepth 100000 in
theorem delay_any {ts : List Tk} (ht : TsOk ts) {f : Nat} (hE : ExprC ts f) (w : World) (X : Nat → Prop) (b : Nat) (p : PS) (n : Nd) (h : Par w X b ts p) (hw : p.Wf ts) (hd : p.depth + f = 16) (hdl : p.delays + 1 ≤ p.depth) :
    Calls Try.prog 144 #[.pointer (some ⟨b, 0, none⟩), n.val] w fun e w' => ResD w' X b ts p.delays e (delayF (exprF ts f) p n) ∧ Fr X w w' := by
  have HE := hide hE
  have HT := hide ht
  have hd16 := hw.depth
  have HW1 : Hid (({ p with delays := p.delays + 1 } : PS).Wf ts) := hide ⟨hw.next, hw.nodes, hw.decls, hdl, hw.depth⟩
  clear hE hw ht
  obtain ⟨vt, vd, vn, hp⟩ := h
  have hb : b < w.heap.size := hp.lt
  have c3 := hp.cell.2.2.2.1
  have f3 := hp.froz 3
  obtain ⟨hs1, hs2⟩ := hp.set (p' := { p with delays := p.delays + 1 }) 3 (.int .i64 ((p.delays : Int) + 1)) rfl rfl (by simp)
  have HP0 := hide hs1
  have HF0 := hide hs2
  clear hp hs1 hs2
  go_enter Try.func144, Try.ntmps144
  go_wp2_with fail
  obtain ⟨w0, hw0⟩ : ∃ w0, w0 = w.setCell ⟨b, 3, none⟩ (.int .i64 ((p.delays : Int) + 1)) := ⟨_, rfl⟩
  have hsz : w.heap.size = w0.heap.size := by rw [hw0]; simp
  rw [← hw0] at HP0 HF0
  rw [← hw0, hsz]
  have HXL0 := hide HP0.out.xlt
  clear hw0 c3 f3 hb hsz
  refine (HE.out _ (two X w0.heap.size) b { p with delays := p.delays + 1 } (Par.two ⟨_, _, _, HP0.out⟩ _ _) HW1.out hd).mono ?_
  rintro e w3 ⟨hr, hf⟩
  cases hx : exprF ts f { p with delays := p.delays + 1 } with
  | ok ap =>
    obtain ⟨r, p3⟩ := ap
    rw [hx] at hr
    obtain ⟨rfl, hp3⟩ := hr
    have hs := ((expr_ok HT.out f p.depth hd _ HW1.out rfl).1 _ _ hx).1
    have HDL : Hid (p3.delays = p.delays + 1) := hide hs.delays
    have HR : Hid (delayF (exprF ts f) p n = .ok ({ n with kind := 5, b := r }, { p3 with delays := p3.delays - 1 })) := hide (by unfold delayF; rw [hx])
    clear hx hs HE HT HW1
    obtain ⟨vt3, vd3, vn3, hv3⟩ := hp3
    have c3 := hv3.cell.2.2.2.1
    have f3 := hv3.froz 3
    have nb1 : b ≠ w0.heap.size := by rintro rfl; exact hv3.xb (.inr (.inl rfl))
    have nb2 : b ≠ w0.heap.size + 1 := by rintro rfl; exact hv3.xb (.inr (.inr rfl))
    have nb3 := nb1.symm
    have nb4 := nb2.symm
    have c3' : w3.cell? ⟨b, 3, none⟩ = some (.int .i64 ((p.delays : Int) + 1)) := by rw [c3, HDL.out]; rfl
    have hset := hv3.set (p' := { p3 with delays := p3.delays - 1 }) 3 (.int .i64 (p.delays : Int)) rfl rfl (by simp [HDL.out])
    have HP : Hid (Par (w3.setCell ⟨b, 3, none⟩ (.int .i64 (p.delays : Int))) (two X w0.heap.size) b ts { p3 with delays := p3.delays - 1 }) := hide ⟨_, _, _, hset.1⟩
    have HFS := hide hset.2
    clear hset hv3 c3
    obtain ⟨hb1, hb2⟩ := two_blocks hf
    have HFR := hide ((HF0.out.trans (fr_two HXL0.out hf)).trans (HFS.out.mono fun k hk => .inl hk))
    have HNX := hide (two_not HXL0.out)
    obtain ⟨⟨d0, d1, d2, d3, d4, d5, d6, d7, d8, d9, d10⟩, dF⟩ := row11 hb1
    obtain ⟨⟨r0, r1, r2, r3, r4, r5, r6, r7, r8, r9, r10⟩, rF⟩ := row11 hb2
    clear hb1 hb2 HFS hf
    have hN : two X w0.heap.size w0.heap.size := .inr (.inl rfl)
    have hN1 : two X w0.heap.size (w0.heap.size + 1) := .inr (.inr rfl)
    generalize w0.heap.size = N at *
    go_wp2
    refine bodyPost_ret (v := .tuple #[({ n with kind := 5, b := r } : Nd).val, .bool true]) (by simp [results, Try.results144, go_sem, *]) rfl ?_
    refine ⟨?_, ?_⟩
    · rw [HR.out]
      exact ⟨rfl, Par.less (((((((((((((HP.out.poke hN).poke hN).poke hN1).poke hN1).poke hN1).poke hN1).poke hN1).poke hN1).poke hN1).poke hN1).poke hN1).poke hN1).poke hN1) (fun k hk => .inl hk)⟩
    · exact (((((((((((((HFR.out.setCell HNX.out.1 _).setCell HNX.out.1 _).setCell HNX.out.2 _).setCell HNX.out.2 _).setCell HNX.out.2 _).setCell HNX.out.2 _).setCell HNX.out.2 _).setCell HNX.out.2 _).setCell HNX.out.2 _).setCell HNX.out.2 _).setCell HNX.out.2 _).setCell HNX.out.2 _).setCell HNX.out.2 _)
  | error k =>
    rw [hx] at hr
    obtain ⟨r, p3, rfl, hp3, hk1, hk2, hk3⟩ := hr
    have HDL : Hid (p3.delays = p.delays + 1) := hide hk3
    have HR : Hid (delayF (exprF ts f) p n = .error k) := hide (by unfold delayF; rw [hx])
    have HK := hide hk1
    have HK3 := hide hk3
    clear hx HE HT HW1 hk1 hk3
    obtain ⟨vt3, vd3, vn3, hv3⟩ := hp3
    have c3 := hv3.cell.2.2.2.1
    have f3 := hv3.froz 3
    have nb1 : b ≠ w0.heap.size := by rintro rfl; exact hv3.xb (.inr (.inl rfl))
    have nb2 : b ≠ w0.heap.size + 1 := by rintro rfl; exact hv3.xb (.inr (.inr rfl))
    have nb3 := nb1.symm
    have nb4 := nb2.symm
    have c3' : w3.cell? ⟨b, 3, none⟩ = some (.int .i64 ((p.delays : Int) + 1)) := by rw [c3, HDL.out]; rfl
    have hset := hv3.set (p' := { p3 with delays := p3.delays - 1 }) 3 (.int .i64 (p.delays : Int)) rfl rfl (by simp [HDL.out])
    have HP : Hid (Par (w3.setCell ⟨b, 3, none⟩ (.int .i64 (p.delays : Int))) (two X w0.heap.size) b ts { p3 with delays := p3.delays - 1 }) := hide ⟨_, _, _, hset.1⟩
    have HFS := hide hset.2
    clear hset hv3 c3
    obtain ⟨hb1, hb2⟩ := two_blocks hf
    have HFR := hide ((HF0.out.trans (fr_two HXL0.out hf)).trans (HFS.out.mono fun k hk => .inl hk))
    have HNX := hide (two_not HXL0.out)
    obtain ⟨⟨d0, d1, d2, d3, d4, d5, d6, d7, d8, d9, d10⟩, dF⟩ := row11 hb1
    obtain ⟨⟨r0, r1, r2, r3, r4, r5, r6, r7, r8, r9, r10⟩, rF⟩ := row11 hb2
    clear hb1 hb2 HFS hf
    have hN : two X w0.heap.size w0.heap.size := .inr (.inl rfl)
    have hN1 : two X w0.heap.size (w0.heap.size + 1) := .inr (.inr rfl)
    generalize w0.heap.size = N at *
    go_wp2
    refine bodyPost_ret (v := .tuple #[({ n with kind := 5, b := r } : Nd).val, .bool false]) (by simp [results, Try.results144, go_sem, *]) rfl ?_
    refine ⟨?_, ?_⟩
    · rw [HR.out]
      exact ⟨_, _, rfl, Par.less (((((((((((((HP.out.poke hN).poke hN).poke hN1).poke hN1).poke hN1).poke hN1).poke hN1).poke hN1).poke hN1).poke hN1).poke hN1).poke hN1).poke hN1) (fun k hk => .inl hk), HK.out, hk2, by simp [HK3.out]⟩
    · exact (((((((((((((HFR.out.setCell HNX.out.1 _).setCell HNX.out.1 _).setCell HNX.out.2 _).setCell HNX.out.2 _).setCell HNX.out.2 _).setCell HNX.out.2 _).setCell HNX.out.2 _).setCell HNX.out.2 _).setCell HNX.out.2 _).setCell HNX.out.2 _).setCell HNX.out.2 _).setCell HNX.out.2 _).setCell HNX.out.2 _)
end Go.Proofs.Ytmndgoapkmhglab
