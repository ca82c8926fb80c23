import Derived.Test.Ytmndgoapkmhglabc30RefI
namespace Go.Proofs.Ytmndgoapkmhglab
open Go.RowKit
attribute [local go_sem ↓] Go.wp_at_zero Go.wp_at_succ

theorem rdc_tok (ts : List Tk) (x : Dl) : (rdc ts x).tok = x.i + 1 ∧ (rdc ts x).name = nameD ts x := by unfold rdc; split <;> exact ⟨rfl, rfl⟩
theorem ROk.tok {ts : List Tk} {L : List Dl} (h : ROk ts L) {x : Dl} (hx : x ∈ L) : (rdc ts x).tok < ts.length := by
  have := (h.mem hx).1; have := Dl.len_pos x; rw [(rdc_tok ts x).1]; omega

theorem rdc_pos (ts : List Tk) (x : Dl) : (tkAt ts (rdc ts x).tok).pos = posD ts x := by rw [(rdc_tok ts x).1]; rfl

theorem pos_le (s : ByteArray) (i : Nat) : (tkAt (toks s) i).pos ≤ s.size := by
  obtain ⟨h1, _⟩ := tk_pos _ 0 s.data.toList rfl
  rw [toks_list]
  by_cases h : i < (tk 0 s.data.toList).length
  · rw [tkAt_left h]; have := (h1 _ (tkAt_mem h)).2; rw [size_list]; omega
  · by_cases e : i = (tk 0 s.data.toList).length
    · rw [e, tkAt_mid]; exact Nat.le_refl _
    · have : tkAt (tk 0 s.data.toList ++ [⟨0, s.size, ⟨#[]⟩⟩]) i = tkEnd := by
        unfold tkAt
        rw [List.getD_eq_getElem?_getD, List.getElem?_eq_none (by simp; omega)]
        rfl
      rw [this]; exact Nat.zero_le _

/-- the cells of one declaration of a row, with the row's own address. -/
theorem row_at {w : World} {v : Value} {ts : List Tk} {l : List Dl} (h : w.ownsRow 0 115 6 v l.length (rdCells (l.map (rdc ts)))) {k : Nat} (hk : k < l.length) :
    ∃ g cap, v = .slice (some ⟨g, 0, none⟩) l.length cap ∧ g < w.heap.size ∧ ∀ wr, Below w.heap.size w wr → ∀ a, a = rdc ts (l[k]'hk) → wr.cell? ⟨g, k * 6, none⟩ = some (.string a.name) ∧ wr.cell? ⟨g, k * 6 + 1, none⟩ = some (.int .i64 (a.tok : Int)) ∧ wr.cell? ⟨g, k * 6 + 2, none⟩ = some (.bool a.input) ∧ wr.cell? ⟨g, k * 6 + 3, none⟩ = some (.bool a.truth) ∧
    wr.cell? ⟨g, k * 6 + 4, none⟩ = some (.int .i64 (a.place : Int)) ∧ wr.cell? ⟨g, k * 6 + 5, none⟩ = some (.int .i64 (a.body : Int)) := by
  obtain ⟨g, cap, rfl, _, h2⟩ := h.form (by omega)
  exact ⟨g, cap, rfl, h2, fun wr hb a ha => rd_later h hb h2 hk a ha⟩

set_option maxHeartbeats 1000000 in
theorem rmany_any (w : World) (q g cap : Nat) (ts : List Tk) (L : List Dl) (vE vA vI vQ : Value) (h : RProg w q g cap ts L vE vA vI vQ) (ho : ROk ts L) (hp : ∀ i, (tkAt ts i).pos ≤ 1500) :
    Calls Try.prog 60 #[.pointer (some ⟨q, 0, none⟩)] w fun e w' => e = .returned (optI (manyR ts L)) ∧ Below w.heap.size w w' := by
  obtain ⟨av, cv, hv, _⟩ := own_shape h.eqs
  obtain ⟨ai, ci, hi, _⟩ := own_shape h.ins
  obtain ⟨hm1, hm2, hm3⟩ := ho.many
  have c4 : w.cell? ⟨q, 4, none⟩ = some (.slice av (eqL L).length cv) := by rw [h.c4, hv]
  have c3 : w.cell? ⟨q, 3, none⟩ = some (.slice ai (inL L).length ci) := by rw [h.c3, hi]
  have HR := hide h
  have HO := hide ho
  have hp := hp
  clear h ho
  by_cases hq : 12 < (eqL L).length
  · obtain ⟨gq, cq, hvq, hgq, hcq⟩ := row_at HR.out.eqs hq
    obtain ⟨x, hx⟩ : ∃ x, x = (eqL L)[12]'hq := ⟨_, rfl⟩
    have hxm : x ∈ L := (List.mem_filter.1 (by rw [hx]; exact List.getElem_mem hq)).1
    obtain ⟨y0, y1, y2, y3, y4, y5⟩ := hcq w (Below.refl _ _) (rdc ts x) (by rw [hx])
    have hE : ((eqL L)[12]?).map (posD ts) = some (posD ts x) := by rw [List.getElem?_eq_getElem hq, ← hx]; rfl
    rw [hvq] at hv
    cases hv
    have ht := HO.out.tok hxm
    have hpos := rdc_pos ts x
    have hp12 : posD ts x ≤ 1500 := hp _
    have HTX := hide ht
    have HPX := hide hpos
    have i1 : (12 : Int) < ((eqL L).length : Int) := by omega
    clear hcq hxm hx ht hpos
    by_cases hi4 : 4 < (inL L).length
    · obtain ⟨gi, cI, hvi, hgi, hci⟩ := row_at HR.out.ins hi4
      obtain ⟨z, hz⟩ : ∃ z, z = (inL L)[4]'hi4 := ⟨_, rfl⟩
      have hzm : z ∈ L := (List.mem_filter.1 (by rw [hz]; exact List.getElem_mem hi4)).1
      have hI : ((inL L)[4]?).map (posD ts) = some (posD ts z) := by rw [List.getElem?_eq_getElem hi4, ← hz]; rfl
      rw [hvi] at hi
      cases hi
      have hti := HO.out.tok hzm
      have hposi := rdc_pos ts z
      have hp4 : posD ts z ≤ 1500 := hp _
      have HCI := hide (fun wr hb => hci wr hb (rdc ts z) (by rw [hz]))
      have HTI := hide hti
      have HPI := hide hposi
      have i2 : (4 : Int) < ((inL L).length : Int) := by omega
      clear hci hzm hz hti hposi
      go_enter Try.func60, Try.ntmps60
      go_wp2_with fail
      refine (rplace_any w q g cap ts L _ _ _ _ HR.out (rdc ts x) HTX.out).mono ?_
      rintro e w1 ⟨rfl, hb1⟩
      rw [HPX.out]
      obtain ⟨n1, hn1⟩ : ∃ n, n = posD ts x := ⟨_, rfl⟩
      rw [← hn1]
      rw [← hn1] at hp12
      have HN1 := hide hn1
      have HB1 := hide hb1
      have c3' := (hb1.cell (p := ⟨q, 3, none⟩) HR.out.lt).trans c3
      clear hn1 y0 y1 y2 y3 y4 y5 c3 c4 hb1
      obtain ⟨z0, z1, z2, z3, z4, z5⟩ := HCI.out w1 HB1.out
      go_wp2_with fail
      refine (rplace_any w1 q g cap ts L _ _ _ _ (HR.out.below HB1.out) (rdc ts z) HTI.out).mono ?_
      rintro e w2 ⟨rfl, hb2⟩
      rw [HPI.out]
      obtain ⟨n2, hn2⟩ : ∃ n, n = posD ts z := ⟨_, rfl⟩
      rw [← hn2]
      rw [← hn2] at hp4
      have HN2 := hide hn2
      have HB2 := hide hb2
      clear hn2 hb2
      have m1 : ¬ (n1 : Int) < 0 := by omega
      by_cases hlt : n2 < n1
      · have m2 : (n2 : Int) < (n1 : Int) := by omega
        have HF : Hid (manyR ts L = some n2) := hide (by unfold manyR; rw [hE, hI, ← HN1.out, ← HN2.out]; simp only [less]; rw [if_pos hlt])
        clear hlt hE hI
        go_wp2
        go_ret
        exact ⟨by rw [HF.out]; rfl, HB1.out.trans (HB2.out.mono HB1.out.size)⟩
      · have m2 : ¬ (n2 : Int) < (n1 : Int) := by omega
        have HF : Hid (manyR ts L = some n1) := hide (by unfold manyR; rw [hE, hI, ← HN1.out, ← HN2.out]; simp only [less]; rw [if_neg hlt])
        clear hlt hE hI
        go_wp2
        go_ret
        exact ⟨by rw [HF.out]; rfl, HB1.out.trans (HB2.out.mono HB1.out.size)⟩
    · have i2 : ¬ (4 : Int) < ((inL L).length : Int) := by omega
      have hI : ((inL L)[4]?).map (posD ts) = none := by rw [List.getElem?_eq_none (by omega)]; rfl
      go_enter Try.func60, Try.ntmps60
      go_wp2_with fail
      refine (rplace_any w q g cap ts L _ _ _ _ HR.out (rdc ts x) HTX.out).mono ?_
      rintro e w1 ⟨rfl, hb1⟩
      rw [HPX.out]
      obtain ⟨n1, hn1⟩ : ∃ n, n = posD ts x := ⟨_, rfl⟩
      rw [← hn1]
      rw [← hn1] at hp12
      have HN1 := hide hn1
      have HB1 := hide hb1
      have c3' := (hb1.cell (p := ⟨q, 3, none⟩) HR.out.lt).trans c3
      clear hn1 y0 y1 y2 y3 y4 y5 c3 c4 hb1
      have HF : Hid (manyR ts L = some n1) := hide (by unfold manyR; rw [hE, hI, ← HN1.out]; rfl)
      clear hE hI
      go_wp2
      go_ret
      exact ⟨by rw [HF.out]; rfl, HB1.out⟩
  · have i1 : ¬ (12 : Int) < ((eqL L).length : Int) := by omega
    have hE : ((eqL L)[12]?).map (posD ts) = none := by rw [List.getElem?_eq_none (by omega)]; rfl
    by_cases hi4 : 4 < (inL L).length
    · obtain ⟨gi, cI, hvi, hgi, hci⟩ := row_at HR.out.ins hi4
      obtain ⟨z, hz⟩ : ∃ z, z = (inL L)[4]'hi4 := ⟨_, rfl⟩
      have hzm : z ∈ L := (List.mem_filter.1 (by rw [hz]; exact List.getElem_mem hi4)).1
      have hI : ((inL L)[4]?).map (posD ts) = some (posD ts z) := by rw [List.getElem?_eq_getElem hi4, ← hz]; rfl
      rw [hvi] at hi
      cases hi
      have hti := HO.out.tok hzm
      have hposi := rdc_pos ts z
      have hp4 : posD ts z ≤ 1500 := hp _
      have HCI := hide (fun wr hb => hci wr hb (rdc ts z) (by rw [hz]))
      have HTI := hide hti
      have HPI := hide hposi
      have i2 : (4 : Int) < ((inL L).length : Int) := by omega
      clear hci hzm hz hti hposi
      obtain ⟨z0, z1, z2, z3, z4, z5⟩ := HCI.out w (Below.refl _ _)
      go_enter Try.func60, Try.ntmps60
      go_wp2_with fail
      refine (rplace_any w q g cap ts L _ _ _ _ HR.out (rdc ts z) HTI.out).mono ?_
      rintro e w2 ⟨rfl, hb2⟩
      rw [HPI.out]
      obtain ⟨n2, hn2⟩ : ∃ n, n = posD ts z := ⟨_, rfl⟩
      rw [← hn2]
      rw [← hn2] at hp4
      have HN2 := hide hn2
      have HB2 := hide hb2
      clear hn2 hb2
      have HF : Hid (manyR ts L = some n2) := hide (by unfold manyR; rw [hE, hI, ← HN2.out]; rfl)
      clear hE hI
      go_wp2
      go_ret
      exact ⟨by rw [HF.out]; rfl, HB2.out⟩
    · have i2 : ¬ (4 : Int) < ((inL L).length : Int) := by omega
      have hI : ((inL L)[4]?).map (posD ts) = none := by rw [List.getElem?_eq_none (by omega)]; rfl
      have HF : Hid (manyR ts L = none) := hide (by unfold manyR; rw [hE, hI]; rfl)
      clear hE hI
      go_enter Try.func60, Try.ntmps60
      go_wp2_with fail
      go_ret
      exact ⟨by rw [HF.out]; rfl, Below.refl _ _⟩

end Go.Proofs.Ytmndgoapkmhglab
