import Derived.Test.YtmndgoapkmhglaaDoorM19RefJ
import Derived.Test.YtmndgoapkmhglaaDoorM38RefO
import Derived.Test.YtmndgoapkmhglaaDoorM41RefM
namespace Go.Proofs.YtmndgoapkmhglaaDoor
open Go.RowKit
attribute [local go_sem ↓] Go.wp_at_zero Go.wp_at_succ

set_option maxHeartbeats 2000000 in
set_option maxRecDepth 100000 in
theorem rcycle_any (w : World) (q g cap : Nat) (ts : List Tk) (L : List Dl) (vE vA vI vQ : Value) (h : RProg w q g cap ts L vE vA vI vQ) (ho : ROk ts L) :
    Calls Tryd.prog 23 #[.pointer (some ⟨q, 0, none⟩)] w fun e w' => e = .returned (optI (cycR ts L)) ∧ Below w.heap.size w w' := by
  obtain ⟨hm1, hm2, hm3⟩ := ho.many
  obtain ⟨av, cv, rfl, hsh⟩ := own_shape h.eqs
  have c4 := h.c4
  have HR := hide h
  have HO := hide ho
  have HSH := hide hsh
  clear h ho hsh
  go_enter Tryd.func23, Tryd.ntmps23
  go_wp2_with fail
  refine (rsquare_any w (eqL L).length hm2).mono ?_
  rintro e w1 ⟨v, rs, rfl, hrl, hown, hrows, hnd, hb1⟩
  obtain ⟨a, g2, cap2, R, rfl, hag, hmat, hRB, hg2⟩ := square_mat hrl hown hrows hnd
  have HAG := hide hag
  have HRB := hide hRB
  have HM1 := hide hmat
  have c4' := (HR.out.below hb1).c4
  clear hrl hown hrows hnd hag hmat hRB c4
  go_wp2
  -- the rows, marked as far as row k
  go_loopw [4] (fun i wr => ∃ (k : Nat) (M : Mx), k ≤ (eqL L).length ∧ i = .int .i64 k ∧ Mat wr g2 (eqL L).length R M ∧ Below w.heap.size w wr ∧ agree (eqL L).length M (fun i j => if i < k then relR ts L i j else false)) (fun i _ => (eqL L).length - (intOf i).toNat)
  case atStart => exact ⟨0, noM, Nat.zero_le _, rfl, HM1.out, hb1, fun i j _ _ => by simp [noM]⟩
  case round =>
    clear HM1 hb1 c4'
    obtain ⟨k, M, hk, rfl, hmat, hbel, hagr⟩ := hrel
    have c4 := (HR.out.below hbel).c4
    have HMAT := hide hmat
    have HAGR := hide hagr
    clear hmat hagr
    by_cases hlt : k < (eqL L).length
    · have hag := HAG.out (by omega)
      subst hag
      obtain ⟨gq, hgq, _, hgq2⟩ := HSH.out (by omega)
      subst hgq
      have j1 : (0 : Int) ≤ (k : Int) := by omega
      have j2 : (k : Int) < ((eqL L).length : Int) := by omega
      obtain ⟨x, hx⟩ : ∃ x, x = (eqL L)[k]'hlt := ⟨_, rfl⟩
      have HXM : Hid (x ∈ eqL L) := hide (by rw [hx]; exact List.getElem_mem hlt)
      have HX := hide hx
      clear hx
      go_wp2
      go_loopw [5] (fun i wr => ∃ (m : Nat) (M : Mx), m ≤ (eqL L).length ∧ i = .int .i64 m ∧ Mat wr g2 (eqL L).length R M ∧ Below w.heap.size w wr ∧ agree (eqL L).length M (fun i j => if i < k ∨ (i = k ∧ j < m) then relR ts L i j else false)) (fun i _ => (eqL L).length - (intOf i).toNat)
      case atStart => exact ⟨0, M, Nat.zero_le _, rfl, HMAT.out, hbel, fun i j hi hj => by rw [HAGR.out i j hi hj]; simp⟩
      case round =>
        clear HMAT HAGR c4 hbel
        obtain ⟨m, M2, hm, rfl, hmat, hbel, hagr⟩ := hrel
        have c4 := (HR.out.below hbel).c4
        by_cases hml : m < (eqL L).length
        · have j3 : (0 : Int) ≤ (m : Int) := by omega
          have j4 : (m : Int) < ((eqL L).length : Int) := by omega
          obtain ⟨d, hd⟩ : ∃ d, d = rdc ts x := ⟨_, rfl⟩
          obtain ⟨y0, y1, y2, y3, y4, y5⟩ := rd_later HR.out.eqs hbel hgq2 hlt d (by rw [hd, HX.out])
          obtain ⟨z, hz⟩ : ∃ z, z = (eqL L)[m]'hml := ⟨_, rfl⟩
          obtain ⟨z0, _⟩ := rd_later HR.out.eqs hbel hgq2 hml (rdc ts z) (by rw [hz])
          rw [(rdc_tok ts z).2] at z0
          have o1 := hmat.outer k hlt
          have o2 := hmat.cell hlt hml
          have o3 := hmat.froz hlt m
          have HMAT := hide hmat
          have HAGR := hide hagr
          have HD := hide hd
          have HREL : Hid (relR ts L k m = hangsR ts x (nameD ts z).data.toList) := hide (by unfold relR; rw [List.getElem?_eq_getElem hlt, List.getElem?_eq_getElem hml, ← HX.out, ← hz])
          generalize nameD ts z = nm at z0 HREL
          clear hmat hagr hd hz
          have HRP := hide (HR.out.below hbel)
          have HBL := hide hbel
          have HCALL : Hid (∀ W, RProg W q g cap ts L vE vA vI (.slice (some ⟨gq, 0, none⟩) (eqL L).length cv) → Calls Tryd.prog 44 #[.pointer (some ⟨q, 0, none⟩), .agg #[.string d.name, .int .i64 (d.tok : Int), .bool d.input, .bool d.truth, .int .i64 (d.place : Int), .int .i64 (d.body : Int)], .string nm] W fun e w' => e = .returned (.bool (hangsR ts x nm.data.toList)) ∧ Below W.heap.size W w') := hide (fun W hW => by
            have hd := HD.out
            subst hd
            exact rhangs_any W q g cap ts L _ _ _ _ hW HO.out x HXM.out nm)
          have l1 := HRP.out.lt
          have l2 : gq < wr.heap.size := by have := hbel.size; omega
          have l3 := HMAT.out.lt (show 0 < (eqL L).length by omega)
          have l4 := World.rowIs.lt (HMAT.out.rows k hlt)
          generalize hangsR ts x nm.data.toList = hg at HREL HCALL
          have lk := HRB.out k hlt
          have lq := HR.out.lt
          have n1 : R k ≠ q := by omega
          have n2 : R k ≠ gq := by omega
          have n3 : R k ≠ g2 := HMAT.out.ne k hlt
          have n1' : q ≠ R k := by omega
          have n2' : gq ≠ R k := by omega
          have n3' : g2 ≠ R k := Ne.symm n3
          go_wp2_with fail
          go_region_held3 (fun w' => w'.cell? ⟨q, 4, none⟩ = some (.slice (some ⟨gq, 0, none⟩) (eqL L).length cv) ∧ w'.cell? ⟨gq, k * 6, none⟩ = some (.string d.name) ∧ w'.cell? ⟨gq, k * 6 + 1, none⟩ = some (.int .i64 (d.tok : Int)) ∧ w'.cell? ⟨gq, k * 6 + 2, none⟩ = some (.bool d.input) ∧ w'.cell? ⟨gq, k * 6 + 3, none⟩ = some (.bool d.truth) ∧ w'.cell? ⟨gq, k * 6 + 4, none⟩ = some (.int .i64 (d.place : Int)) ∧ w'.cell? ⟨gq, k * 6 + 5, none⟩ = some (.int .i64 (d.body : Int)) ∧ w'.cell? ⟨gq, m * 6, none⟩ = some (.string nm) ∧ w'.cell? ⟨g2, k, none⟩ = some (.slice (some ⟨R k, 0, none⟩) (eqL L).length (eqL L).length)) (first | go_keep | exact ⟨(World.cell?_setCell_other _ _ _ _ (fun e => n1 (congrArg Addr.block e))).trans t0, (World.cell?_setCell_other _ _ _ _ (fun e => n2 (congrArg Addr.block e))).trans t1, (World.cell?_setCell_other _ _ _ _ (fun e => n2 (congrArg Addr.block e))).trans t2, (World.cell?_setCell_other _ _ _ _ (fun e => n2 (congrArg Addr.block e))).trans t3, (World.cell?_setCell_other _ _ _ _ (fun e => n2 (congrArg Addr.block e))).trans t4, (World.cell?_setCell_other _ _ _ _ (fun e => n2 (congrArg Addr.block e))).trans t5, (World.cell?_setCell_other _ _ _ _ (fun e => n2 (congrArg Addr.block e))).trans t6, (World.cell?_setCell_other _ _ _ _ (fun e => n2 (congrArg Addr.block e))).trans t7, (World.cell?_setCell_other _ _ _ _ (fun e => n3 (congrArg Addr.block e))).trans t8⟩)
            ((go_at_call 44; refine (HCALL.out _ (HRP.out.below ((Below.refl _ _).drew))).mono ?_; rintro e w2 ⟨rfl, hbF⟩; have t0 := (hbF.cell (p := ⟨q, 4, none⟩) l1).trans c4; have t1 := (hbF.cell (p := ⟨gq, k * 6, none⟩) l2).trans y0; have t2 := (hbF.cell (p := ⟨gq, k * 6 + 1, none⟩) l2).trans y1; have t3 := (hbF.cell (p := ⟨gq, k * 6 + 2, none⟩) l2).trans y2; have t4 := (hbF.cell (p := ⟨gq, k * 6 + 3, none⟩) l2).trans y3; have t5 := (hbF.cell (p := ⟨gq, k * 6 + 4, none⟩) l2).trans y4; have t6 := (hbF.cell (p := ⟨gq, k * 6 + 5, none⟩) l2).trans y5; have t7 := (hbF.cell (p := ⟨gq, m * 6, none⟩) l2).trans z0; have t8 := (hbF.cell (p := ⟨g2, k, none⟩) l3).trans o1; have t9 := (hbF.cell (p := ⟨R k, m, none⟩) l4).trans o2; have tf := (hbF.frozen (p := ⟨R k, m, none⟩) l4).trans o3))
          rename_i hHeld
          clear hHeld
          have HM2 : Hid (Mat w2 g2 (eqL L).length R M2) := hide (HMAT.out.keep (hbF.block g2 l3) (fun i hi => hbF.block (R i) (World.rowIs.lt (HMAT.out.rows i hi))))
          have HB2 : Hid (Below w.heap.size w w2) := hide (HBL.out.drew.trans (hbF.mono HBL.out.size))
          clear hbF t0 t1 t2 t3 t4 t5 t6 t7 t8 t9 tf y0 y1 y2 y3 y4 y5 z0 o1 o2 o3 c4
          go_wp2
          go_roundw
          case rel =>
            refine ⟨m + 1, upd M2 k m hg, by omega, by go_num, HM2.out.set hlt m hg, HB2.out.setCell lk _, fun i j hi hj => ?_⟩
            show upd M2 k m hg i j = if i < k ∨ (i = k ∧ j < m + 1) then relR ts L i j else false
            unfold upd
            by_cases e : i = k ∧ j = m
            · obtain ⟨rfl, rfl⟩ := e
              rw [if_pos ⟨rfl, rfl⟩, if_pos (by omega)]; exact HREL.out.symm
            · rw [if_neg e, HAGR.out i j hi hj]
              show (if i < k ∨ (i = k ∧ j < m) then relR ts L i j else false) = _
              by_cases e2 : i < k ∨ (i = k ∧ j < m)
              · rw [if_pos e2, if_pos (by omega)]
              · rw [if_neg e2, if_neg (by omega)]
          case measure => simp [intOf]; omega
        · have HMAT := hide hmat
          have HAGR := hide hagr
          clear hmat hagr
          go_wp2
          go_roundw
          case rel => exact ⟨k + 1, M2, by omega, by go_num, HMAT.out, hbel, fun i j hi hj => by
            rw [HAGR.out i j hi hj]
            show (if i < k ∨ (i = k ∧ j < m) then relR ts L i j else false) = if i < k + 1 then relR ts L i j else false
            by_cases e : i < k ∨ (i = k ∧ j < m)
            · rw [if_pos e, if_pos (by omega)]
            · rw [if_neg e, if_neg (by omega)]⟩
          case measure => simp [intOf]; omega
    · have ek : k = (eqL L).length := by omega
      subst ek
      have HMR : Hid (Mat wr g2 (eqL L).length R (relR ts L)) := hide (HMAT.out.congr (fun i j hi hj => by rw [HAGR.out i j hi hj]; show (if i < (eqL L).length then _ else _) = _; rw [if_pos hi]))
      have z1 : ¬ ((eqL L).length : Int) < ((eqL L).length : Int) := by omega
      clear HMAT HAGR
      go_wp2_with fail
      refine (rcircles_any wr a g2 (eqL L).length cap2 w.heap.size R (relR ts L) HMR.out HAG.out hm2 hbel.size HRB.out).mono ?_
      rintro e2 w2 ⟨G, rfl, hG, hrow, hb2⟩
      have hbel2 : Below w.heap.size w w2 := hbel.trans hb2
      have HCY : Hid (firstC ts (warsh (relR ts L) (eqL L).length) 0 ((eqL L).drop 0) = cycR ts L) := hide rfl
      generalize warsh (relR ts L) (eqL L).length = W at hrow HCY
      have c4'' := (HR.out.below hbel2).c4
      have HROW := hide hrow
      clear hrow hb2 hbel c4 HMR
      go_wp2
      go_loopw [7] (fun i wx => ∃ m : Nat, m ≤ (eqL L).length ∧ i = .int .i64 m ∧ wx.rowIs G 4 (eqL L).length (fun i => .bool (W i i)) ∧ Below w.heap.size w wx ∧ firstC ts W m ((eqL L).drop m) = cycR ts L) (fun i _ => (eqL L).length - (intOf i).toNat)
      case atStart => exact ⟨0, Nat.zero_le _, rfl, HROW.out, hbel2, HCY.out⟩
      case round =>
        clear HROW hbel2 c4'' HCY
        obtain ⟨m, hm, rfl, hrow, hbel, hrec⟩ := hrel
        have c4 := (HR.out.below hbel).c4
        by_cases hml : m < (eqL L).length
        · obtain ⟨gq, hgq, _, hgq2⟩ := HSH.out (by omega)
          subst hgq
          obtain ⟨x, hx⟩ : ∃ x, x = (eqL L)[m]'hml := ⟨_, rfl⟩
          have hxm : x ∈ L := (HO.out.eq (by rw [hx]; exact List.getElem_mem hml)).1
          have ht := HO.out.tok hxm
          have hpos := rdc_pos ts x
          obtain ⟨y0, y1, y2, y3, y4, y5⟩ := rd_later HR.out.eqs hbel hgq2 hml (rdc ts x) (by rw [hx])
          rw [List.drop_eq_getElem_cons hml, ← hx] at hrec
          simp only [firstC] at hrec
          have r1 := hrow.cell hml
          have HRC := hide hrec
          have HRW := hide hrow
          have HRP := hide (HR.out.below hbel)
          have HPX := hide hpos
          have HTX := hide ht
          have j3 : (0 : Int) ≤ (m : Int) := by omega
          have j4 : (m : Int) < ((eqL L).length : Int) := by omega
          generalize rdc ts x = d at y0 y1 y2 y3 y4 y5 HPX HTX
          generalize W m m = b at r1 HRC
          clear hrec hrow hxm ht hx hpos
          cases b
          · have HR2 : Hid (firstC ts W (m + 1) ((eqL L).drop (m + 1)) = cycR ts L) := hide (by rw [← HRC.out]; simp)
            clear HRC
            go_wp2
            go_roundw
            case rel => exact ⟨m + 1, by omega, by go_num, HRW.out, hbel, HR2.out⟩
            case measure => simp [intOf]; omega
          · have HR2 : Hid (cycR ts L = some (posD ts x)) := hide (by rw [← HRC.out]; simp)
            clear HRC
            go_wp2_with fail
            refine (rplace_any _ q g cap ts L _ _ _ _ HRP.out d HTX.out).mono ?_
            rintro e3 w3 ⟨rfl, hb3⟩
            rw [HPX.out]
            go_wp2
            go_ret
            exact ⟨by rw [HR2.out]; rfl, hbel.trans (hb3.mono hbel.size)⟩
        · have em : m = (eqL L).length := by omega
          subst em
          rw [List.drop_length] at hrec
          have HRC := hide hrec
          have z2 : ¬ ((eqL L).length : Int) < ((eqL L).length : Int) := by omega
          clear hrec hrow
          go_wp2
          go_ret
          exact ⟨by rw [← HRC.out]; rfl, hbel⟩

end Go.Proofs.YtmndgoapkmhglaaDoor

namespace Go.Proofs.YtmndgoapkmhglaaDoor
open Go.RowKit
attribute [local go_sem ↓] Go.wp_at_zero Go.wp_at_succ

theorem any_take_succ {α : Type} (p : α → Bool) (l : List α) (m : Nat) (h : m < l.length) : (l.take (m + 1)).any p = ((l.take m).any p || p (l[m]'h)) := by
  rw [List.take_succ_eq_append_getElem h, List.any_append]; simp

theorem find_range {p : Nat → Bool} (n k : Nat) (h : k < n) : (List.range' k (n - k)).find? p = if p k = true then some k else (List.range' (k + 1) (n - (k + 1))).find? p := by
  rw [show n - k = (n - (k + 1)) + 1 by omega, List.range'_succ, List.find?_cons]
  cases p k <;> rfl

set_option maxHeartbeats 2000000 in
set_option maxRecDepth 100000 in
theorem rnames_any (w : World) (q g cap : Nat) (ts : List Tk) (L : List Dl) (vE vA vI vQ : Value) (h : RProg w q g cap ts L vE vA vI vQ) (ho : ROk ts L) (hp : ∀ i, (tkAt ts i).pos ≤ 1500) :
    Calls Tryd.prog 21 #[.pointer (some ⟨q, 0, none⟩)] w fun e w' => e = .returned (optI (namesR ts L)) ∧ Below w.heap.size w w' := by
  obtain ⟨av, cv, rfl, hsh⟩ := own_shape h.all
  obtain ⟨hm1, hm2, hm3⟩ := ho.many
  have c0 := h.c0
  have hlen := ho.len
  have HR := hide h
  have HO := hide ho
  have HP := hide hp
  have HSH := hide hsh
  clear h ho hp hsh
  go_enter Tryd.func21, Tryd.ntmps21
  go_wp2
  go_loopw [3] (fun i wr => ∃ (k : Nat), k ≤ ts.length ∧ i = .int .i64 k ∧ Below w.heap.size w wr ∧ ((List.range' k (ts.length - k)).find? (badNm ts L)).map (fun k => (tkAt ts k).pos) = namesR ts L) (fun i _ => ts.length - (intOf i).toNat)
  case atStart => exact ⟨0, Nat.zero_le _, rfl, Below.refl _ _, rfl⟩
  case round =>
    clear c0
    obtain ⟨k, hk, rfl, hbel, hrec⟩ := hrel
    have c0 := (HR.out.below hbel).c0
    by_cases hlt : k < ts.length
    · obtain ⟨a, ha⟩ : ∃ a, a = rtok (tkAt ts k) := ⟨_, rfl⟩
      obtain ⟨x0, x1, x2, x3⟩ := HR.out.toks.cells hbel hlt a ha
      have j1 : (0 : Int) ≤ (k : Int) := by omega
      have j2 : (k : Int) < (ts.length : Int) := by omega
      rw [find_range _ _ hlt] at hrec
      have hc := c97 (tkAt ts k)
      rw [← ha] at hc
      by_cases hnm : (tkAt ts k).kind = 1
      · have q1 : ((a.c : Int) != 97) = false := by
          have hc' : a.c = 97 := by rw [hnm] at hc; simpa using hc
          rw [hc']; rfl
        have hw : a.word = (tkAt ts k).text := by rw [ha]; unfold rtok; simp [hnm]
        have hbn : badNm ts L k = qNm ts L k := by unfold badNm isNm; rw [hnm]; rfl
        rw [hbn] at hrec
        have HRC := hide hrec
        have HWD := hide hw
        have HPO : Hid ((tkAt ts k).pos = a.pos) := hide (by rw [ha]; rfl)
        have c2 : ∀ o, (wr.alloc o).cell? ⟨q, 2, none⟩ = some (.slice av L.length cv) := fun o => by rw [World.cell?_alloc_past _ _ _ (HR.out.below hbel).lt]; exact (HR.out.below hbel).c2
        clear hrec hbn hc hnm ha hw
        go_wp2
        generalize hB : wr.heap.size = B
        go_loopw [5, 6, 7, 8] (fun va vh vs vj wx => ∃ m : Nat, m ≤ L.length ∧ vj = .int .i64 m ∧ va = .bool (aheadR ts (L.take m) k) ∧ vh = .bool (hereR (L.take m) k) ∧ vs = .bool (someR ts (L.take m) k) ∧ Below w.heap.size w wx ∧ wx.cell? ⟨B, 1, none⟩ = some (.string a.word) ∧ wx.cell? ⟨B, 2, none⟩ = some (.int .i64 (a.pos : Int)) ∧ B < wx.heap.size ∧ w.heap.size ≤ B) (fun _ _ _ vj _ => L.length - (intOf vj).toNat)
        case atStart =>
          subst hB
          exact ⟨0, Nat.zero_le _, rfl, by simp [aheadR], by simp [hereR], by simp [someR], hbel.alloc hbel.size _, by simp, by simp, by simp, hbel.size⟩
        case round =>
          clear hB x0 x1 x2 x3 c0 c2 hbel
          obtain ⟨m, hm, rfl, rfl, rfl, rfl, hbx, t1, t2, hBl, hBw⟩ := hrel
          have c2 := (HR.out.below hbx).c2
          by_cases hml : m < L.length
          · obtain ⟨gA, capA, hvA, hgA, hcA⟩ := row_at HR.out.all hml
            cases hvA
            obtain ⟨x, hx⟩ : ∃ x, x = L[m]'hml := ⟨_, rfl⟩
            obtain ⟨d, hd⟩ : ∃ d, d = rdc ts x := ⟨_, rfl⟩
            obtain ⟨y0, y1, y2, y3, y4, y5⟩ := hcA wr hbx d (by rw [hd, hx])
            have hdt : d.tok = x.i + 1 ∧ d.name = nameD ts x := by rw [hd]; exact rdc_tok ts x
            have hdl : d.tok < ts.length := by rw [hd]; exact HO.out.tok (by rw [hx]; exact List.getElem_mem hml)
            obtain ⟨t, qT⟩ : ∃ t, ((d.tok : Int) == (k : Int)) = t := ⟨_, rfl⟩
            obtain ⟨e, qE⟩ : ∃ e, (d.name.toList == a.word.toList) = e := ⟨_, rfl⟩
            have eT : (x.i + 1 == k) = t := by rw [← qT, ← hdt.1, beq_cast]
            have eE : ((nameD ts x).data.toList == lAt ts k) = e := by
              rw [← qE, ← hdt.2, ByteArray.toList_eq, ByteArray.toList_eq, HWD.out]; rfl
            have eU : decide (x.i + 1 < k) = decide (d.tok < k) := by rw [hdt.1]
            have HH : Hid (hereR (L.take (m + 1)) k = (hereR (L.take m) k || t)) := hide (by
              unfold hereR; rw [any_take_succ _ _ _ hml, ← hx, eT])
            have HS : Hid (someR ts (L.take (m + 1)) k = (someR ts (L.take m) k || e)) := hide (by
              unfold someR; rw [any_take_succ _ _ _ hml, ← hx, eE])
            have HA : Hid (aheadR ts (L.take (m + 1)) k = (aheadR ts (L.take m) k || (e && decide (d.tok < k)))) := hide (by
              unfold aheadR; rw [any_take_succ _ _ _ hml, ← hx, eE, eU])
            generalize hereR (L.take m) k = b1 at HH ⊢
            generalize someR ts (L.take m) k = b2 at HS ⊢
            generalize aheadR ts (L.take m) k = b3 at HA ⊢
            have j3 : (0 : Int) ≤ (m : Int) := by omega
            have j4 : (m : Int) < (L.length : Int) := by omega
            have hc1 : b1 = true ∨ (b1 = false ∧ t = true) ∨ (b1 = false ∧ t = false) := by cases b1 <;> cases t <;> simp
            have hc2 : (b2 = true ∧ b3 = true) ∨ (b2 = true ∧ b3 = false ∧ e = false) ∨ (b2 = true ∧ b3 = false ∧ e = true) ∨ (b2 = false ∧ b3 = true ∧ e = true) ∨ (b2 = false ∧ b3 = true ∧ e = false) ∨ (b2 = false ∧ b3 = false ∧ e = false) ∨ (b2 = false ∧ b3 = false ∧ e = true) := by
              cases b2 <;> cases b3 <;> cases e <;> simp
            have HBX := hide hbx
            clear hcA hd hx hdt eT eE eU
            rcases hc1 with rfl | ⟨rfl, rfl⟩ | ⟨rfl, rfl⟩
            all_goals
              rcases hc2 with ⟨rfl, rfl⟩ | ⟨rfl, rfl, rfl⟩ | ⟨rfl, rfl, rfl⟩ | ⟨rfl, rfl, rfl⟩ | ⟨rfl, rfl, rfl⟩ | ⟨rfl, rfl, rfl⟩ | ⟨rfl, rfl, rfl⟩
            all_goals
              go_wp2
              go_roundw
              case rel => exact ⟨m + 1, by omega, by go_num, by rw [HA.out]; rfl, by rw [HH.out]; rfl, by rw [HS.out]; rfl, HBX.out.alloc HBX.out.size _, by rw [World.cell?_alloc_past _ _ _ hBl]; exact t1, by rw [World.cell?_alloc_past _ _ _ hBl]; exact t2, by simp; omega, hBw⟩
              case measure => simp [intOf]; omega
          · have em : m = L.length := by omega
            subst em
            rw [List.take_length]
            have z1 : ¬ (L.length : Int) < (L.length : Int) := by omega
            have hqn : qNm ts L k = ((hereR L k && aheadR ts L k) || !someR ts L k) := rfl
            have hrc := HRC.out
            rw [hqn] at hrc
            have hps := HP.out k
            rw [HPO.out] at hps
            generalize hereR L k = b1 at hrc ⊢
            generalize someR ts L k = b2 at hrc ⊢
            generalize aheadR ts L k = b3 at hrc ⊢
            have HRX := hide hrc
            have HBX := hide hbx
            clear hrc hqn
            cases b1 <;> cases b2 <;> cases b3
            all_goals
              first
              | (have HF : Hid (namesR ts L = some a.pos) := hide (by
                   rw [← HRX.out]
                   simp [HPO.out])
                 clear HRX HRC
                 go_wp2
                 go_ret
                 exact ⟨by rw [HF.out]; rfl, HBX.out⟩)
              | (have HN : Hid (((List.range' (k + 1) (ts.length - (k + 1))).find? (badNm ts L)).map (fun k => (tkAt ts k).pos) = namesR ts L) := hide (by
                   rw [← HRX.out]
                   simp)
                 clear HRX HRC
                 go_wp2
                 go_roundw
                 case rel => exact ⟨k + 1, by omega, by go_num, HBX.out, HN.out⟩
                 case measure => simp [intOf]; omega)
      · have q1 : ((a.c : Int) != 97) = true := by
          have hc' : a.c ≠ 97 := fun e => hnm (by rw [e] at hc; simpa using hc.symm)
          rw [bne_iff_ne]; omega
        have hb : badNm ts L k = false := badNm_no (by unfold isNm; exact beq_eq_false_iff_ne.2 hnm)
        rw [hb, if_neg (by simp)] at hrec
        have HRC := hide hrec
        clear hrec hb hc hnm ha
        go_wp2
        go_roundw
        case rel => exact ⟨k + 1, by omega, by go_num, hbel.alloc hbel.size _, HRC.out⟩
        case measure => simp [intOf]; omega
    · have e0 : ts.length - k = 0 := by omega
      rw [e0] at hrec
      have HF : Hid (namesR ts L = none) := hide (by rw [← hrec]; rfl)
      have z1 : ¬ (k : Int) < (ts.length : Int) := by omega
      clear hrec e0
      go_wp2
      go_ret
      exact ⟨by rw [HF.out]; rfl, hbel⟩

end Go.Proofs.YtmndgoapkmhglaaDoor
