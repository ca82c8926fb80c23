import Derived.BigRegion
import Derived.Deep.RegionLaw
import Derived.Test.YtmndgoapkmhglaaM10Wide
import Derived.Test.YtmndgoapkmhglaaM17AstO
import Derived.Test.YtmndgoapkmhglaaM28RefL
import Derived.Test.YtmndgoapkmhglaaM36RefX
import Derived.Test.YtmndgoapkmhglaaM37RefM
namespace Go.Proofs.Ytmndgoapkmhglaa
open Go.RowKit
attribute [local go_sem ↓] Go.wp_at_zero Go.wp_at_succ

set_option maxHeartbeats 2000000 in
set_option maxRecDepth 100000 in
theorem rcycle_any (w : World) (q g cap : Nat) (ts : List Tk) (L : List Dl) (vE vA vI vQ : Value) (h : RProg w q g cap ts L vE vA vI vQ) (ho : ROk ts L) :
    Calls Try.prog 76 #[.pointer (some ⟨q, 0, none⟩)] w fun e w' => e = .returned (optI (cycR ts L)) ∧ Below w.heap.size w w' := by
  obtain ⟨hm1, hm2, hm3⟩ := ho.many
  obtain ⟨av, cv, rfl, hsh⟩ := own_shape h.eqs
  have c4 := h.c4
  have HR := hide h
  have HO := hide ho
  have HSH := hide hsh
  clear h ho hsh
  go_enter Try.func76, Try.ntmps76
  go_wp2_with fail
  refine (rsquare_any w (eqL L).length hm2).mono ?_
  rintro e w1 ⟨v, rs, rfl, hrl, hown, hrows, hnd, hb1⟩
  obtain ⟨a, g2, cap2, R, rfl, hag, hmat, hRB, hg2⟩ := square_mat hrl hown hrows hnd
  have HAG := hide hag
  have HRB := hide hRB
  have HM1 := hide hmat
  have c4' := (HR.out.below hb1).c4
  clear hrl hown hrows hnd hag hmat hRB c4
  go_wp2
  -- the rows, marked as far as row k
  go_loopw [4] (fun i wr => ∃ (k : Nat) (M : Mx), k ≤ (eqL L).length ∧ i = .int .i64 k ∧ Mat wr g2 (eqL L).length R M ∧ Below w.heap.size w wr ∧ agree (eqL L).length M (fun i j => if i < k then relR ts L i j else false)) (fun i _ => (eqL L).length - (intOf i).toNat)
  case atStart => exact ⟨0, noM, Nat.zero_le _, rfl, HM1.out, hb1, fun i j _ _ => by simp [noM]⟩
  case round =>
    clear HM1 hb1 c4'
    obtain ⟨k, M, hk, rfl, hmat, hbel, hagr⟩ := hrel
    have c4 := (HR.out.below hbel).c4
    have HMAT := hide hmat
    have HAGR := hide hagr
    clear hmat hagr
    by_cases hlt : k < (eqL L).length
    · have hag := HAG.out (by omega)
      subst hag
      obtain ⟨gq, hgq, _, hgq2⟩ := HSH.out (by omega)
      subst hgq
      have j1 : (0 : Int) ≤ (k : Int) := by omega
      have j2 : (k : Int) < ((eqL L).length : Int) := by omega
      obtain ⟨x, hx⟩ : ∃ x, x = (eqL L)[k]'hlt := ⟨_, rfl⟩
      have HXM : Hid (x ∈ eqL L) := hide (by rw [hx]; exact List.getElem_mem hlt)
      have HX := hide hx
      clear hx
      go_wp2
      go_loopw [5] (fun i wr => ∃ (m : Nat) (M : Mx), m ≤ (eqL L).length ∧ i = .int .i64 m ∧ Mat wr g2 (eqL L).length R M ∧ Below w.heap.size w wr ∧ agree (eqL L).length M (fun i j => if i < k ∨ (i = k ∧ j < m) then relR ts L i j else false)) (fun i _ => (eqL L).length - (intOf i).toNat)
      case atStart => exact ⟨0, M, Nat.zero_le _, rfl, HMAT.out, hbel, fun i j hi hj => by rw [HAGR.out i j hi hj]; simp⟩
      case round =>
        clear HMAT HAGR c4 hbel
        obtain ⟨m, M2, hm, rfl, hmat, hbel, hagr⟩ := hrel
        have c4 := (HR.out.below hbel).c4
        by_cases hml : m < (eqL L).length
        · have j3 : (0 : Int) ≤ (m : Int) := by omega
          have j4 : (m : Int) < ((eqL L).length : Int) := by omega
          obtain ⟨d, hd⟩ : ∃ d, d = rdc ts x := ⟨_, rfl⟩
          obtain ⟨y0, y1, y2, y3, y4, y5⟩ := rd_later HR.out.eqs hbel hgq2 hlt d (by rw [hd, HX.out])
          obtain ⟨z, hz⟩ : ∃ z, z = (eqL L)[m]'hml := ⟨_, rfl⟩
          obtain ⟨z0, _⟩ := rd_later HR.out.eqs hbel hgq2 hml (rdc ts z) (by rw [hz])
          rw [(rdc_tok ts z).2] at z0
          have o1 := hmat.outer k hlt
          have o2 := hmat.cell hlt hml
          have o3 := hmat.froz hlt m
          have HMAT := hide hmat
          have HAGR := hide hagr
          have HD := hide hd
          have HREL : Hid (relR ts L k m = hangsR ts x (nameD ts z).data.toList) := hide (by unfold relR; rw [List.getElem?_eq_getElem hlt, List.getElem?_eq_getElem hml, ← HX.out, ← hz])
          generalize nameD ts z = nm at z0 HREL
          clear hmat hagr hd hz
          have HRP := hide (HR.out.below hbel)
          have HBL := hide hbel
          have HCALL : Hid (∀ W, RProg W q g cap ts L vE vA vI (.slice (some ⟨gq, 0, none⟩) (eqL L).length cv) → Calls Try.prog 115 #[.pointer (some ⟨q, 0, none⟩), .agg #[.string d.name, .int .i64 (d.tok : Int), .bool d.input, .bool d.truth, .int .i64 (d.place : Int), .int .i64 (d.body : Int)], .string nm] W fun e w' => e = .returned (.bool (hangsR ts x nm.data.toList)) ∧ Below W.heap.size W w') := hide (fun W hW => by
            have hd := HD.out
            subst hd
            exact rhangs_any W q g cap ts L _ _ _ _ hW HO.out x HXM.out nm)
          have l1 := HRP.out.lt
          have l2 : gq < wr.heap.size := by have := hbel.size; omega
          have l3 := HMAT.out.lt (show 0 < (eqL L).length by omega)
          have l4 := World.rowIs.lt (HMAT.out.rows k hlt)
          generalize hangsR ts x nm.data.toList = hg at HREL HCALL
          have lk := HRB.out k hlt
          have lq := HR.out.lt
          have n1 : R k ≠ q := by omega
          have n2 : R k ≠ gq := by omega
          have n3 : R k ≠ g2 := HMAT.out.ne k hlt
          have n1' : q ≠ R k := by omega
          have n2' : gq ≠ R k := by omega
          have n3' : g2 ≠ R k := Ne.symm n3
          go_wp2_with fail
          go_region_held3 (fun w' => w'.cell? ⟨q, 4, none⟩ = some (.slice (some ⟨gq, 0, none⟩) (eqL L).length cv) ∧ w'.cell? ⟨gq, k * 6, none⟩ = some (.string d.name) ∧ w'.cell? ⟨gq, k * 6 + 1, none⟩ = some (.int .i64 (d.tok : Int)) ∧ w'.cell? ⟨gq, k * 6 + 2, none⟩ = some (.bool d.input) ∧ w'.cell? ⟨gq, k * 6 + 3, none⟩ = some (.bool d.truth) ∧ w'.cell? ⟨gq, k * 6 + 4, none⟩ = some (.int .i64 (d.place : Int)) ∧ w'.cell? ⟨gq, k * 6 + 5, none⟩ = some (.int .i64 (d.body : Int)) ∧ w'.cell? ⟨gq, m * 6, none⟩ = some (.string nm) ∧ w'.cell? ⟨g2, k, none⟩ = some (.slice (some ⟨R k, 0, none⟩) (eqL L).length (eqL L).length)) (first | go_keep | exact ⟨(World.cell?_setCell_other _ _ _ _ (fun e => n1 (congrArg Addr.block e))).trans t0, (World.cell?_setCell_other _ _ _ _ (fun e => n2 (congrArg Addr.block e))).trans t1, (World.cell?_setCell_other _ _ _ _ (fun e => n2 (congrArg Addr.block e))).trans t2, (World.cell?_setCell_other _ _ _ _ (fun e => n2 (congrArg Addr.block e))).trans t3, (World.cell?_setCell_other _ _ _ _ (fun e => n2 (congrArg Addr.block e))).trans t4, (World.cell?_setCell_other _ _ _ _ (fun e => n2 (congrArg Addr.block e))).trans t5, (World.cell?_setCell_other _ _ _ _ (fun e => n2 (congrArg Addr.block e))).trans t6, (World.cell?_setCell_other _ _ _ _ (fun e => n2 (congrArg Addr.block e))).trans t7, (World.cell?_setCell_other _ _ _ _ (fun e => n3 (congrArg Addr.block e))).trans t8⟩)
            ((go_at_call 115; refine (HCALL.out _ (HRP.out.below ((Below.refl _ _).drew))).mono ?_; rintro e w2 ⟨rfl, hbF⟩; have t0 := (hbF.cell (p := ⟨q, 4, none⟩) l1).trans c4; have t1 := (hbF.cell (p := ⟨gq, k * 6, none⟩) l2).trans y0; have t2 := (hbF.cell (p := ⟨gq, k * 6 + 1, none⟩) l2).trans y1; have t3 := (hbF.cell (p := ⟨gq, k * 6 + 2, none⟩) l2).trans y2; have t4 := (hbF.cell (p := ⟨gq, k * 6 + 3, none⟩) l2).trans y3; have t5 := (hbF.cell (p := ⟨gq, k * 6 + 4, none⟩) l2).trans y4; have t6 := (hbF.cell (p := ⟨gq, k * 6 + 5, none⟩) l2).trans y5; have t7 := (hbF.cell (p := ⟨gq, m * 6, none⟩) l2).trans z0; have t8 := (hbF.cell (p := ⟨g2, k, none⟩) l3).trans o1; have t9 := (hbF.cell (p := ⟨R k, m, none⟩) l4).trans o2; have tf := (hbF.frozen (p := ⟨R k, m, none⟩) l4).trans o3))
          rename_i hHeld
          clear hHeld
          have HM2 : Hid (Mat w2 g2 (eqL L).length R M2) := hide (HMAT.out.keep (hbF.block g2 l3) (fun i hi => hbF.block (R i) (World.rowIs.lt (HMAT.out.rows i hi))))
          have HB2 : Hid (Below w.heap.size w w2) := hide (HBL.out.drew.trans (hbF.mono HBL.out.size))
          clear hbF t0 t1 t2 t3 t4 t5 t6 t7 t8 t9 tf y0 y1 y2 y3 y4 y5 z0 o1 o2 o3 c4
          go_wp2
          go_roundw
          case rel =>
            refine ⟨m + 1, upd M2 k m hg, by omega, by go_num, HM2.out.set hlt m hg, HB2.out.setCell lk _, fun i j hi hj => ?_⟩
            show upd M2 k m hg i j = if i < k ∨ (i = k ∧ j < m + 1) then relR ts L i j else false
            unfold upd
            by_cases e : i = k ∧ j = m
            · obtain ⟨rfl, rfl⟩ := e
              rw [if_pos ⟨rfl, rfl⟩, if_pos (by omega)]; exact HREL.out.symm
            · rw [if_neg e, HAGR.out i j hi hj]
              show (if i < k ∨ (i = k ∧ j < m) then relR ts L i j else false) = _
              by_cases e2 : i < k ∨ (i = k ∧ j < m)
              · rw [if_pos e2, if_pos (by omega)]
              · rw [if_neg e2, if_neg (by omega)]
          case measure => simp [intOf]; omega
        · have HMAT := hide hmat
          have HAGR := hide hagr
          clear hmat hagr
          go_wp2
          go_roundw
          case rel => exact ⟨k + 1, M2, by omega, by go_num, HMAT.out, hbel, fun i j hi hj => by
            rw [HAGR.out i j hi hj]
            show (if i < k ∨ (i = k ∧ j < m) then relR ts L i j else false) = if i < k + 1 then relR ts L i j else false
            by_cases e : i < k ∨ (i = k ∧ j < m)
            · rw [if_pos e, if_pos (by omega)]
            · rw [if_neg e, if_neg (by omega)]⟩
          case measure => simp [intOf]; omega
    · have ek : k = (eqL L).length := by omega
      subst ek
      have HMR : Hid (Mat wr g2 (eqL L).length R (relR ts L)) := hide (HMAT.out.congr (fun i j hi hj => by rw [HAGR.out i j hi hj]; show (if i < (eqL L).length then _ else _) = _; rw [if_pos hi]))
      have z1 : ¬ ((eqL L).length : Int) < ((eqL L).length : Int) := by omega
      clear HMAT HAGR
      go_wp2_with fail
      refine (rcircles_any wr a g2 (eqL L).length cap2 w.heap.size R (relR ts L) HMR.out HAG.out hm2 hbel.size HRB.out).mono ?_
      rintro e2 w2 ⟨G, rfl, hG, hrow, hb2⟩
      have hbel2 : Below w.heap.size w w2 := hbel.trans hb2
      have HCY : Hid (firstC ts (warsh (relR ts L) (eqL L).length) 0 ((eqL L).drop 0) = cycR ts L) := hide rfl
      generalize warsh (relR ts L) (eqL L).length = W at hrow HCY
      have c4'' := (HR.out.below hbel2).c4
      have HROW := hide hrow
      clear hrow hb2 hbel c4 HMR
      go_wp2
      go_loopw [7] (fun i wx => ∃ m : Nat, m ≤ (eqL L).length ∧ i = .int .i64 m ∧ wx.rowIs G 4 (eqL L).length (fun i => .bool (W i i)) ∧ Below w.heap.size w wx ∧ firstC ts W m ((eqL L).drop m) = cycR ts L) (fun i _ => (eqL L).length - (intOf i).toNat)
      case atStart => exact ⟨0, Nat.zero_le _, rfl, HROW.out, hbel2, HCY.out⟩
      case round =>
        clear HROW hbel2 c4'' HCY
        obtain ⟨m, hm, rfl, hrow, hbel, hrec⟩ := hrel
        have c4 := (HR.out.below hbel).c4
        by_cases hml : m < (eqL L).length
        · obtain ⟨gq, hgq, _, hgq2⟩ := HSH.out (by omega)
          subst hgq
          obtain ⟨x, hx⟩ : ∃ x, x = (eqL L)[m]'hml := ⟨_, rfl⟩
          have hxm : x ∈ L := (HO.out.eq (by rw [hx]; exact List.getElem_mem hml)).1
          have ht := HO.out.tok hxm
          have hpos := rdc_pos ts x
          obtain ⟨y0, y1, y2, y3, y4, y5⟩ := rd_later HR.out.eqs hbel hgq2 hml (rdc ts x) (by rw [hx])
          rw [List.drop_eq_getElem_cons hml, ← hx] at hrec
          simp only [firstC] at hrec
          have r1 := hrow.cell hml
          have HRC := hide hrec
          have HRW := hide hrow
          have HRP := hide (HR.out.below hbel)
          have HPX := hide hpos
          have HTX := hide ht
          have j3 : (0 : Int) ≤ (m : Int) := by omega
          have j4 : (m : Int) < ((eqL L).length : Int) := by omega
          generalize rdc ts x = d at y0 y1 y2 y3 y4 y5 HPX HTX
          generalize W m m = b at r1 HRC
          clear hrec hrow hxm ht hx hpos
          cases b
          · have HR2 : Hid (firstC ts W (m + 1) ((eqL L).drop (m + 1)) = cycR ts L) := hide (by rw [← HRC.out]; simp)
            clear HRC
            go_wp2
            go_roundw
            case rel => exact ⟨m + 1, by omega, by go_num, HRW.out, hbel, HR2.out⟩
            case measure => simp [intOf]; omega
          · have HR2 : Hid (cycR ts L = some (posD ts x)) := hide (by rw [← HRC.out]; simp)
            clear HRC
            go_wp2_with fail
            refine (rplace_any _ q g cap ts L _ _ _ _ HRP.out d HTX.out).mono ?_
            rintro e3 w3 ⟨rfl, hb3⟩
            rw [HPX.out]
            go_wp2
            go_ret
            exact ⟨by rw [HR2.out]; rfl, hbel.trans (hb3.mono hbel.size)⟩
        · have em : m = (eqL L).length := by omega
          subst em
          rw [List.drop_length] at hrec
          have HRC := hide hrec
          have z2 : ¬ ((eqL L).length : Int) < ((eqL L).length : Int) := by omega
          clear hrec hrow
          go_wp2
          go_ret
          exact ⟨by rw [← HRC.out]; rfl, hbel⟩

end Go.Proofs.Ytmndgoapkmhglaa

namespace Go.Proofs.Ytmndgoapkmhglaa
open Go.RowKit
attribute [local go_sem ↓] Go.wp_at_zero Go.wp_at_succ

theorem any_take_succ {α : Type} (p : α → Bool) (l : List α) (m : Nat) (h : m < l.length) : (l.take (m + 1)).any p = ((l.take m).any p || p (l[m]'h)) := by
  rw [List.take_succ_eq_append_getElem h, List.any_append]; simp

theorem find_range {p : Nat → Bool} (n k : Nat) (h : k < n) : (List.range' k (n - k)).find? p = if p k = true then some k else (List.range' (k + 1) (n - (k + 1))).find? p := by
  rw [show n - k = (n - (k + 1)) + 1 by omega, List.range'_succ, List.find?_cons]
  cases p k <;> rfl

set_option maxHeartbeats 2000000 in
set_option maxRecDepth 100000 in
theorem rnames_any (w : World) (q g cap : Nat) (ts : List Tk) (L : List Dl) (vE vA vI vQ : Value) (h : RProg w q g cap ts L vE vA vI vQ) (ho : ROk ts L) (hp : ∀ i, (tkAt ts i).pos ≤ 1500) :
    Calls Try.prog 74 #[.pointer (some ⟨q, 0, none⟩)] w fun e w' => e = .returned (optI (namesR ts L)) ∧ Below w.heap.size w w' := by
  obtain ⟨av, cv, rfl, hsh⟩ := own_shape h.all
  obtain ⟨hm1, hm2, hm3⟩ := ho.many
  have c0 := h.c0
  have hlen := ho.len
  have HR := hide h
  have HO := hide ho
  have HP := hide hp
  have HSH := hide hsh
  clear h ho hp hsh
  go_enter Try.func74, Try.ntmps74
  go_wp2
  go_loopw [3] (fun i wr => ∃ (k : Nat), k ≤ ts.length ∧ i = .int .i64 k ∧ Below w.heap.size w wr ∧ ((List.range' k (ts.length - k)).find? (badNm ts L)).map (fun k => (tkAt ts k).pos) = namesR ts L) (fun i _ => ts.length - (intOf i).toNat)
  case atStart => exact ⟨0, Nat.zero_le _, rfl, Below.refl _ _, rfl⟩
  case round =>
    clear c0
    obtain ⟨k, hk, rfl, hbel, hrec⟩ := hrel
    have c0 := (HR.out.below hbel).c0
    by_cases hlt : k < ts.length
    · obtain ⟨a, ha⟩ : ∃ a, a = rtok (tkAt ts k) := ⟨_, rfl⟩
      obtain ⟨x0, x1, x2, x3⟩ := HR.out.toks.cells hbel hlt a ha
      have j1 : (0 : Int) ≤ (k : Int) := by omega
      have j2 : (k : Int) < (ts.length : Int) := by omega
      rw [find_range _ _ hlt] at hrec
      have hc := c97 (tkAt ts k)
      rw [← ha] at hc
      by_cases hnm : (tkAt ts k).kind = 1
      · have q1 : ((a.c : Int) != 97) = false := by
          have hc' : a.c = 97 := by rw [hnm] at hc; simpa using hc
          rw [hc']; rfl
        have hw : a.word = (tkAt ts k).text := by rw [ha]; unfold rtok; simp [hnm]
        have hbn : badNm ts L k = qNm ts L k := by unfold badNm isNm; rw [hnm]; rfl
        rw [hbn] at hrec
        have HRC := hide hrec
        have HWD := hide hw
        have HPO : Hid ((tkAt ts k).pos = a.pos) := hide (by rw [ha]; rfl)
        have c2 : ∀ o, (wr.alloc o).cell? ⟨q, 2, none⟩ = some (.slice av L.length cv) := fun o => by rw [World.cell?_alloc_past _ _ _ (HR.out.below hbel).lt]; exact (HR.out.below hbel).c2
        clear hrec hbn hc hnm ha hw
        go_wp2
        generalize hB : wr.heap.size = B
        go_loopw [5, 6, 7, 8] (fun va vh vs vj wx => ∃ m : Nat, m ≤ L.length ∧ vj = .int .i64 m ∧ va = .bool (aheadR ts (L.take m) k) ∧ vh = .bool (hereR (L.take m) k) ∧ vs = .bool (someR ts (L.take m) k) ∧ Below w.heap.size w wx ∧ wx.cell? ⟨B, 1, none⟩ = some (.string a.word) ∧ wx.cell? ⟨B, 2, none⟩ = some (.int .i64 (a.pos : Int)) ∧ B < wx.heap.size ∧ w.heap.size ≤ B) (fun _ _ _ vj _ => L.length - (intOf vj).toNat)
        case atStart =>
          subst hB
          exact ⟨0, Nat.zero_le _, rfl, by simp [aheadR], by simp [hereR], by simp [someR], hbel.alloc hbel.size _, by simp, by simp, by simp, hbel.size⟩
        case round =>
          clear hB x0 x1 x2 x3 c0 c2 hbel
          obtain ⟨m, hm, rfl, rfl, rfl, rfl, hbx, t1, t2, hBl, hBw⟩ := hrel
          have c2 := (HR.out.below hbx).c2
          by_cases hml : m < L.length
          · obtain ⟨gA, capA, hvA, hgA, hcA⟩ := row_at HR.out.all hml
            cases hvA
            obtain ⟨x, hx⟩ : ∃ x, x = L[m]'hml := ⟨_, rfl⟩
            obtain ⟨d, hd⟩ : ∃ d, d = rdc ts x := ⟨_, rfl⟩
            obtain ⟨y0, y1, y2, y3, y4, y5⟩ := hcA wr hbx d (by rw [hd, hx])
            have hdt : d.tok = x.i + 1 ∧ d.name = nameD ts x := by rw [hd]; exact rdc_tok ts x
            have hdl : d.tok < ts.length := by rw [hd]; exact HO.out.tok (by rw [hx]; exact List.getElem_mem hml)
            obtain ⟨t, qT⟩ : ∃ t, ((d.tok : Int) == (k : Int)) = t := ⟨_, rfl⟩
            obtain ⟨e, qE⟩ : ∃ e, (d.name.toList == a.word.toList) = e := ⟨_, rfl⟩
            have eT : (x.i + 1 == k) = t := by rw [← qT, ← hdt.1, beq_cast]
            have eE : ((nameD ts x).data.toList == lAt ts k) = e := by
              rw [← qE, ← hdt.2, ByteArray.toList_eq, ByteArray.toList_eq, HWD.out]; rfl
            have eU : decide (x.i + 1 < k) = decide (d.tok < k) := by rw [hdt.1]
            have HH : Hid (hereR (L.take (m + 1)) k = (hereR (L.take m) k || t)) := hide (by
              unfold hereR; rw [any_take_succ _ _ _ hml, ← hx, eT])
            have HS : Hid (someR ts (L.take (m + 1)) k = (someR ts (L.take m) k || e)) := hide (by
              unfold someR; rw [any_take_succ _ _ _ hml, ← hx, eE])
            have HA : Hid (aheadR ts (L.take (m + 1)) k = (aheadR ts (L.take m) k || (e && decide (d.tok < k)))) := hide (by
              unfold aheadR; rw [any_take_succ _ _ _ hml, ← hx, eE, eU])
            generalize hereR (L.take m) k = b1 at HH ⊢
            generalize someR ts (L.take m) k = b2 at HS ⊢
            generalize aheadR ts (L.take m) k = b3 at HA ⊢
            have j3 : (0 : Int) ≤ (m : Int) := by omega
            have j4 : (m : Int) < (L.length : Int) := by omega
            have hc1 : b1 = true ∨ (b1 = false ∧ t = true) ∨ (b1 = false ∧ t = false) := by cases b1 <;> cases t <;> simp
            have hc2 : (b2 = true ∧ b3 = true) ∨ (b2 = true ∧ b3 = false ∧ e = false) ∨ (b2 = true ∧ b3 = false ∧ e = true) ∨ (b2 = false ∧ b3 = true ∧ e = true) ∨ (b2 = false ∧ b3 = true ∧ e = false) ∨ (b2 = false ∧ b3 = false ∧ e = false) ∨ (b2 = false ∧ b3 = false ∧ e = true) := by
              cases b2 <;> cases b3 <;> cases e <;> simp
            have HBX := hide hbx
            clear hcA hd hx hdt eT eE eU
            rcases hc1 with rfl | ⟨rfl, rfl⟩ | ⟨rfl, rfl⟩
            all_goals
              rcases hc2 with ⟨rfl, rfl⟩ | ⟨rfl, rfl, rfl⟩ | ⟨rfl, rfl, rfl⟩ | ⟨rfl, rfl, rfl⟩ | ⟨rfl, rfl, rfl⟩ | ⟨rfl, rfl, rfl⟩ | ⟨rfl, rfl, rfl⟩
            all_goals
              go_wp2
              go_roundw
              case rel => exact ⟨m + 1, by omega, by go_num, by rw [HA.out]; rfl, by rw [HH.out]; rfl, by rw [HS.out]; rfl, HBX.out.alloc HBX.out.size _, by rw [World.cell?_alloc_past _ _ _ hBl]; exact t1, by rw [World.cell?_alloc_past _ _ _ hBl]; exact t2, by simp; omega, hBw⟩
              case measure => simp [intOf]; omega
          · have em : m = L.length := by omega
            subst em
            rw [List.take_length]
            have z1 : ¬ (L.length : Int) < (L.length : Int) := by omega
            have hqn : qNm ts L k = ((hereR L k && aheadR ts L k) || !someR ts L k) := rfl
            have hrc := HRC.out
            rw [hqn] at hrc
            have hps := HP.out k
            rw [HPO.out] at hps
            generalize hereR L k = b1 at hrc ⊢
            generalize someR ts L k = b2 at hrc ⊢
            generalize aheadR ts L k = b3 at hrc ⊢
            have HRX := hide hrc
            have HBX := hide hbx
            clear hrc hqn
            cases b1 <;> cases b2 <;> cases b3
            all_goals
              first
              | (have HF : Hid (namesR ts L = some a.pos) := hide (by
                   rw [← HRX.out]
                   simp [HPO.out])
                 clear HRX HRC
                 go_wp2
                 go_ret
                 exact ⟨by rw [HF.out]; rfl, HBX.out⟩)
              | (have HN : Hid (((List.range' (k + 1) (ts.length - (k + 1))).find? (badNm ts L)).map (fun k => (tkAt ts k).pos) = namesR ts L) := hide (by
                   rw [← HRX.out]
                   simp)
                 clear HRX HRC
                 go_wp2
                 go_roundw
                 case rel => exact ⟨k + 1, by omega, by go_num, HBX.out, HN.out⟩
                 case measure => simp [intOf]; omega)
      · have q1 : ((a.c : Int) != 97) = true := by
          have hc' : a.c ≠ 97 := fun e => hnm (by rw [e] at hc; simpa using hc.symm)
          rw [bne_iff_ne]; omega
        have hb : badNm ts L k = false := badNm_no (by unfold isNm; exact beq_eq_false_iff_ne.2 hnm)
        rw [hb, if_neg (by simp)] at hrec
        have HRC := hide hrec
        clear hrec hb hc hnm ha
        go_wp2
        go_roundw
        case rel => exact ⟨k + 1, by omega, by go_num, hbel.alloc hbel.size _, HRC.out⟩
        case measure => simp [intOf]; omega
    · have e0 : ts.length - k = 0 := by omega
      rw [e0] at hrec
      have HF : Hid (namesR ts L = none) := hide (by rw [← hrec]; rfl)
      have z1 : ¬ (k : Int) < (ts.length : Int) := by omega
      clear hrec e0
      go_wp2
      go_ret
      exact ⟨by rw [HF.out]; rfl, hbel⟩

end Go.Proofs.Ytmndgoapkmhglaa

namespace Go.Proofs.Ytmndgoapkmhglaa
open Go.RowKit
attribute [local go_sem ↓] Go.wp_at_zero Go.wp_at_succ

set_option maxHeartbeats 4000000 in
set_option maxRecDepth 100000 in
theorem program_any (ts : List Tk) (L : List Dl) (w : World) (g cap : Nat) (h : TokAt w g cap ts) (hF : ∀ i, TkF (tkAt ts i)) (hE : ∀ i, (tkAt ts i).kind = 0 → ts.length ≤ i + 1) (hl : ts.length ≤ 1501) (hL : Spell ts L 0) :
    Calls Try.prog 72 #[.slice (some ⟨g, 0, none⟩) ts.length cap] w fun e w' => e = .returned (.pointer (some ⟨w.heap.size, 0, none⟩)) ∧ ∃ R, RPV w' w.heap.size w.heap.size (.slice (some ⟨g, 0, none⟩) ts.length cap) R ∧
      ((R 1).e = 3 ∧ (R 1).sz = 1 ∧ (R 1).n = ts.length ∧ (R 1).xs = pCells ((List.range ts.length).map (behindF ts))) ∧
      ((R 2).e = 138 ∧ (R 2).sz = 6 ∧ (R 2).n = L.length ∧ (R 2).xs = rdCells (L.map (rdc ts))) ∧
      ((R 3).e = 138 ∧ (R 3).sz = 6 ∧ (R 3).n = (inL L).length ∧ (R 3).xs = rdCells ((inL L).map (rdc ts))) ∧
      ((R 4).e = 138 ∧ (R 4).sz = 6 ∧ (R 4).n = (eqL L).length ∧ (R 4).xs = rdCells ((eqL L).map (rdc ts))) ∧ Below w.heap.size w w' := by
  obtain ⟨i0, hi0, hz0, hz1, hz2⟩ := info_parts Try.infoInt
  obtain ⟨i5, hi5, hy0, hy1, hy2⟩ := info_parts Try.infoRDecl
  have HT := hide h
  have HF := hide hF
  have HE := hide hE
  have HL := hide hL
  clear h hF hE hL
  go_enter Try.func72, Try.ntmps72
  go_wp2
  go_loopw [4] (fun i wr => ∃ (k : Nat) (v : Value), k ≤ ts.length ∧ i = .int .i64 k ∧ RPV wr w.heap.size w.heap.size (.slice (some ⟨g, 0, none⟩) ts.length cap) (putR R0 1 ⟨v, 3, 1, k, pCells ((List.range k).map (behindF ts))⟩) ∧ Below w.heap.size w wr) (fun i _ => ts.length - (intOf i).toNat)
  case atStart =>
    refine ⟨0, .slice none 0 0, Nat.zero_le _, rfl, ⟨by simp, heap_alloc_new w _, fun f => ?_, fun f => ?_, fun f1 f2 k _ hk => ?_⟩, (Below.refl _ _).alloc (Nat.le_refl _) _⟩
    · obtain ⟨h1, h2, h3⟩ := R0_nil f
      have h3' : (putR R0 1 ⟨.slice none 0 0, 3, 1, 0, pCells ((List.range 0).map (behindF ts))⟩ f).xs = [] := h3
      rw [h3']
      have h2' : (putR R0 1 ⟨.slice none 0 0, 3, 1, 0, pCells ((List.range 0).map (behindF ts))⟩ f).n = 0 := h2
      have h1' : (putR R0 1 ⟨.slice none 0 0, 3, 1, 0, pCells ((List.range 0).map (behindF ts))⟩ f).v = .slice none 0 0 := h1
      rw [h2', h1']
      exact World.ownsRow_nil _ _ _ _
    · have h1' : (putR R0 1 ⟨.slice none 0 0, 3, 1, 0, pCells ((List.range 0).map (behindF ts))⟩ f).v = .slice none 0 0 := (R0_nil f).1
      rw [h1']; simp [Value.ownBlock]
    · exfalso
      have h1' : (putR R0 1 ⟨.slice none 0 0, 3, 1, 0, pCells ((List.range 0).map (behindF ts))⟩ f1).v = .slice none 0 0 := (R0_nil f1).1
      rw [h1'] at hk
      simp [Value.ownBlock] at hk
  case round =>
    obtain ⟨k, v, hk, rfl, hrp, hbel⟩ := hrel
    have HRP := hide hrp
    have hbs := hbel.size
    by_cases hlt : k < ts.length
    · have j1 : (0 : Int) ≤ (k : Int) := by omega
      have j2 : (k : Int) < (ts.length : Int) := by omega
      have hbh := behindF_le ts k (by omega)
      have hq := hrp.lt
      have c1 : wr.cell? ⟨w.heap.size, 1, none⟩ = some v := cell_of_row wr w.heap.size 1 _ _ _ hrp.blk
      have f1 : wr.frozen? ⟨w.heap.size, 1, none⟩ = false := frozen_of_row wr w.heap.size 1 _ _ hrp.blk
      have ca : ∀ o, (wr.alloc o).cell? ⟨w.heap.size, 1, none⟩ = some v := fun o => by rw [World.cell?_alloc_past _ _ _ hq]; exact c1
      have fa : ∀ o, (wr.alloc o).frozen? ⟨w.heap.size, 1, none⟩ = false := fun o => by rw [World.frozen?_alloc_past _ _ _ hq]; exact f1
      have hown : wr.ownsRow w.heap.size 3 1 v k (pCells ((List.range k).map (behindF ts))) := hrp.own 1
      have nbv : v.ownBlock ≠ some w.heap.size := hrp.nq 1
      have HR1 : Hid (pCells ((List.range (k + 1)).map (behindF ts)) = pCells ((List.range k).map (behindF ts)) ++ [.int .i64 (behindF ts k : Nat)]) := hide (by rw [List.range_succ, List.map_append, List.map_singleton, pCells_snoc])
      clear hrp
      go_wp2_with fail
      refine (behind_any ts k _ g cap (HT.out.below hbel) HF.out hl (by omega)).mono ?_
      rintro e1 w1 ⟨rfl, hw1⟩
      subst hw1
      generalize hbb : behindF ts k = b at *
      have HBB := hide hbb
      clear hbb
      go_wp2_with (at_builtin; refine wpList_append_lies _ rfl _ _ _ rfl w.heap.size 3 i0 _ 1 8 Try.underlying48 hi0 hz0 hz1 hz2 rfl (by omega) v k (pCells ((List.range k).map (behindF ts))) rfl (hown.alloc _) ⟨wr.heap.size, 0, none⟩ 1 1 [.int .i64 (b : Int)] rfl rfl (World.news_of_block (cs := #[.int .i64 (b : Int)]) (t := 3) (fr := (0, 0)) (heap_alloc_new wr _)) (by simp [Value.oneCell']) (by omega) (by unfold maxLen; omega) (by omega) (by simp; omega) (wr.heap.size + 1) (by simp) ?_; intro gg cap2 w3 hown3 hgrow hat hlt3; have k4 := (hgrow.cell_far ⟨w.heap.size, 1, none⟩ (by simp; omega) (Ne.symm nbv)).trans (ca _); have g4 := (hgrow.frozen_far ⟨w.heap.size, 1, none⟩ (by simp; omega) (Ne.symm nbv)).trans (fa _))
      go_roundw
      case rel =>
        have hfin := (HRP.out.below ((Below.refl _ _).alloc (Nat.le_refl _) (.cells #[.int .i64 (b : Int)] 3))).push 1 _ (putR_at _ _ _) (by omega) hgrow (g := gg) (cap := cap2) (n := k + 1) (xs := pCells ((List.range k).map (behindF ts)) ++ [.int .i64 (b : Int)]) hown3 (hat_le hat (by simp))
        refine ⟨k + 1, .slice (some ⟨gg, 0, none⟩) (k + 1) cap2, by omega, by go_num, ?_, ?_⟩
        · rw [HR1.out]
          rw [putR_put] at hfin
          exact hfin
        · exact ((hbel.alloc hbel.size _).grown hgrow (by simp; omega) (fun j hj => ownBlock_ge hown j hj)).setCell (Nat.le_refl _) _
      case measure => simp [intOf]; omega
    · have ek : k = ts.length := by omega
      subst ek
      rw [RRw_start] at hrp
      have HRQ := hide hrp
      have i1 : ¬ (ts.length : Int) < (ts.length : Int) := by omega
      clear hrp HRP
      generalize hEE : pCells ((List.range ts.length).map (behindF ts)) = EE at HRQ
      have HEE := hide hEE
      clear hEE
      go_wp2
      go_loopw [6] (fun i wx => ∃ (n : Nat) (L1 L2 : List Dl) (vA vI vQ : Value), L = L1 ++ L2 ∧ Spell ts L2 n ∧ i = .int .i64 n ∧ n ≤ ts.length ∧
        RPV wx w.heap.size w.heap.size (.slice (some ⟨g, 0, none⟩) ts.length cap) (RRw ts.length EE v vA vI vQ (L1.map (rdc ts)) ((inL L1).map (rdc ts)) ((eqL L1).map (rdc ts))) ∧ L1.length ≤ n ∧ Below w.heap.size w wx) (fun i _ => ts.length - (intOf i).toNat)
      case atStart => exact ⟨0, [], L, _, _, _, rfl, HL.out, rfl, Nat.zero_le _, HRQ.out, Nat.zero_le _, hbel⟩
      case round =>
        clear hbel HRQ hbs i1
        obtain ⟨n, L1, L2, vA, vI, vQ, hsplit, hsp, rfl, hn, hrp, hL1, hbel⟩ := hrel
        have HS := hide hsplit
        have HRP := hide hrp
        have hbs := hbel.size
        have hq := hrp.lt
        clear hsplit
        cases L2 with
        | nil =>
          obtain ⟨h1, h2⟩ := hsp
          have h3 := HE.out n h2
          have z1 : ¬ (n : Int) + 5 < (ts.length : Int) := by omega
          have z2 : ¬ (n : Int) + 2 < (ts.length : Int) := by omega
          clear hrp h2
          go_wp2
          go_ret
          have e := HS.out
          rw [List.append_nil] at e
          subst e
          refine ⟨rfl, _, HRP.out, ?_, ?_, ?_, ?_, hbel⟩
          · exact ⟨rfl, rfl, rfl, HEE.out.symm⟩
          · exact ⟨rfl, rfl, by simp [RRw], rfl⟩
          · exact ⟨rfl, rfl, by simp [RRw], rfl⟩
          · exact ⟨rfl, rfl, by simp [RRw], rfl⟩
        | cons x r =>
          obtain ⟨hxi, hxl, hxo, hsp'⟩ := hsp
          have hlx := Dl.len_pos x
          obtain ⟨a0, ha0⟩ : ∃ a, a = rtok (tkAt ts n) := ⟨_, rfl⟩
          obtain ⟨x0, x1, x2, x3⟩ := HT.out.cells hbel (show n < ts.length by omega) a0 ha0
          obtain ⟨a1, ha1⟩ : ∃ a, a = rtok (tkAt ts (n + 1)) := ⟨_, rfl⟩
          obtain ⟨y0, y1, y2, y3⟩ := HT.out.cells hbel (show n + 1 < ts.length by omega) a1 ha1
          have hk0 := (HF.out n).kw kIn (by decide)
          rw [← ha0] at hk0
          have hil : ((inL L1).map (rdc ts)).length ≤ 1501 := by rw [List.length_map]; have := List.length_filter_le (fun x : Dl => x.kind == 0) L1; unfold inL; omega
          have hql : ((eqL L1).map (rdc ts)).length ≤ 1501 := by rw [List.length_map]; have := List.length_filter_le (fun x : Dl => x.kind != 0) L1; unfold eqL; omega
          have hal : (L1.map (rdc ts)).length ≤ 1501 := by rw [List.length_map]; omega
          generalize hI : (inL L1).map (rdc ts) = I at hrp hil
          generalize hQ : (eqL L1).map (rdc ts) = Q at hrp hql
          generalize hA : L1.map (rdc ts) = A at hrp hal
          have HLS := hide (And.intro hA (And.intro hI hQ))
          have HRP := hide hrp
          clear hA hI hQ
          have hgw : g < wr.heap.size := by have := HT.out.lt; omega
          have xa : ∀ o, (wr.alloc o).cell? ⟨g, n * 4 + 1, none⟩ = some (.string a0.word) := fun o => by rw [World.cell?_alloc_past _ _ _ hgw]; exact x1
          have ya : ∀ o, (wr.alloc o).cell? ⟨g, (n + 1) * 4 + 1, none⟩ = some (.string a1.word) := fun o => by rw [World.cell?_alloc_past _ _ _ hgw]; exact y1
          have j1 : (0 : Int) ≤ (n : Int) := by omega
          have j2 : (n : Int) < (ts.length : Int) := by omega
          have j3 : (0 : Int) ≤ (n : Int) + 1 := by omega
          have j4 : (n : Int) + 1 < (ts.length : Int) := by omega
          have j5 : (n : Int) + 2 < (ts.length : Int) := by omega
          by_cases hk : x.kind = 0
          · have hl3 : x.len = 3 := by unfold Dl.len; rw [if_pos hk]
            have hin : lAt ts n = kIn ∧ (tkAt ts (n + 1)).kind = 1 := by
              rcases hxo with ⟨_, h1, h2, _⟩ | ⟨h, _⟩
              · rw [hxi] at h1 h2; exact ⟨h1, h2⟩
              · omega
            have q1 := str_yes (t := a0.word) (hk0.2 hin.1)
            simp only [kIn] at q1
            have hw1 : a1.word = nameD ts x := by rw [ha1]; unfold rtok nameD; simp [hin.2, hxi]
            have HD : Hid (rdc ts x = ⟨a1.word, n + 1, true, false, 0, 0⟩) := hide (by unfold rdc; rw [if_pos hk, hw1, hxi])
            have HK := hide hk
            clear hk0 hin hw1 ha0 ha1 hxo hrp hk
            by_cases h5 : (n : Int) + 5 < (ts.length : Int)
            all_goals
              go_wp2_with fail
              go_big_region
              go_wp2_with fail
              have hst0 : St w (wr.alloc (.cells #[.string a1.word, .int .i64 ((n : Int) + 1), .bool true, .bool false, .int .i64 0, .int .i64 0] 138)).drew w.heap.size wr.heap.size (.slice (some ⟨g, 0, none⟩) ts.length cap) (RRw ts.length EE v vA vI vQ A I Q) ⟨a1.word, n + 1, true, false, 0, 0⟩ :=
                ⟨HRP.out.below (((Below.refl _ _).alloc (Nat.le_refl _) _).drew), heap_alloc_new wr _, by omega, fun f hk => by have := ((HRP.out.own f).lt _ hk).2; omega, (hbel.alloc hbel.size _).drew, Nat.le_refl _⟩
              obtain ⟨W, hW⟩ : ∃ W, W = (wr.alloc (.cells #[.string a1.word, .int .i64 ((n : Int) + 1), .bool true, .bool false, .int .i64 0, .int .i64 0] 138)).drew := ⟨_, rfl⟩
              rw [← hW] at hst0 ⊢
              generalize wr.heap.size = N at hst0 hbs ⊢
              have HST := hide hst0
              obtain ⟨hNW, hqW, e0, e1, e2, e3, e4, e5⟩ := hst0.cells
              clear hst0 hW x0 x1 x2 x3 y0 y1 y2 y3 xa ya hq HRP hgw hbel
              have hbW := HST.out.bel.size
              obtain ⟨ca, fa, cI, fI, hownI, nbvI⟩ := HST.out.row 3 ⟨vI, 138, 6, I.length, rdCells I⟩ rfl (by omega)
              go_region_law ((refine step_append_lies _ (by rfl) _ _ _ (by rfl) w.heap.size 138 i5 _ 6 48 Try.underlying133 hi5 hy0 hy1 hy2 rfl (by omega) vI I.length (rdCells I) (by rfl) ((hownI.alloc _).drew) ⟨W.heap.size, 0, none⟩ 1 1 [.string a1.word, .int .i64 ((n : Int) + 1), .bool true, .bool false, .int .i64 0, .int .i64 0] (by rfl) (by rfl) (World.news_of_block (cs := #[.string a1.word, .int .i64 ((n : Int) + 1), .bool true, .bool false, .int .i64 0, .int .i64 0]) (t := 138) (fr := (0, 0)) (heap_alloc_new W _)) (by simp [Value.oneCell']) (by omega) (by unfold maxLen; omega) (by omega) (by simp; omega) (W.heap.size + 1) (by simp) ?_; intro ggI capI wI hown3I hgrowI hatI hlt3I; have k4 := (hgrowI.cell_far ⟨w.heap.size, 3, none⟩ (by simp; omega) (Ne.symm nbvI)).trans (ca _); have g4 := (hgrowI.frozen_far ⟨w.heap.size, 3, none⟩ (by simp; omega) (Ne.symm nbvI)).trans (fa _)))
              all_goals
                have hstI := HST.out.push 3 _ rfl (by omega) (.cells #[.string a1.word, .int .i64 ((n : Int) + 1), .bool true, .bool false, .int .i64 0, .int .i64 0] 138) hgrowI hown3I hatI
                have hstI' : St w (wI.setCell ⟨w.heap.size, 3, none⟩ (.slice (some ⟨ggI, 0, none⟩) (I.length + 1) capI)) w.heap.size N (.slice (some ⟨g, 0, none⟩) ts.length cap) (RRw ts.length EE v vA (.slice (some ⟨ggI, 0, none⟩) (I.length + 1) capI) vQ A (I ++ [⟨a1.word, n + 1, true, false, 0, 0⟩]) Q) ⟨a1.word, n + 1, true, false, 0, 0⟩ := by
                  rw [← RRw_put3]; exact hstI
                obtain ⟨W2, hW2⟩ : ∃ W2, W2 = wI.setCell ⟨w.heap.size, 3, none⟩ (.slice (some ⟨ggI, 0, none⟩) (I.length + 1) capI) := ⟨_, rfl⟩
                rw [← hW2] at hstI' ⊢
                have HST2 := hide hstI'
                obtain ⟨hN2, hq2, e0, e1, e2, e3, e4, e5⟩ := hstI'.cells
                clear hstI hstI' hW2 hgrowI hown3I hatI HST ca fa
                have hb2 := HST2.out.bel.size
                go_wp2_with fail
                obtain ⟨ca, fa, cA, fA, hownA, nbvA⟩ := HST2.out.row 2 ⟨vA, 138, 6, A.length, rdCells A⟩ rfl (by omega)
                go_region_law ((refine step_append_lies _ (by rfl) _ _ _ (by rfl) w.heap.size 138 i5 _ 6 48 Try.underlying133 hi5 hy0 hy1 hy2 rfl (by omega) vA A.length (rdCells A) (by rfl) ((hownA.alloc _).drew) ⟨W2.heap.size, 0, none⟩ 1 1 [.string a1.word, .int .i64 ((n : Int) + 1), .bool true, .bool false, .int .i64 0, .int .i64 0] (by rfl) (by rfl) (World.news_of_block (cs := #[.string a1.word, .int .i64 ((n : Int) + 1), .bool true, .bool false, .int .i64 0, .int .i64 0]) (t := 138) (fr := (0, 0)) (heap_alloc_new W2 _)) (by simp [Value.oneCell']) (by omega) (by unfold maxLen; omega) (by omega) (by simp; omega) (W2.heap.size + 1) (by simp) ?_; intro ggA capA wA hown3A hgrowA hatA hlt3A; have k4 := (hgrowA.cell_far ⟨w.heap.size, 2, none⟩ (by simp; omega) (Ne.symm nbvA)).trans (ca _); have g4 := (hgrowA.frozen_far ⟨w.heap.size, 2, none⟩ (by simp; omega) (Ne.symm nbvA)).trans (fa _)))
                all_goals
                  have hstA := HST2.out.push 2 _ rfl (by omega) (.cells #[.string a1.word, .int .i64 ((n : Int) + 1), .bool true, .bool false, .int .i64 0, .int .i64 0] 138) hgrowA hown3A hatA
                  have hstA' : St w (wA.setCell ⟨w.heap.size, 2, none⟩ (.slice (some ⟨ggA, 0, none⟩) (A.length + 1) capA)) w.heap.size N (.slice (some ⟨g, 0, none⟩) ts.length cap) (RRw ts.length EE v (.slice (some ⟨ggA, 0, none⟩) (A.length + 1) capA) (.slice (some ⟨ggI, 0, none⟩) (I.length + 1) capI) vQ (A ++ [⟨a1.word, n + 1, true, false, 0, 0⟩]) (I ++ [⟨a1.word, n + 1, true, false, 0, 0⟩]) Q) ⟨a1.word, n + 1, true, false, 0, 0⟩ := by
                    rw [← RRw_put2]; exact hstA
                  obtain ⟨W3, hW2⟩ : ∃ W2, W2 = wA.setCell ⟨w.heap.size, 2, none⟩ (.slice (some ⟨ggA, 0, none⟩) (A.length + 1) capA) := ⟨_, rfl⟩
                  rw [← hW2] at hstA' ⊢
                  have HST3 := hide hstA'
                  obtain ⟨hN2, hq2, e0, e1, e2, e3, e4, e5⟩ := hstA'.cells
                  clear hstA hstA' hW2 hgrowA hown3A hatA HST2 ca fa
                  have hb2 := HST3.out.bel.size
                  clear e0 e1 e2 e3 e4 e5
                  go_wp2
                  go_roundw
                  case rel =>
                    obtain ⟨hA, hI, hQ⟩ := HLS.out
                    have hd := HD.out
                    have hk := HK.out
                    have e1 : (L1 ++ [x]).map (rdc ts) = A ++ [⟨a1.word, n + 1, true, false, 0, 0⟩] := by rw [List.map_append, hA, List.map_singleton, hd]
                    have e2 : (inL (L1 ++ [x])).map (rdc ts) = I ++ [⟨a1.word, n + 1, true, false, 0, 0⟩] := by
                      rw [show inL (L1 ++ [x]) = inL L1 ++ [x] by simp [inL, hk], List.map_append, hI, List.map_singleton, hd]
                    have e3 : (eqL (L1 ++ [x])).map (rdc ts) = Q := by
                      rw [show eqL (L1 ++ [x]) = eqL L1 by simp [eqL, hk], hQ]
                    refine ⟨n + 3, L1 ++ [x], r, .slice (some ⟨ggA, 0, none⟩) (A.length + 1) capA, .slice (some ⟨ggI, 0, none⟩) (I.length + 1) capI, vQ, by rw [HS.out]; simp, by rw [← hl3]; exact hsp', by go_num, by omega, ?_, by simp; omega, HST3.out.bel⟩
                    rw [e1, e2, e3]
                    exact HST3.out.rp
                  case measure => simp [intOf]; omega
          · have hl6 : x.len = x.t.len + 6 := by unfold Dl.len; rw [if_neg hk]
            have heq : ((x.kind = 1 ∧ lAt ts n = kInt) ∨ (x.kind = 2 ∧ lAt ts n = kBool)) ∧ (tkAt ts (n + 1)).kind = 1 ∧ (tkAt ts (n + 3)).kind = 3 ∧ Sp ts x.t (n + 5) := by
              rcases hxo with ⟨h, _⟩ | ⟨h0, h1, _, h3, _, h5, _⟩
              · exact absurd h hk
              · rw [hxi] at h0 h1 h3 h5; exact ⟨h0, h1, h3.1, h5⟩
            obtain ⟨h0, hk1, hk3, hspx⟩ := heq
            have hnin : a0.l ≠ kIn := fun h => by
              have h' := hk0.1 h
              have h'' : lAt ts n = kIn := h'
              rcases h0 with ⟨_, h0⟩ | ⟨_, h0⟩ <;> rw [h0] at h'' <;> exact absurd h'' (by decide)
            have q1 := str_no (t := a0.word) hnin
            simp only [kIn] at q1
            have hkb := (HF.out n).kw kBool (by decide)
            rw [← ha0] at hkb
            have hqb : (a0.word.toList == [98, 111, 111, 108]) = (x.kind == 2) := by
              rcases h0 with ⟨h1, h2⟩ | ⟨h1, h2⟩
              · rw [h1]
                exact str_no (t := a0.word) (l := kBool) (fun h => by
                  have h' : lAt ts n = kBool := hkb.1 h
                  rw [h2] at h'; exact absurd h' (by decide))
              · rw [h1]
                have := str_yes (t := a0.word) (l := kBool) (hkb.2 h2)
                rw [this]; rfl
            generalize hT : (x.kind == 2) = tr at hqb
            obtain ⟨a3, ha3⟩ : ∃ a, a = rtok (tkAt ts (n + 3)) := ⟨_, rfl⟩
            have hw1 : a1.word = nameD ts x := by rw [ha1]; unfold rtok nameD; simp [hk1, hxi]
            have hn3 : a3.n = placeD ts x := by rw [ha3]; unfold placeD; rw [rn3 hk3, hxi]
            have hpv : a3.n < 4 := by
              rw [hn3]
              rcases hxo with ⟨h, _⟩ | ⟨_, _, _, h3, _, _, _⟩
              · exact absurd h hk
              · exact h3.2
            have hbe : behindF ts (n + 5) = n + 5 + x.t.len := behind_sp HF.out x.t (n + 5) hspx (by omega)
            have HD : Hid (rdc ts x = ⟨a1.word, n + 1, false, tr, a3.n, n + 5⟩) := hide (by unfold rdc; rw [if_neg hk, hw1, hxi, hT, hn3])
            have HK := hide hk
            have h5 : (n : Int) + 5 < (ts.length : Int) := by omega
            have HBE := hide hbe
            have HA3 := hide ha3
            have HA0 := hide ha0
            clear hk0 hnin hw1 ha0 ha1 hxo hrp hk h0 hk1 hk3 hspx hT hkb ha3 hn3 hbe
            go_wp2_with fail
            go_big_region
            have hst0 : St w (wr.alloc (.cells #[.string a1.word, .int .i64 ((n : Int) + 1), .bool false, .bool false, .int .i64 0, .int .i64 0] 138)).drew w.heap.size wr.heap.size (.slice (some ⟨g, 0, none⟩) ts.length cap) (RRw ts.length EE v vA vI vQ A I Q) ⟨a1.word, n + 1, false, false, 0, 0⟩ :=
              ⟨HRP.out.below (((Below.refl _ _).alloc (Nat.le_refl _) _).drew), heap_alloc_new wr _, by omega, fun f hk => by have := ((HRP.out.own f).lt _ hk).2; omega, (hbel.alloc hbel.size _).drew, Nat.le_refl _⟩
            obtain ⟨W, hW⟩ : ∃ W, W = (wr.alloc (.cells #[.string a1.word, .int .i64 ((n : Int) + 1), .bool false, .bool false, .int .i64 0, .int .i64 0] 138)).drew := ⟨_, rfl⟩
            rw [← hW] at hst0 ⊢
            generalize wr.heap.size = N at hst0 hbs ⊢
            have HST := hide hst0
            obtain ⟨hNW, hqW, e0, e1, e2, e3, e4, e5⟩ := hst0.cells
            clear hst0 hW x0 x1 x2 x3 y0 y1 y2 y3 xa ya hq HRP hgw hbel
            have hbW := HST.out.bel.size
            have hgW : g < W.heap.size := by have := HT.out.lt; omega
            have tc : ∀ k (hk : k < ts.length) (a : RTk), a = rtok (tkAt ts k) → W.cell? ⟨g, k * 4 + 1, none⟩ = some (.string a.word) ∧ W.cell? ⟨g, k * 4 + 3, none⟩ = some (.int .i64 (a.n : Int)) := fun k hk a ha => ⟨(HT.out.cells HST.out.bel hk a ha).2.1, (HT.out.cells HST.out.bel hk a ha).2.2.2⟩
            have w0 := (tc n (by omega) a0 HA0.out).1
            have w3 := (tc (n + 3) (by omega) a3 HA3.out).2
            have hgN : g ≠ N := by have := HT.out.lt; have := HST.out.nq; omega
            have fr : ∀ k, W.frozen? ⟨N, k, none⟩ = false := fun k => frozen_of_row W N k _ _ HST.out.blk
            have fr3 := fr 3
            have fr4 := fr 4
            have fr5 := fr 5
            clear tc fr
            go_wp2_with fail
            have hst1 := HST.out.poke hbs tr a3.n (n + 5)
            obtain ⟨W1, hW1⟩ : ∃ W1, W1 = (((W.setCell ⟨N, 3, none⟩ (.bool tr)).setCell ⟨N, 4, none⟩ (.int .i64 (a3.n : Int))).setCell ⟨N, 5, none⟩ (.int .i64 (((n + 5 : Nat)) : Int))) := ⟨_, rfl⟩
            rw [← hW1] at hst1
            rw [show (((W.setCell ⟨N, 3, none⟩ (.bool tr)).setCell ⟨N, 4, none⟩ (.int .i64 (a3.n : Int))).setCell ⟨N, 5, none⟩ (.int .i64 ((n : Int) + 5))) = W1 from hW1.symm]
            have HS1 := hide hst1
            clear hst1 hW1 w0 w3 hgW hgN e0 e1 e2 e3 e4 e5 fr3 fr4 fr5 HST hqb q1 hNW hqW hbW
            obtain ⟨hNW, hqW, e0, e1, e2, e3, e4, e5⟩ := HS1.out.cells
            have hbW := HS1.out.bel.size
            obtain ⟨ca, fa, cQ, fQ, hownQ, nbvQ⟩ := HS1.out.row 4 ⟨vQ, 138, 6, Q.length, rdCells Q⟩ rfl (by omega)
            go_region_law ((refine step_append_lies _ (by rfl) _ _ _ (by rfl) w.heap.size 138 i5 _ 6 48 Try.underlying133 hi5 hy0 hy1 hy2 rfl (by omega) vQ Q.length (rdCells Q) (by rfl) ((hownQ.alloc _).drew) ⟨W1.heap.size, 0, none⟩ 1 1 [.string a1.word, .int .i64 ((n : Int) + 1), .bool false, .bool tr, .int .i64 (a3.n : Int), .int .i64 ((n : Int) + 5)] (by rfl) (by rfl) (World.news_of_block (cs := #[.string a1.word, .int .i64 ((n : Int) + 1), .bool false, .bool tr, .int .i64 (a3.n : Int), .int .i64 ((n : Int) + 5)]) (t := 138) (fr := (0, 0)) (heap_alloc_new W1 _)) (by simp [Value.oneCell']) (by omega) (by unfold maxLen; omega) (by omega) (by simp; omega) (W1.heap.size + 1) (by simp) ?_; intro ggQ capQ wQ hown3Q hgrowQ hatQ hlt3Q; have k4 := (hgrowQ.cell_far ⟨w.heap.size, 4, none⟩ (by simp; omega) (Ne.symm nbvQ)).trans (ca _); have g4 := (hgrowQ.frozen_far ⟨w.heap.size, 4, none⟩ (by simp; omega) (Ne.symm nbvQ)).trans (fa _)))
            all_goals
              have hstQ := HS1.out.push 4 _ rfl (by omega) (.cells #[.string a1.word, .int .i64 ((n : Int) + 1), .bool false, .bool tr, .int .i64 (a3.n : Int), .int .i64 ((n : Int) + 5)] 138) hgrowQ hown3Q hatQ
              have hstQ' : St w (wQ.setCell ⟨w.heap.size, 4, none⟩ (.slice (some ⟨ggQ, 0, none⟩) (Q.length + 1) capQ)) w.heap.size N (.slice (some ⟨g, 0, none⟩) ts.length cap) (RRw ts.length EE v vA vI (.slice (some ⟨ggQ, 0, none⟩) (Q.length + 1) capQ) A I (Q ++ [⟨a1.word, n + 1, false, tr, a3.n, n + 5⟩])) ⟨a1.word, n + 1, false, tr, a3.n, n + 5⟩ := by
                rw [← RRw_put4]; exact hstQ
              obtain ⟨W2, hW2⟩ : ∃ W2, W2 = wQ.setCell ⟨w.heap.size, 4, none⟩ (.slice (some ⟨ggQ, 0, none⟩) (Q.length + 1) capQ) := ⟨_, rfl⟩
              rw [← hW2] at hstQ' ⊢
              have HST2 := hide hstQ'
              obtain ⟨hN2, hq2, e0, e1, e2, e3, e4, e5⟩ := hstQ'.cells
              clear hstQ hstQ' hW2 hgrowQ hown3Q hatQ HS1 ca fa
              have hb2 := HST2.out.bel.size
              obtain ⟨_, _, cE, fE, hownE, nbE⟩ := HST2.out.row 1 ⟨v, 3, 1, ts.length, EE⟩ rfl (by omega)
              obtain ⟨gE, capE, hvE, hgE1, hgE2⟩ := hownE.form (show 0 < ts.length by omega)
              have hvE' : v = .slice (some ⟨gE, 0, none⟩) ts.length capE := hvE
              subst hvE'
              have rE : W2.cell? ⟨gE, n + 5, none⟩ = some (.int .i64 ((n + 5 + x.t.len : Nat) : Int)) := by
                have := hownE.cellAt (n + 5) (by simp; omega)
                rw [this]
                show EE[n + 5]? = _
                rw [← HEE.out]
                unfold pCells
                rw [List.getElem?_map, List.getElem?_map, List.getElem?_range (by omega)]
                simp [HBE.out]
              have i6 : (0 : Int) ≤ (n : Int) + 5 := by omega
              obtain ⟨tl, htl⟩ : ∃ tl, tl = x.t.len := ⟨_, rfl⟩
              rw [← htl] at rE hl6
              have htl2 : tl ≤ 1501 := by omega
              have HTL := hide htl
              clear htl hvE hownE nbE fE
              go_wp2_with fail
              go_quiet (fail)
              go_wp2_with fail
              have hst4 : St w (W2.drewN nq) w.heap.size N (.slice (some ⟨g, 0, none⟩) ts.length cap) (RRw ts.length EE (.slice (some ⟨gE, 0, none⟩) ts.length capE) vA vI (.slice (some ⟨ggQ, 0, none⟩) (Q.length + 1) capQ) A I (Q ++ [⟨a1.word, n + 1, false, tr, a3.n, n + 5⟩])) ⟨a1.word, n + 1, false, tr, a3.n, n + 5⟩ := HST2.out.below (below_drewN (Below.refl _ _) _)
              obtain ⟨W4, hW4⟩ : ∃ W4, W4 = W2.drewN nq := ⟨_, rfl⟩
              rw [← hW4] at hst4 ⊢
              have HST4 := hide hst4
              clear hst4 hW4 HST2 rE cE e0 e1 e2 e3 e4 e5 hN2 hq2 hb2
              obtain ⟨hN2, hq2, e0, e1, e2, e3, e4, e5⟩ := HST4.out.cells
              have hb2 := HST4.out.bel.size
              obtain ⟨ca, fa, cA, fA, hownA, nbvA⟩ := HST4.out.row 2 ⟨vA, 138, 6, A.length, rdCells A⟩ rfl (by omega)
              go_region_law ((refine step_append_lies _ (by rfl) _ _ _ (by rfl) w.heap.size 138 i5 _ 6 48 Try.underlying133 hi5 hy0 hy1 hy2 rfl (by omega) vA A.length (rdCells A) (by rfl) ((hownA.alloc _).drew) ⟨W4.heap.size, 0, none⟩ 1 1 [.string a1.word, .int .i64 ((n : Int) + 1), .bool false, .bool tr, .int .i64 (a3.n : Int), .int .i64 ((n : Int) + 5)] (by rfl) (by rfl) (World.news_of_block (cs := #[.string a1.word, .int .i64 ((n : Int) + 1), .bool false, .bool tr, .int .i64 (a3.n : Int), .int .i64 ((n : Int) + 5)]) (t := 138) (fr := (0, 0)) (heap_alloc_new W4 _)) (by simp [Value.oneCell']) (by omega) (by unfold maxLen; omega) (by omega) (by simp; omega) (W4.heap.size + 1) (by simp) ?_; intro ggA capA wA hown3A hgrowA hatA hlt3A; have k4 := (hgrowA.cell_far ⟨w.heap.size, 2, none⟩ (by simp; omega) (Ne.symm nbvA)).trans (ca _); have g4 := (hgrowA.frozen_far ⟨w.heap.size, 2, none⟩ (by simp; omega) (Ne.symm nbvA)).trans (fa _)))
              all_goals
                have hstA := HST4.out.push 2 _ rfl (by omega) (.cells #[.string a1.word, .int .i64 ((n : Int) + 1), .bool false, .bool tr, .int .i64 (a3.n : Int), .int .i64 ((n : Int) + 5)] 138) hgrowA hown3A hatA
                have hstA' : St w (wA.setCell ⟨w.heap.size, 2, none⟩ (.slice (some ⟨ggA, 0, none⟩) (A.length + 1) capA)) w.heap.size N (.slice (some ⟨g, 0, none⟩) ts.length cap) (RRw ts.length EE (.slice (some ⟨gE, 0, none⟩) ts.length capE) (.slice (some ⟨ggA, 0, none⟩) (A.length + 1) capA) vI (.slice (some ⟨ggQ, 0, none⟩) (Q.length + 1) capQ) (A ++ [⟨a1.word, n + 1, false, tr, a3.n, n + 5⟩]) I (Q ++ [⟨a1.word, n + 1, false, tr, a3.n, n + 5⟩])) ⟨a1.word, n + 1, false, tr, a3.n, n + 5⟩ := by
                  rw [← RRw_put2]; exact hstA
                obtain ⟨W3, hW2⟩ : ∃ W2, W2 = wA.setCell ⟨w.heap.size, 2, none⟩ (.slice (some ⟨ggA, 0, none⟩) (A.length + 1) capA) := ⟨_, rfl⟩
                rw [← hW2] at hstA' ⊢
                have HST3 := hide hstA'
                obtain ⟨hN2, hq2, e0, e1, e2, e3, e4, e5⟩ := hstA'.cells
                clear hstA hstA' hW2 hgrowA hown3A hatA HST4 ca fa
                have hb2 := HST3.out.bel.size
                clear e0 e1 e2 e3 e4 e5
                go_wp2
                go_roundw
                case rel =>
                  obtain ⟨hA, hI, hQ⟩ := HLS.out
                  have hd := HD.out
                  have hk := HK.out
                  have e1 : (L1 ++ [x]).map (rdc ts) = A ++ [⟨a1.word, n + 1, false, tr, a3.n, n + 5⟩] := by rw [List.map_append, hA, List.map_singleton, hd]
                  have e2 : (inL (L1 ++ [x])).map (rdc ts) = I := by
                    rw [show inL (L1 ++ [x]) = inL L1 by simp [inL, hk], hI]
                  have e3 : (eqL (L1 ++ [x])).map (rdc ts) = Q ++ [⟨a1.word, n + 1, false, tr, a3.n, n + 5⟩] := by
                    rw [show eqL (L1 ++ [x]) = eqL L1 ++ [x] by simp [eqL, hk], List.map_append, hQ, List.map_singleton, hd]
                  refine ⟨n + x.len, L1 ++ [x], r, .slice (some ⟨ggA, 0, none⟩) (A.length + 1) capA, vI, .slice (some ⟨ggQ, 0, none⟩) (Q.length + 1) capQ, by rw [HS.out]; simp, hsp', by rw [hl6]; go_num, by omega, ?_, by simp; omega, HST3.out.bel⟩
                  rw [e1, e2, e3]
                  exact HST3.out.rp
                case measure => simp [intOf]; omega

end Go.Proofs.Ytmndgoapkmhglaa

namespace Go.Proofs.Ytmndgoapkmhglaa
open Go.RowKit
attribute [local go_sem ↓] Go.wp_at_zero Go.wp_at_succ

/-- a program that has been laid, as its readers have it. -/
theorem RPV.prog {w' : World} {B q g cap : Nat} {ts : List Tk} {L : List Dl} {R : Nat → Rw} (h : RPV w' B q (.slice (some ⟨g, 0, none⟩) ts.length cap) R) (ht : TokAt w' g cap ts)
    (h1 : (R 1).e = 3 ∧ (R 1).sz = 1 ∧ (R 1).n = ts.length ∧ (R 1).xs = pCells ((List.range ts.length).map (behindF ts)))
    (h2 : (R 2).e = 138 ∧ (R 2).sz = 6 ∧ (R 2).n = L.length ∧ (R 2).xs = rdCells (L.map (rdc ts)))
    (h3 : (R 3).e = 138 ∧ (R 3).sz = 6 ∧ (R 3).n = (inL L).length ∧ (R 3).xs = rdCells ((inL L).map (rdc ts)))
    (h4 : (R 4).e = 138 ∧ (R 4).sz = 6 ∧ (R 4).n = (eqL L).length ∧ (R 4).xs = rdCells ((eqL L).map (rdc ts))) :
    RProg w' q g cap ts L (R 1).v (R 2).v (R 3).v (R 4).v := by
  have o1 := own_zero (h.own 1)
  have o2 := own_zero (h.own 2)
  have o3 := own_zero (h.own 3)
  have o4 := own_zero (h.own 4)
  rw [h1.1, h1.2.1, h1.2.2.1, h1.2.2.2] at o1
  rw [h2.1, h2.2.1, h2.2.2.1, h2.2.2.2] at o2
  rw [h3.1, h3.2.1, h3.2.2.1, h3.2.2.2] at o3
  rw [h4.1, h4.2.1, h4.2.2.1, h4.2.2.2] at o4
  exact ⟨h.lt, cell_of_row w' q 0 _ _ _ h.blk, cell_of_row w' q 1 _ _ _ h.blk, cell_of_row w' q 2 _ _ _ h.blk, cell_of_row w' q 3 _ _ _ h.blk, cell_of_row w' q 4 _ _ _ h.blk, ht, o1, o2, o3, o4⟩

/-- what a reading gives. -/
def ReadOk (s : ByteArray) (w : World) (p : Value) (w' : World) : Prop :=
  Below w.heap.size w w' ∧ ((textF s).1 = 0 → ∃ (q g cap : Nat) (L : List Dl) (vE vA vI vQ : Value), p = .pointer (some ⟨q, 0, none⟩) ∧ RProg w' q g cap (toks s) L vE vA vI vQ ∧ ROk (toks s) L ∧ RGood s L)

set_option maxHeartbeats 2000000 in
set_option maxRecDepth 100000 in
theorem rread_any (s : ByteArray) (w : World) :
    Calls Try.prog 46 #[.string s] w fun e w' => ∃ p, e = .returned (.tuple #[p, .int .i64 ((textF s).1 : Int), .int .i64 ((textF s).2 : Int)]) ∧ ReadOk s w p w' := by
  by_cases hs : s.size ≤ 1500
  case neg =>
    have ht : textF s = (1, 0) := by unfold textF; rw [if_pos (by omega)]
    have HT := hide ht
    have z1 : (1500 : Int) < (s.size : Int) := by omega
    clear ht
    go_enter Try.func46, Try.ntmps46
    go_wp2
    go_ret3
    exact ⟨_, by rw [HT.out]; rfl, Below.refl _ _, fun h => by rw [HT.out] at h; cases h⟩
  have z1 : ¬ (1500 : Int) < (s.size : Int) := by omega
  have hok := toks_ok s hs
  have hF := toks_F s
  have hE := toks_end s
  have hp : ∀ i, (tkAt (toks s) i).pos ≤ 1500 := fun i => Nat.le_trans (pos_le s i) hs
  have HREF := hide (text_read s hs)
  have HTS := hide (fun W => rtokens_any s W hs)
  have hrl : (rtoks s).length = (toks s).length := by unfold rtoks; rw [List.length_map]
  have HFE := hide (And.intro hF (And.intro hE (And.intro hp hok)))
  have HRL := hide hrl
  clear hF hE hp hok hrl
  go_enter Try.func46, Try.ntmps46
  go_wp2_with fail
  refine (HTS.out w).mono ?_
  rintro e w1 ⟨v, rfl, hown, hb1⟩
  rw [HRL.out] at hown
  obtain ⟨g, cap, rfl, hg1, hg2⟩ := hown.form HFE.out.2.2.2.pos
  have HTK : Hid (TokAt w1 g cap (toks s)) := hide ⟨own_zero hown, hg2⟩
  clear hown HTS
  rcases HREF.out with ⟨k, hkl, ht, n, hans⟩ | ⟨L, hsp, ⟨n, hans⟩, ht, hpar⟩
  · have HT := hide ht
    have HAN := hide hans
    have hpk := HFE.out.2.2.1 k
    generalize (tkAt (toks s) k).pos = ps at HT HAN hpk
    have z2 : (0 : Int) ≤ (ps : Int) := by omega
    clear ht hans HREF
    go_wp2_with fail
    refine (stands_any (toks s) n (ps : Int) w1 g cap HTK.out HFE.out.1 HFE.out.2.2.2.1 HAN.out).mono ?_
    rintro e2 w2 ⟨rfl, hb2⟩
    have HB := hide (hb1.trans (hb2.mono hb1.size))
    clear hb1 hb2
    go_wp2
    go_ret3
    exact ⟨_, by rw [HT.out]; rfl, HB.out, fun h => by rw [HT.out] at h; cases h⟩
  · have HT := hide ht
    have HAN := hide hans
    have HOK : Hid (ROk (toks s) L) := hide ⟨HFE.out.1, HFE.out.2.1, HFE.out.2.2.2.1, HFE.out.2.2.2.pos, hsp⟩
    have HSP := hide hsp
    have HPAR := hide hpar
    clear ht hans HREF hsp hpar
    go_wp2_with fail
    refine (stands_any (toks s) n (-1) w1 g cap HTK.out HFE.out.1 HFE.out.2.2.2.1 HAN.out).mono ?_
    rintro e2 w2 ⟨rfl, hb2⟩
    have hbw2 : Below w.heap.size w w2 := hb1.trans (hb2.mono hb1.size)
    have HTK2 := hide (HTK.out.below hb2)
    clear hb1 hb2 HTK
    go_wp2_with fail
    refine (program_any (toks s) L w2 g cap HTK2.out HFE.out.1 HFE.out.2.1 HFE.out.2.2.2.1 HSP.out).mono ?_
    rintro e3 w3 ⟨rfl, R, hrp, r1, r2, r3, r4, hb3⟩
    have hbw3 : Below w.heap.size w w3 := hbw2.trans (hb3.mono hbw2.size)
    have HRP := hide (hrp.prog (HTK2.out.below hb3) r1 r2 r3 r4)
    generalize w2.heap.size = q at HRP ⊢
    generalize (R 1).v = vE at HRP
    generalize (R 2).v = vA at HRP
    generalize (R 3).v = vI at HRP
    generalize (R 4).v = vQ at HRP
    clear hrp r1 r2 r3 r4 hb3 hbw2 HTK2
    go_wp2_with fail
    refine (rmany_any w3 q g cap (toks s) L vE vA vI vQ HRP.out HOK.out HFE.out.2.2.1).mono ?_
    rintro e4 w4 ⟨rfl, hb4⟩
    have HRP4 := hide (HRP.out.below hb4)
    have hbw4 : Below w.heap.size w w4 := hbw3.trans (hb4.mono hbw3.size)
    clear hb4 hbw3 HRP
    cases h1 : manyR (toks s) L with
    | some a =>
      have HF : Hid (textF s = (3, a)) := hide (by rw [HT.out]; unfold readR; rw [h1])
      simp only [optI]
      have z2 : (0 : Int) ≤ (a : Int) := by omega
      clear h1
      go_wp2
      go_ret3
      exact ⟨_, by rw [HF.out]; rfl, hbw4, fun h => by rw [HF.out] at h; cases h⟩
    | none =>
      have H1 := hide h1
      simp only [optI]
      clear h1
      go_wp2_with fail
      refine (rnames_any w4 q g cap (toks s) L vE vA vI vQ HRP4.out HOK.out HFE.out.2.2.1).mono ?_
      rintro e5 w5 ⟨rfl, hb5⟩
      have HRP5 := hide (HRP4.out.below hb5)
      have hbw5 : Below w.heap.size w w5 := hbw4.trans (hb5.mono hbw4.size)
      clear hb5 hbw4 HRP4
      cases h2 : namesR (toks s) L with
      | some a =>
        have HF : Hid (textF s = (4, a)) := hide (by rw [HT.out]; unfold readR; rw [H1.out]; simp only; rw [h2])
        simp only [optI]
        have z2 : (0 : Int) ≤ (a : Int) := by omega
        clear h2
        go_wp2
        go_ret3
        exact ⟨_, by rw [HF.out]; rfl, hbw5, fun h => by rw [HF.out] at h; cases h⟩
      | none =>
        have H2 := hide h2
        simp only [optI]
        clear h2
        go_wp2_with fail
        refine (rtypes_any w5 q g cap (toks s) L vE vA vI vQ HRP5.out HOK.out HFE.out.2.2.1).mono ?_
        rintro e6 w6 ⟨rfl, hb6⟩
        have HRP6 := hide (HRP5.out.below hb6)
        have hbw6 : Below w.heap.size w w6 := hbw5.trans (hb6.mono hbw5.size)
        clear hb6 hbw5 HRP5
        cases h3 : typesR (toks s) L with
        | some a =>
          have HF : Hid (textF s = (5, a)) := hide (by rw [HT.out]; unfold readR; rw [H1.out]; simp only; rw [H2.out]; simp only; rw [h3])
          simp only [optI]
          have z2 : (0 : Int) ≤ (a : Int) := by omega
          clear h3
          go_wp2
          go_ret3
          exact ⟨_, by rw [HF.out]; rfl, hbw6, fun h => by rw [HF.out] at h; cases h⟩
        | none =>
          have H3 := hide h3
          simp only [optI]
          clear h3
          go_wp2_with fail
          refine (rcycle_any w6 q g cap (toks s) L vE vA vI vQ HRP6.out HOK.out).mono ?_
          rintro e7 w7 ⟨rfl, hb7⟩
          have HRP7 := hide (HRP6.out.below hb7)
          have hbw7 : Below w.heap.size w w7 := hbw6.trans (hb7.mono hbw6.size)
          clear hb7 hbw6 HRP6
          cases h4 : cycR (toks s) L with
          | some a =>
            have HF : Hid (textF s = (6, a)) := hide (by rw [HT.out]; unfold readR; rw [H1.out]; simp only; rw [H2.out]; simp only; rw [H3.out]; simp only; rw [h4])
            simp only [optI]
            have z2 : (0 : Int) ≤ (a : Int) := by omega
            clear h4
            go_wp2
            go_ret3
            exact ⟨_, by rw [HF.out]; rfl, hbw7, fun h => by rw [HF.out] at h; cases h⟩
          | none =>
            have H4 := hide h4
            simp only [optI]
            clear h4
            go_wp2_with fail
            refine (rloop_any w7 q g cap (toks s) L vE vA vI vQ HRP7.out HOK.out).mono ?_
            rintro e8 w8 ⟨rfl, hb8⟩
            have HRP8 := hide (HRP7.out.below hb8)
            have hbw8 : Below w.heap.size w w8 := hbw7.trans (hb8.mono hbw7.size)
            clear hb8 hbw7 HRP7
            cases h5 : lpR (toks s) L with
            | some a =>
              have HF : Hid (textF s = (7, a)) := hide (by rw [HT.out]; unfold readR; rw [H1.out]; simp only; rw [H2.out]; simp only; rw [H3.out]; simp only; rw [H4.out]; simp only; rw [h5])
              simp only [optI]
              have z2 : (0 : Int) ≤ (a : Int) := by omega
              clear h5
              go_wp2
              go_ret3
              exact ⟨_, by rw [HF.out]; rfl, hbw8, fun h => by rw [HF.out] at h; cases h⟩
            | none =>
              have HF : Hid (textF s = (0, 0)) := hide (by rw [HT.out]; unfold readR; rw [H1.out]; simp only; rw [H2.out]; simp only; rw [H3.out]; simp only; rw [H4.out]; simp only; rw [h5])
              have H5 := hide h5
              simp only [optI]
              clear h5
              go_wp2
              go_ret3
              exact ⟨_, by rw [HF.out]; rfl, hbw8, fun _ => ⟨q, g, cap, L, vE, vA, vI, vQ, rfl, HRP8.out, HOK.out, ⟨H1.out, H2.out, H3.out, H4.out, H5.out, HSP.out, HPAR.out⟩⟩⟩

end Go.Proofs.Ytmndgoapkmhglaa
