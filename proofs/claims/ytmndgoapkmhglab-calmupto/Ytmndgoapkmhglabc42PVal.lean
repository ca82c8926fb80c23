import Derived.Test.Ytmndgoapkmhglabc24JudM
import Derived.Test.Ytmndgoapkmhglabc29PlyL
import Derived.Test.Ytmndgoapkmhglabc34RefT
import Derived.Test.Ytmndgoapkmhglabc41AcC
namespace Go.Proofs.Ytmndgoapkmhglab
open Go.RowKit
attribute [local go_sem ↓] Go.wp_at_zero Go.wp_at_succ

/-- a declaration laid into a box. -/
theorem dec_step (d : RDc) (w : World) {wr : World} (hb : Below (w.alloc (.cells #[.string d.name, .int .i64 (d.tok : Int), .bool d.input, .bool d.truth, .int .i64 (d.place : Int), .int .i64 (d.body : Int)] 115)).heap.size (w.alloc (.cells #[.string d.name, .int .i64 (d.tok : Int), .bool d.input, .bool d.truth, .int .i64 (d.place : Int), .int .i64 (d.body : Int)] 115)) wr) :
    wr.cell? ⟨w.heap.size, 5, none⟩ = some (.int .i64 (d.body : Int)) ∧ wr.cell? ⟨w.heap.size, 4, none⟩ = some (.int .i64 (d.place : Int)) ∧ Below w.heap.size w wr := by
  have hN := (hb.block w.heap.size (by simp)).trans (heap_alloc_new w _)
  refine ⟨?_, ?_, ((Below.refl _ _).alloc (Nat.le_refl _) _).trans (hb.mono (by simp))⟩
  · rw [cell_of_row wr _ 5 _ _ _ hN]; rfl
  · rw [cell_of_row wr _ 4 _ _ _ hN]; rfl

set_option maxHeartbeats 1000000 in
theorem rhangs_any (w : World) (q g cap : Nat) (ts : List Tk) (L : List Dl) (vE vA vI vQ : Value) (h : RProg w q g cap ts L vE vA vI vQ) (ho : ROk ts L) (x : Dl) (hx : x ∈ eqL L) (name : ByteArray) :
    Calls Try.prog 94 #[.pointer (some ⟨q, 0, none⟩), (rdc ts x).val, .string name] w fun e w' => e = .returned (.bool (hangsR ts x name.data.toList)) ∧ Below w.heap.size w w' := by
  have hlen := ho.len
  have hpos := ho.pos
  obtain ⟨gE, capE, rfl, _, hgE⟩ := h.ends.form (by omega)
  obtain ⟨hxm, hxk, hxs, hxl, _⟩ := ho.eq hx
  have hbd : (rdc ts x).body = x.i + 5 := by unfold rdc; rw [if_neg hxk]
  have hbe : behindF ts (x.i + 5) = x.i + 5 + x.t.len := behind_sp ho.F x.t (x.i + 5) hxs (by omega)
  have HR := hide h
  have HO := hide ho
  generalize rdc ts x = d at hbd
  obtain ⟨b, hb⟩ : ∃ b, b = x.i + 5 := ⟨_, rfl⟩
  obtain ⟨e, he⟩ : ∃ e, e = b + x.t.len := ⟨_, rfl⟩
  rw [← hb] at hbe hbd
  rw [← he] at hbe
  have HBE := hide hbe
  have HHG : Hid (((List.range' b (e - b)).any fun j => isNm ts j && (lAt ts j == name.data.toList && !delayedR ts b j)) = hangsR ts x name.data.toList) := hide (by unfold hangsR; rw [← hb, he, Nat.add_sub_cancel_left])
  have hel : e < ts.length := by omega
  have hble : b ≤ e := by omega
  have HB := hide (fun wr hb => dec_step d w (wr := wr) hb)
  rw [hbd] at HB
  clear hbe he hb h ho hxs hxm hxk hx
  obtain ⟨W0, hW0⟩ : ∃ W0, W0 = w.alloc (.cells #[.string d.name, .int .i64 (d.tok : Int), .bool d.input, .bool d.truth, .int .i64 (d.place : Int), .int .i64 (b : Int)] 115) := ⟨_, rfl⟩
  rw [← hW0] at HB
  obtain ⟨t0, _, t2⟩ := HB.out W0 (Below.refl _ _)
  have r0 := end_later HR.out.ends t2 hgE (show b < ts.length by omega)
  have c1 := (HR.out.below t2).c1
  rw [HBE.out] at r0
  have j1 : (0 : Int) ≤ (b : Int) := by omega
  have j2 : (b : Int) < (ts.length : Int) := by omega
  show Calls Try.prog 94 #[.pointer (some ⟨q, 0, none⟩), .agg #[.string d.name, .int .i64 (d.tok : Int), .bool d.input, .bool d.truth, .int .i64 (d.place : Int), .int .i64 (d.body : Int)], .string name] w _
  rw [hbd]
  have HW0 := hide hW0
  clear hbd hW0
  go_enter Try.func94, Try.ntmps94
  go_wp2
  rw [← HW0.out]
  go_loopw [7] (fun f wr => ∃ k : Nat, b ≤ k ∧ k ≤ e ∧ f = .int .i64 k ∧ Below W0.heap.size W0 wr ∧ ((List.range' k (e - k)).any fun j => isNm ts j && (lAt ts j == name.data.toList && !delayedR ts b j)) = hangsR ts x name.data.toList) (fun f _ => e - (intOf f).toNat)
  case atStart => exact ⟨b, Nat.le_refl _, hble, rfl, Below.refl _ _, HHG.out⟩
  case round =>
    clear t0 c1 r0
    obtain ⟨k, hk0, hk, rfl, hbel, hrec⟩ := hrel
    obtain ⟨t0, _, hbw⟩ := HB.out wr hbel
    have hrp := HR.out.below hbw
    have c0 := hrp.c0
    have c1 := hrp.c1
    have r0 := end_later HR.out.ends hbw hgE (show b < ts.length by omega)
    rw [HBE.out] at r0
    by_cases hlt : k < e
    · have j5 : (k : Int) < (e : Int) := by omega
      have j3 : (0 : Int) ≤ (k : Int) := by omega
      have j4 : (k : Int) < (ts.length : Int) := by omega
      rw [any_range _ _ hlt] at hrec
      have HRC := hide hrec
      have HRP := hide hrp
      clear hrec hrp
      go_wp2_with fail
      go_quiet (fail)
      go_wp2_with fail
      have hdr : Below wr.heap.size wr (wr.drewN nq) := below_drewN (Below.refl _ _) _
      refine (rdelayed_any _ q g cap ts L _ _ _ _ (HRP.out.below hdr) HO.out b k hk0 (by omega)).mono ?_
      rintro e1 w2 ⟨rfl, hb2⟩
      have hbx : Below wr.heap.size wr w2 := hdr.trans (hb2.mono hdr.size)
      have hbel2 : Below W0.heap.size W0 w2 := hbel.trans (hbx.mono hbel.size)
      have hbw2 : Below w.heap.size w w2 := hbw.trans (hbx.mono hbw.size)
      clear hdr hb2 hbx hbel hbw c0 c1 r0 t0
      have c0 := (HR.out.below hbw2).c0
      obtain ⟨a, ha⟩ : ∃ a, a = rtok (tkAt ts k) := ⟨_, rfl⟩
      obtain ⟨x0, x1, x2, x3⟩ := HR.out.toks.cells hbw2 (show k < ts.length by omega) a ha
      have hc := c97 (tkAt ts k)
      rw [← ha] at hc
      have hrec := HRC.out
      generalize delayedR ts b k = lt at hrec ⊢
      by_cases hnm : (tkAt ts k).kind = 1
      · have q1 : ((a.c : Int) == 97) = true := by
          rw [show (97 : Int) = ((97 : Nat) : Int) from rfl, beq_cast, hc, hnm]; rfl
        have hw : a.word = (tkAt ts k).text := by rw [ha]; unfold rtok; simp [hnm]
        obtain ⟨ee, qE⟩ : ∃ ee, (a.word.toList == name.toList) = ee := ⟨_, rfl⟩
        have eE : (lAt ts k == name.data.toList) = ee := by
          rw [← qE, ByteArray.toList_eq, ByteArray.toList_eq, hw]; rfl
        rw [eE, show isNm ts k = true by unfold isNm; rw [hnm]; rfl, Bool.true_and] at hrec
        have HRX := hide hrec
        have HB2 := hide (And.intro hbel2 hbw2)
        clear hrec hc hnm ha hw eE HRC
        cases ee
        · have HR2 : Hid (((List.range' (k + 1) (e - (k + 1))).any fun j => isNm ts j && (lAt ts j == name.data.toList && !delayedR ts b j)) = hangsR ts x name.data.toList) := hide (by rw [← HRX.out]; simp)
          clear HRX
          go_wp2
          go_roundw
          case rel => exact ⟨k + 1, by omega, by omega, by go_num, by first | exact HB2.out.1 | exact below_drewN HB2.out.1 _, HR2.out⟩
          case measure => simp [intOf]; omega
        · cases lt
          · have HR2 : Hid (hangsR ts x name.data.toList = true) := hide (by rw [← HRX.out]; simp)
            clear HRX
            go_wp2
            go_ret
            exact ⟨by rw [HR2.out]; rfl, by first | exact HB2.out.2 | exact below_drewN HB2.out.2 _⟩
          · have HR2 : Hid (((List.range' (k + 1) (e - (k + 1))).any fun j => isNm ts j && (lAt ts j == name.data.toList && !delayedR ts b j)) = hangsR ts x name.data.toList) := hide (by rw [← HRX.out]; simp)
            clear HRX
            go_wp2
            go_roundw
            case rel => exact ⟨k + 1, by omega, by omega, by go_num, by first | exact HB2.out.1 | exact below_drewN HB2.out.1 _, HR2.out⟩
            case measure => simp [intOf]; omega
      · have q1 : ((a.c : Int) == 97) = false := by
          rw [show (97 : Int) = ((97 : Nat) : Int) from rfl, beq_cast, hc]; exact beq_eq_false_iff_ne.2 hnm
        have hno : isNm ts k = false := by unfold isNm; exact beq_eq_false_iff_ne.2 hnm
        have HR2 : Hid (((List.range' (k + 1) (e - (k + 1))).any fun j => isNm ts j && (lAt ts j == name.data.toList && !delayedR ts b j)) = hangsR ts x name.data.toList) := hide (by rw [← hrec, hno]; simp)
        have HB2 := hide (And.intro hbel2 hbw2)
        clear hrec hc hnm ha hno HRC
        go_wp2
        go_roundw
        case rel => exact ⟨k + 1, by omega, by omega, by go_num, by first | exact HB2.out.1 | exact below_drewN HB2.out.1 _, HR2.out⟩
        case measure => simp [intOf]; omega
    · have ek : e - k = 0 := by omega
      rw [ek] at hrec
      have HRC := hide hrec
      have z1 : ¬ (k : Int) < (e : Int) := by omega
      have HBW := hide hbw
      clear hrec ek hrp
      go_wp2_with fail
      go_quiet (fail)
      go_wp2
      go_ret
      exact ⟨by rw [← HRC.out]; rfl, below_drewN HBW.out _⟩

end Go.Proofs.Ytmndgoapkmhglab

namespace Go.Proofs.Ytmndgoapkmhglab
open Go.RowKit
attribute [local go_sem ↓] Go.wp_at_zero Go.wp_at_succ

set_option maxHeartbeats 2000000 in
set_option maxRecDepth 100000 in
theorem rcycle_any (w : World) (q g cap : Nat) (ts : List Tk) (L : List Dl) (vE vA vI vQ : Value) (h : RProg w q g cap ts L vE vA vI vQ) (ho : ROk ts L) :
    Calls Try.prog 63 #[.pointer (some ⟨q, 0, none⟩)] w fun e w' => e = .returned (optI (cycR ts L)) ∧ Below w.heap.size w w' := by
  obtain ⟨hm1, hm2, hm3⟩ := ho.many
  obtain ⟨av, cv, rfl, hsh⟩ := own_shape h.eqs
  have c4 := h.c4
  have HR := hide h
  have HO := hide ho
  have HSH := hide hsh
  clear h ho hsh
  go_enter Try.func63, Try.ntmps63
  go_wp2_with fail
  refine (rsquare_any w (eqL L).length hm2).mono ?_
  rintro e w1 ⟨v, rs, rfl, hrl, hown, hrows, hnd, hb1⟩
  obtain ⟨a, g2, cap2, R, rfl, hag, hmat, hRB, hg2⟩ := square_mat hrl hown hrows hnd
  have HAG := hide hag
  have HRB := hide hRB
  have HM1 := hide hmat
  have c4' := (HR.out.below hb1).c4
  clear hrl hown hrows hnd hag hmat hRB c4
  go_wp2
  -- the rows, marked as far as row k
  go_loopw [4] (fun i wr => ∃ (k : Nat) (M : Mx), k ≤ (eqL L).length ∧ i = .int .i64 k ∧ Mat wr g2 (eqL L).length R M ∧ Below w.heap.size w wr ∧ agree (eqL L).length M (fun i j => if i < k then relR ts L i j else false)) (fun i _ => (eqL L).length - (intOf i).toNat)
  case atStart => exact ⟨0, noM, Nat.zero_le _, rfl, HM1.out, hb1, fun i j _ _ => by simp [noM]⟩
  case round =>
    clear HM1 hb1 c4'
    obtain ⟨k, M, hk, rfl, hmat, hbel, hagr⟩ := hrel
    have c4 := (HR.out.below hbel).c4
    have HMAT := hide hmat
    have HAGR := hide hagr
    clear hmat hagr
    by_cases hlt : k < (eqL L).length
    · have hag := HAG.out (by omega)
      subst hag
      obtain ⟨gq, hgq, _, hgq2⟩ := HSH.out (by omega)
      subst hgq
      have j1 : (0 : Int) ≤ (k : Int) := by omega
      have j2 : (k : Int) < ((eqL L).length : Int) := by omega
      obtain ⟨x, hx⟩ : ∃ x, x = (eqL L)[k]'hlt := ⟨_, rfl⟩
      have HXM : Hid (x ∈ eqL L) := hide (by rw [hx]; exact List.getElem_mem hlt)
      have HX := hide hx
      clear hx
      go_wp2
      go_loopw [5] (fun i wr => ∃ (m : Nat) (M : Mx), m ≤ (eqL L).length ∧ i = .int .i64 m ∧ Mat wr g2 (eqL L).length R M ∧ Below w.heap.size w wr ∧ agree (eqL L).length M (fun i j => if i < k ∨ (i = k ∧ j < m) then relR ts L i j else false)) (fun i _ => (eqL L).length - (intOf i).toNat)
      case atStart => exact ⟨0, M, Nat.zero_le _, rfl, HMAT.out, hbel, fun i j hi hj => by rw [HAGR.out i j hi hj]; simp⟩
      case round =>
        clear HMAT HAGR c4 hbel
        obtain ⟨m, M2, hm, rfl, hmat, hbel, hagr⟩ := hrel
        have c4 := (HR.out.below hbel).c4
        by_cases hml : m < (eqL L).length
        · have j3 : (0 : Int) ≤ (m : Int) := by omega
          have j4 : (m : Int) < ((eqL L).length : Int) := by omega
          obtain ⟨d, hd⟩ : ∃ d, d = rdc ts x := ⟨_, rfl⟩
          obtain ⟨y0, y1, y2, y3, y4, y5⟩ := rd_later HR.out.eqs hbel hgq2 hlt d (by rw [hd, HX.out])
          obtain ⟨z, hz⟩ : ∃ z, z = (eqL L)[m]'hml := ⟨_, rfl⟩
          obtain ⟨z0, _⟩ := rd_later HR.out.eqs hbel hgq2 hml (rdc ts z) (by rw [hz])
          rw [(rdc_tok ts z).2] at z0
          have o1 := hmat.outer k hlt
          have o2 := hmat.cell hlt hml
          have o3 := hmat.froz hlt m
          have HMAT := hide hmat
          have HAGR := hide hagr
          have HD := hide hd
          have HREL : Hid (relR ts L k m = hangsR ts x (nameD ts z).data.toList) := hide (by unfold relR; rw [List.getElem?_eq_getElem hlt, List.getElem?_eq_getElem hml, ← HX.out, ← hz])
          generalize nameD ts z = nm at z0 HREL
          clear hmat hagr hd hz
          have HRP := hide (HR.out.below hbel)
          have HBL := hide hbel
          have HCALL : Hid (∀ W, RProg W q g cap ts L vE vA vI (.slice (some ⟨gq, 0, none⟩) (eqL L).length cv) → Calls Try.prog 94 #[.pointer (some ⟨q, 0, none⟩), .agg #[.string d.name, .int .i64 (d.tok : Int), .bool d.input, .bool d.truth, .int .i64 (d.place : Int), .int .i64 (d.body : Int)], .string nm] W fun e w' => e = .returned (.bool (hangsR ts x nm.data.toList)) ∧ Below W.heap.size W w') := hide (fun W hW => by
            have hd := HD.out
            subst hd
            exact rhangs_any W q g cap ts L _ _ _ _ hW HO.out x HXM.out nm)
          have l1 := HRP.out.lt
          have l2 : gq < wr.heap.size := by have := hbel.size; omega
          have l3 := HMAT.out.lt (show 0 < (eqL L).length by omega)
          have l4 := World.rowIs.lt (HMAT.out.rows k hlt)
          generalize hangsR ts x nm.data.toList = hg at HREL HCALL
          have lk := HRB.out k hlt
          have lq := HR.out.lt
          have n1 : R k ≠ q := by omega
          have n2 : R k ≠ gq := by omega
          have n3 : R k ≠ g2 := HMAT.out.ne k hlt
          have n1' : q ≠ R k := by omega
          have n2' : gq ≠ R k := by omega
          have n3' : g2 ≠ R k := Ne.symm n3
          go_wp2_with fail
          go_region_held3 (fun w' => w'.cell? ⟨q, 4, none⟩ = some (.slice (some ⟨gq, 0, none⟩) (eqL L).length cv) ∧ w'.cell? ⟨gq, k * 6, none⟩ = some (.string d.name) ∧ w'.cell? ⟨gq, k * 6 + 1, none⟩ = some (.int .i64 (d.tok : Int)) ∧ w'.cell? ⟨gq, k * 6 + 2, none⟩ = some (.bool d.input) ∧ w'.cell? ⟨gq, k * 6 + 3, none⟩ = some (.bool d.truth) ∧ w'.cell? ⟨gq, k * 6 + 4, none⟩ = some (.int .i64 (d.place : Int)) ∧ w'.cell? ⟨gq, k * 6 + 5, none⟩ = some (.int .i64 (d.body : Int)) ∧ w'.cell? ⟨gq, m * 6, none⟩ = some (.string nm) ∧ w'.cell? ⟨g2, k, none⟩ = some (.slice (some ⟨R k, 0, none⟩) (eqL L).length (eqL L).length)) (first | go_keep | exact ⟨(World.cell?_setCell_other _ _ _ _ (fun e => n1 (congrArg Addr.block e))).trans t0, (World.cell?_setCell_other _ _ _ _ (fun e => n2 (congrArg Addr.block e))).trans t1, (World.cell?_setCell_other _ _ _ _ (fun e => n2 (congrArg Addr.block e))).trans t2, (World.cell?_setCell_other _ _ _ _ (fun e => n2 (congrArg Addr.block e))).trans t3, (World.cell?_setCell_other _ _ _ _ (fun e => n2 (congrArg Addr.block e))).trans t4, (World.cell?_setCell_other _ _ _ _ (fun e => n2 (congrArg Addr.block e))).trans t5, (World.cell?_setCell_other _ _ _ _ (fun e => n2 (congrArg Addr.block e))).trans t6, (World.cell?_setCell_other _ _ _ _ (fun e => n2 (congrArg Addr.block e))).trans t7, (World.cell?_setCell_other _ _ _ _ (fun e => n3 (congrArg Addr.block e))).trans t8⟩)
            ((go_at_call 94; refine (HCALL.out _ (HRP.out.below ((Below.refl _ _).drew))).mono ?_; rintro e w2 ⟨rfl, hbF⟩; have t0 := (hbF.cell (p := ⟨q, 4, none⟩) l1).trans c4; have t1 := (hbF.cell (p := ⟨gq, k * 6, none⟩) l2).trans y0; have t2 := (hbF.cell (p := ⟨gq, k * 6 + 1, none⟩) l2).trans y1; have t3 := (hbF.cell (p := ⟨gq, k * 6 + 2, none⟩) l2).trans y2; have t4 := (hbF.cell (p := ⟨gq, k * 6 + 3, none⟩) l2).trans y3; have t5 := (hbF.cell (p := ⟨gq, k * 6 + 4, none⟩) l2).trans y4; have t6 := (hbF.cell (p := ⟨gq, k * 6 + 5, none⟩) l2).trans y5; have t7 := (hbF.cell (p := ⟨gq, m * 6, none⟩) l2).trans z0; have t8 := (hbF.cell (p := ⟨g2, k, none⟩) l3).trans o1; have t9 := (hbF.cell (p := ⟨R k, m, none⟩) l4).trans o2; have tf := (hbF.frozen (p := ⟨R k, m, none⟩) l4).trans o3))
          rename_i hHeld
          clear hHeld
          have HM2 : Hid (Mat w2 g2 (eqL L).length R M2) := hide (HMAT.out.keep (hbF.block g2 l3) (fun i hi => hbF.block (R i) (World.rowIs.lt (HMAT.out.rows i hi))))
          have HB2 : Hid (Below w.heap.size w w2) := hide (HBL.out.drew.trans (hbF.mono HBL.out.size))
          clear hbF t0 t1 t2 t3 t4 t5 t6 t7 t8 t9 tf y0 y1 y2 y3 y4 y5 z0 o1 o2 o3 c4
          go_wp2
          go_roundw
          case rel =>
            refine ⟨m + 1, upd M2 k m hg, by omega, by go_num, HM2.out.set hlt m hg, HB2.out.setCell lk _, fun i j hi hj => ?_⟩
            show upd M2 k m hg i j = if i < k ∨ (i = k ∧ j < m + 1) then relR ts L i j else false
            unfold upd
            by_cases e : i = k ∧ j = m
            · obtain ⟨rfl, rfl⟩ := e
              rw [if_pos ⟨rfl, rfl⟩, if_pos (by omega)]; exact HREL.out.symm
            · rw [if_neg e, HAGR.out i j hi hj]
              show (if i < k ∨ (i = k ∧ j < m) then relR ts L i j else false) = _
              by_cases e2 : i < k ∨ (i = k ∧ j < m)
              · rw [if_pos e2, if_pos (by omega)]
              · rw [if_neg e2, if_neg (by omega)]
          case measure => simp [intOf]; omega
        · have HMAT := hide hmat
          have HAGR := hide hagr
          clear hmat hagr
          go_wp2
          go_roundw
          case rel => exact ⟨k + 1, M2, by omega, by go_num, HMAT.out, hbel, fun i j hi hj => by
            rw [HAGR.out i j hi hj]
            show (if i < k ∨ (i = k ∧ j < m) then relR ts L i j else false) = if i < k + 1 then relR ts L i j else false
            by_cases e : i < k ∨ (i = k ∧ j < m)
            · rw [if_pos e, if_pos (by omega)]
            · rw [if_neg e, if_neg (by omega)]⟩
          case measure => simp [intOf]; omega
    · have ek : k = (eqL L).length := by omega
      subst ek
      have HMR : Hid (Mat wr g2 (eqL L).length R (relR ts L)) := hide (HMAT.out.congr (fun i j hi hj => by rw [HAGR.out i j hi hj]; show (if i < (eqL L).length then _ else _) = _; rw [if_pos hi]))
      have z1 : ¬ ((eqL L).length : Int) < ((eqL L).length : Int) := by omega
      clear HMAT HAGR
      go_wp2_with fail
      refine (rcircles_any wr a g2 (eqL L).length cap2 w.heap.size R (relR ts L) HMR.out HAG.out hm2 hbel.size HRB.out).mono ?_
      rintro e2 w2 ⟨G, rfl, hG, hrow, hb2⟩
      have hbel2 : Below w.heap.size w w2 := hbel.trans hb2
      have HCY : Hid (firstC ts (warsh (relR ts L) (eqL L).length) 0 ((eqL L).drop 0) = cycR ts L) := hide rfl
      generalize warsh (relR ts L) (eqL L).length = W at hrow HCY
      have c4'' := (HR.out.below hbel2).c4
      have HROW := hide hrow
      clear hrow hb2 hbel c4 HMR
      go_wp2
      go_loopw [7] (fun i wx => ∃ m : Nat, m ≤ (eqL L).length ∧ i = .int .i64 m ∧ wx.rowIs G 4 (eqL L).length (fun i => .bool (W i i)) ∧ Below w.heap.size w wx ∧ firstC ts W m ((eqL L).drop m) = cycR ts L) (fun i _ => (eqL L).length - (intOf i).toNat)
      case atStart => exact ⟨0, Nat.zero_le _, rfl, HROW.out, hbel2, HCY.out⟩
      case round =>
        clear HROW hbel2 c4'' HCY
        obtain ⟨m, hm, rfl, hrow, hbel, hrec⟩ := hrel
        have c4 := (HR.out.below hbel).c4
        by_cases hml : m < (eqL L).length
        · obtain ⟨gq, hgq, _, hgq2⟩ := HSH.out (by omega)
          subst hgq
          obtain ⟨x, hx⟩ : ∃ x, x = (eqL L)[m]'hml := ⟨_, rfl⟩
          have hxm : x ∈ L := (HO.out.eq (by rw [hx]; exact List.getElem_mem hml)).1
          have ht := HO.out.tok hxm
          have hpos := rdc_pos ts x
          obtain ⟨y0, y1, y2, y3, y4, y5⟩ := rd_later HR.out.eqs hbel hgq2 hml (rdc ts x) (by rw [hx])
          rw [List.drop_eq_getElem_cons hml, ← hx] at hrec
          simp only [firstC] at hrec
          have r1 := hrow.cell hml
          have HRC := hide hrec
          have HRW := hide hrow
          have HRP := hide (HR.out.below hbel)
          have HPX := hide hpos
          have HTX := hide ht
          have j3 : (0 : Int) ≤ (m : Int) := by omega
          have j4 : (m : Int) < ((eqL L).length : Int) := by omega
          generalize rdc ts x = d at y0 y1 y2 y3 y4 y5 HPX HTX
          generalize W m m = b at r1 HRC
          clear hrec hrow hxm ht hx hpos
          cases b
          · have HR2 : Hid (firstC ts W (m + 1) ((eqL L).drop (m + 1)) = cycR ts L) := hide (by rw [← HRC.out]; simp)
            clear HRC
            go_wp2
            go_roundw
            case rel => exact ⟨m + 1, by omega, by go_num, HRW.out, hbel, HR2.out⟩
            case measure => simp [intOf]; omega
          · have HR2 : Hid (cycR ts L = some (posD ts x)) := hide (by rw [← HRC.out]; simp)
            clear HRC
            go_wp2_with fail
            refine (rplace_any _ q g cap ts L _ _ _ _ HRP.out d HTX.out).mono ?_
            rintro e3 w3 ⟨rfl, hb3⟩
            rw [HPX.out]
            go_wp2
            go_ret
            exact ⟨by rw [HR2.out]; rfl, hbel.trans (hb3.mono hbel.size)⟩
        · have em : m = (eqL L).length := by omega
          subst em
          rw [List.drop_length] at hrec
          have HRC := hide hrec
          have z2 : ¬ ((eqL L).length : Int) < ((eqL L).length : Int) := by omega
          clear hrec hrow
          go_wp2
          go_ret
          exact ⟨by rw [← HRC.out]; rfl, hbel⟩

end Go.Proofs.Ytmndgoapkmhglab

/- Valid of the program. -/
namespace Go.Proofs.Ytmndgoapkmhglab
open Go.RowKit
attribute [local go_sem ↓] Go.wp_at_zero Go.wp_at_succ

/-- what a program's Valid answers; what the document's own does. -/
def ValQ (s : ByteArray) (b : BdF) (sc : List OpF) (n : Nat) : Prop := if (textF s).1 ≠ 0 then n = (textF s).1 else ∀ L, RGood s L → ROk (toks s) L → n = validF (toks s) L b sc
def ValR (s : ByteArray) (b : BdF) (sc : List OpF) (n : Nat) : Prop := if (textF s).1 ≠ 0 then n = (textF s).1 else ∃ L, RGood s L ∧ ROk (toks s) L ∧ n = validF (toks s) L b sc
theorem val_same {s : ByteArray} {b : BdF} {sc : List OpF} {n m : Nat} (h : ValQ s b sc n) (h' : ValR s b sc m) : n = m := by
  unfold ValQ at h
  unfold ValR at h'
  split at h
  · rename_i h0
    rw [if_pos h0] at h'
    rw [h, h']
  · rename_i h0
    rw [if_neg h0] at h'
    obtain ⟨L, h1, h2, h3⟩ := h'
    rw [h3]; exact h L h1 h2

set_option maxHeartbeats 2000000 in
set_option maxRecDepth 100000 in
theorem pvalid_any (s : ByteArray) (hs : s.size ≤ maxLen) (b : BdF) (vS : Value) (sc : List OpF) (w : World) (hS : OpsAt w vS sc) :
    Calls Try.prog 29 #[.string s, b.val, vS] w fun e w' => ∃ n : Nat, e = .returned (.int .i64 (n : Int)) ∧ ValQ s b sc n ∧ Below w.heap.size w w' := by
  have HVQ : Hid (∀ n, ValQ s b sc n = if (textF s).1 ≠ 0 then n = (textF s).1 else ∀ L, RGood s L → ROk (toks s) L → n = validF (toks s) L b sc) := hide fun _ => rfl
  have HFIT := hide (pfit_any b)
  have HKP := hide (fun W v h ht => pkeep_any W v sc h b ht)
  have HVF : Hid (∀ L, validF (toks s) L b sc = if fitF b = false then 10 else if playF (toks s) L sc = true ∧ ∀ i, i < sc.length → badV b sc i = false then 0 else 11) := hide fun _ => rfl
  have HKE : Hid (∀ L, (∀ i, i < sc.length → ActOk (toks s) L sc i) → (keepP b sc = true ↔ ∀ i, i < sc.length → badV b sc i = false)) := hide fun L h => keepP_eq h
  generalize hQ1 : ValQ s b sc = Q1 at *
  generalize hkp : keepP b sc = kp at *
  obtain ⟨fb, hfb⟩ : ∃ fb, fitF b = fb := ⟨_, rfl⟩
  rw [hfb] at HFIT HVF
  clear hQ1 hkp hfb
  have HS := hide hS
  obtain ⟨AS, CS, rfl, hmS, hcS⟩ := hS
  clear hcS
  obtain ⟨t0, t1, d0, d1⟩ := b
  obtain ⟨b0, hb0⟩ : ∃ b0, b0 = w.alloc (.cells #[.int .i64 t0, .int .i64 t1, .int .i64 d0, .int .i64 d1] 23) := ⟨_, rfl⟩
  have HW0 : Hid (Below w.heap.size w b0) := hide (by rw [hb0]; exact (Below.refl _ _).alloc (Nat.le_refl _) _)
  have HC : Hid (∀ W : World, Below b0.heap.size b0 W → W.cell? ⟨w.heap.size, 0, none⟩ = some (.int .i64 t0) ∧ W.cell? ⟨w.heap.size, 1, none⟩ = some (.int .i64 t1) ∧ W.cell? ⟨w.heap.size, 2, none⟩ = some (.int .i64 d0) ∧ W.cell? ⟨w.heap.size, 3, none⟩ = some (.int .i64 d1)) := hide fun W hW => box_cells (by rw [hb0] at hW; simpa using hW)
  go_enter Try.func29, Try.ntmps29
  go_wp2_with fail
  rw [← hb0]
  clear hb0
  refine (text_any s b0 hs (good_parse s)).mono ?_
  rintro e w1 ⟨⟨vd, vn, rfl, hr⟩, hb1⟩
  have HB1 := hide hb1
  have HW1 : Hid (Below w.heap.size w w1) := hide (HW0.out.trans (hb1.mono HW0.out.size))
  rcases hr with ⟨h0, rfl, rfl⟩ | ⟨h0, p, hp, ⟨a1, n1, c1, rfl⟩, ⟨a2, n2, c2, rfl⟩, hod, hon, hdn⟩
  · have q1 : (((textF s).1 : Int) != 0) = true := by rw [bne_iff_ne]; omega
    have HQ : Hid (Q1 (textF s).1) := hide (by rw [HVQ.out, if_pos h0])
    clear h0 hb1
    go_wp2
    go_ret
    exact ⟨(textF s).1, rfl, HQ.out, HW1.out.alloc HW1.out.size _⟩
  · have q1 : (((textF s).1 : Int) != 0) = false := by rw [h0]; rfl
    have H0 := hide h0
    have hs' := text_le h0
    have hg := good_parse s hs' p hp
    have hbl : (boundN p).length = p.nodes.length := by simp [boundN]
    have HPA : Hid (∀ o, o = .cells #[.slice a1 n1 c1, .slice a2 n2 c2] 70 → ProgAt (w1.alloc o) w1.heap.size p.decls (boundN p) (.slice a1 n1 c1) (.slice a2 n2 c2)) := hide (fun o ho => by
      subst ho
      exact ⟨by simp, (World.cell?_alloc_at _ _ _ _ rfl).trans rfl, (World.cell?_alloc_at _ _ _ _ rfl).trans rfl, (own_zero hod).alloc _, by rw [hbl]; exact (own_zero hon).alloc _⟩)
    have HPLF : Hid (∀ L, RGood s L → playF (toks s) L sc = playP ((eqsF p.decls).map Dc.place) sc) := hide (fun L hG => by rw [playP_eq, places_held hs' hp hG, playK_eq])
    have hdl := hg.wf.dl
    have k0 : ∀ u, (w1.alloc u).cell? ⟨w.heap.size, 0, none⟩ = some (.int .i64 t0) := fun u => (HC.out _ (hb1.alloc hb1.size u)).1
    have k1 : ∀ u, (w1.alloc u).cell? ⟨w.heap.size, 1, none⟩ = some (.int .i64 t1) := fun u => (HC.out _ (hb1.alloc hb1.size u)).2.1
    have k2 : ∀ u, (w1.alloc u).cell? ⟨w.heap.size, 2, none⟩ = some (.int .i64 d0) := fun u => (HC.out _ (hb1.alloc hb1.size u)).2.2.1
    have k3 : ∀ u, (w1.alloc u).cell? ⟨w.heap.size, 3, none⟩ = some (.int .i64 d1) := fun u => (HC.out _ (hb1.alloc hb1.size u)).2.2.2
    clear h0 hod hon hdn hg hp hbl hb1
    go_wp2_with fail
    refine (HFIT.out _).mono ?_
    rintro e w2 ⟨rfl, hb2⟩
    have hb2' : Below b0.heap.size b0 w2 := (HB1.out.alloc HB1.out.size _).trans (hb2.mono (by have := HB1.out.size; simp; omega))
    have HB2 := hide hb2'
    have HPA2 := hide ((HPA.out _ rfl).below hb2)
    have HW2 : Hid (Below w.heap.size w w2) := hide (HW0.out.trans (hb2'.mono HW0.out.size))
    clear hb2 hb2' k0 k1 k2 k3
    cases fb with
    | false =>
      have HQ : Hid (Q1 10) := hide (by rw [HVQ.out, if_neg (by rw [H0.out]; simp)]; intro L _ _; rw [HVF.out, if_pos rfl])
      go_wp2
      go_ret
      exact ⟨10, rfl, HQ.out, HW2.out⟩
    | true =>
      have HPL := hide (pplayable_any w2 w1.heap.size p.decls (boundN p) _ _ HPA2.out hdl _ sc (HS.out.below HW2.out))
      obtain ⟨pp, hpp⟩ : ∃ pp, pp = playP ((eqsF p.decls).map Dc.place) sc := ⟨_, rfl⟩
      rw [← hpp] at HPL HPLF
      have HPP := hide hpp
      clear hpp
      go_wp2_with fail
      refine HPL.out.mono ?_
      rintro e w3 ⟨rfl, hb3⟩
      have hb3' : Below b0.heap.size b0 w3 := HB2.out.trans (hb3.mono HB2.out.size)
      obtain ⟨c0, c1', c2', c3⟩ := HC.out w3 hb3'
      have HW3 : Hid (Below w.heap.size w w3) := hide (HW0.out.trans (hb3'.mono HW0.out.size))
      clear hb3 hb3'
      cases pp with
      | false =>
        have HQ : Hid (Q1 11) := hide (by
          rw [HVQ.out, if_neg (by rw [H0.out]; simp)]
          intro L hG _
          rw [HVF.out, if_neg (by simp), if_neg (fun e => by have := e.1; rw [HPLF.out L hG] at this; cases this)])
        go_wp2
        go_ret
        exact ⟨11, rfl, HQ.out, HW3.out⟩
      | true =>
        have hpt : playP ((eqsF p.decls).map Dc.place) sc = true := HPP.out.symm
        have htm : ∀ i, i < sc.length → 0 ≤ (actF sc i).a ∧ (actF sc i).a ≤ 1099511627776 := by
          unfold playP at hpt
          rw [Bool.and_eq_true, Bool.and_eq_true] at hpt
          exact ok_time (all_iff.1 hpt.1.2)
        have HKC := hide (HKP.out w3 _ (HS.out.below HW3.out) htm)
        have HV : Hid (∀ L, RGood s L → validF (toks s) L ⟨t0, t1, d0, d1⟩ sc = if kp = true then 0 else 11) := hide (fun L hG => by
          rw [HVF.out, if_neg (by simp)]
          have hpf : playF (toks s) L sc = true := by rw [HPLF.out L hG]
          have hk := HKE.out L ((play_iff _ _ _).1 hpf).2
          by_cases hkt : kp = true
          · rw [if_pos hkt, if_pos ⟨hpf, hk.1 hkt⟩]
          · rw [if_neg hkt, if_neg (fun e => hkt (hk.2 e.2))])
        clear hpt htm
        go_wp2_with fail
        refine HKC.out.mono ?_
        rintro e w4 ⟨rfl, hb4⟩
        have HW4 : Hid (Below w.heap.size w w4) := hide (HW3.out.trans (hb4.mono HW3.out.size))
        clear hb4 c0 c1' c2' c3
        cases kp with
        | false =>
          have HQ : Hid (Q1 11) := hide (by rw [HVQ.out, if_neg (by rw [H0.out]; simp)]; intro L hG _; rw [HV.out L hG]; rfl)
          go_wp2
          go_ret
          exact ⟨11, rfl, HQ.out, HW4.out⟩
        | true =>
          have HQ : Hid (Q1 0) := hide (by rw [HVQ.out, if_neg (by rw [H0.out]; simp)]; intro L hG _; rw [HV.out L hG]; rfl)
          go_wp2
          go_ret
          exact ⟨0, rfl, HQ.out, HW4.out⟩

end Go.Proofs.Ytmndgoapkmhglab
