import Derived.Test.YtmndgoapkmhglaaDoorM36RefL
import Derived.Test.YtmndgoapkmhglaaDoorM40RefS
namespace Go.Proofs.YtmndgoapkmhglaaDoor
open Go.RowKit
attribute [local go_sem ↓] Go.wp_at_zero Go.wp_at_succ

set_option maxHeartbeats 2000000 in
set_option maxRecDepth 100000 in
theorem rtypes_any (w : World) (q g cap : Nat) (ts : List Tk) (L : List Dl) (vE vA vI vQ : Value) (h : RProg w q g cap ts L vE vA vI vQ) (ho : ROk ts L) (hp : ∀ i, (tkAt ts i).pos ≤ 1500) :
    Calls Tryd.prog 22 #[.pointer (some ⟨q, 0, none⟩)] w fun e w' => e = .returned (optI (typesR ts L)) ∧ Below w.heap.size w w' := by
  obtain ⟨hm1, hm2, hm3⟩ := ho.many
  obtain ⟨av, cv, rfl, hsh⟩ := own_shape h.eqs
  have hlen := ho.len
  have HR := hide h
  have HO := hide ho
  have HSH := hide hsh
  have HWR := hide (fun n t i wt W => rwrong_any q g cap ts L vE vA vI (.slice av (eqL L).length cv) ho hp n t i wt W)
  clear h ho hsh hp
  go_enter Tryd.func22, Tryd.ntmps22
  go_wp2
  go_loopw [3] (fun vi wr => ∃ m : Nat, m ≤ (eqL L).length ∧ vi = .int .i64 m ∧ Below w.heap.size w wr ∧ ((eqL L).drop m).findSome? (fun x => wrongR ts L x.t (x.i + 5) (wB (x.kind == 2))) = typesR ts L) (fun vi _ => (eqL L).length - (intOf vi).toNat)
  case atStart => exact ⟨0, Nat.zero_le _, rfl, Below.refl _ _, rfl⟩
  case round =>
    obtain ⟨m, hm, rfl, hbel, hrec⟩ := hrel
    have HRP := hide (HR.out.below hbel)
    have c4 := HRP.out.c4
    by_cases hml : m < (eqL L).length
    · obtain ⟨gq, rfl, _, hgq2⟩ := HSH.out (by omega)
      obtain ⟨x, hx⟩ : ∃ x, x = (eqL L)[m]'hml := ⟨_, rfl⟩
      obtain ⟨hxm, hxk, hxs, hxl, _⟩ := HO.out.eq (x := x) (by rw [hx]; exact List.getElem_mem hml)
      obtain ⟨e1, e2, _⟩ := rdc_truth ts hxk
      obtain ⟨_, _, _, y3, _, y5⟩ := rd_later HR.out.eqs hbel hgq2 hml (rdc ts x) (by rw [hx])
      rw [e1] at y3
      rw [e2] at y5
      rw [List.drop_eq_getElem_cons hml, ← hx, List.findSome?_cons] at hrec
      have HCALL := hide (fun W hW => HWR.out x.t.size x.t (x.i + 5) (wB (x.kind == 2)) W (Nat.le_refl _) hW hxs hxl)
      have HV : Hid (∀ v, wrongR ts L x.t (x.i + 5) (wB (x.kind == 2)) = some v → typesR ts L = some v) := hide (fun v hv => by
        have h := hrec
        rw [hv] at h
        exact h.symm)
      have HN : Hid (wrongR ts L x.t (x.i + 5) (wB (x.kind == 2)) = none → ((eqL L).drop (m + 1)).findSome? (fun x => wrongR ts L x.t (x.i + 5) (wB (x.kind == 2))) = typesR ts L) := hide (fun hv => by
        have h := hrec
        rw [hv] at h
        exact h)
      generalize wrongR ts L x.t (x.i + 5) (wB (x.kind == 2)) = o at HCALL HV HN
      have j3 : (0 : Int) ≤ (m : Int) := by omega
      have j4 : (m : Int) < ((eqL L).length : Int) := by omega
      obtain ⟨bd, hbd⟩ : ∃ bd, bd = x.i + 5 := ⟨_, rfl⟩
      rw [← hbd] at y5 HCALL
      generalize (x.kind == 2) = tr at y3 HCALL
      clear hrec hx hxm hxk hxs hxl e1 e2 hbd
      cases tr
      all_goals
        simp only [wB] at HCALL
        go_wp2_with fail
        refine (HCALL.out _ HRP.out).mono ?_
        rintro e w3 ⟨rfl, hb3⟩
        have HB4 : Hid (Below w.heap.size w w3) := hide (hbel.trans (hb3.mono hbel.size))
        clear hb3
        cases o with
        | none =>
          have HN2 := hide (HN.out rfl)
          simp only [optI]
          clear HV HN HCALL
          go_wp2
          go_roundw
          case rel => exact ⟨m + 1, by omega, by go_num, HB4.out, HN2.out⟩
          case measure => simp [intOf]; omega
        | some v =>
          have HV2 := hide (HV.out v rfl)
          simp only [optI]
          have z1 : (0 : Int) ≤ (v : Int) := by omega
          clear HV HN HCALL
          go_wp2
          go_ret
          exact ⟨by rw [HV2.out]; rfl, HB4.out⟩
    · have em : m = (eqL L).length := by omega
      subst em
      rw [List.drop_length] at hrec
      have HRC : Hid (typesR ts L = none) := hide hrec.symm
      have z1 : ¬ ((eqL L).length : Int) < ((eqL L).length : Int) := by omega
      clear hrec
      go_wp2
      go_ret
      exact ⟨by rw [HRC.out]; rfl, hbel⟩

end Go.Proofs.YtmndgoapkmhglaaDoor

namespace Go.Proofs.YtmndgoapkmhglaaDoor
open Go.RowKit
attribute [local go_sem ↓] Go.wp_at_zero Go.wp_at_succ

/-- a declaration laid into a box. -/
theorem dec_step (d : RDc) (w : World) {wr : World} (hb : Below (w.alloc (.cells #[.string d.name, .int .i64 (d.tok : Int), .bool d.input, .bool d.truth, .int .i64 (d.place : Int), .int .i64 (d.body : Int)] 81)).heap.size (w.alloc (.cells #[.string d.name, .int .i64 (d.tok : Int), .bool d.input, .bool d.truth, .int .i64 (d.place : Int), .int .i64 (d.body : Int)] 81)) wr) :
    wr.cell? ⟨w.heap.size, 5, none⟩ = some (.int .i64 (d.body : Int)) ∧ wr.cell? ⟨w.heap.size, 4, none⟩ = some (.int .i64 (d.place : Int)) ∧ Below w.heap.size w wr := by
  have hN := (hb.block w.heap.size (by simp)).trans (heap_alloc_new w _)
  refine ⟨?_, ?_, ((Below.refl _ _).alloc (Nat.le_refl _) _).trans (hb.mono (by simp))⟩
  · rw [cell_of_row wr _ 5 _ _ _ hN]; rfl
  · rw [cell_of_row wr _ 4 _ _ _ hN]; rfl

set_option maxHeartbeats 1000000 in
theorem rhangs_any (w : World) (q g cap : Nat) (ts : List Tk) (L : List Dl) (vE vA vI vQ : Value) (h : RProg w q g cap ts L vE vA vI vQ) (ho : ROk ts L) (x : Dl) (hx : x ∈ eqL L) (name : ByteArray) :
    Calls Tryd.prog 44 #[.pointer (some ⟨q, 0, none⟩), (rdc ts x).val, .string name] w fun e w' => e = .returned (.bool (hangsR ts x name.data.toList)) ∧ Below w.heap.size w w' := by
  have hlen := ho.len
  have hpos := ho.pos
  obtain ⟨gE, capE, rfl, _, hgE⟩ := h.ends.form (by omega)
  obtain ⟨hxm, hxk, hxs, hxl, _⟩ := ho.eq hx
  have hbd : (rdc ts x).body = x.i + 5 := by unfold rdc; rw [if_neg hxk]
  have hbe : behindF ts (x.i + 5) = x.i + 5 + x.t.len := behind_sp ho.F x.t (x.i + 5) hxs (by omega)
  have HR := hide h
  have HO := hide ho
  generalize rdc ts x = d at hbd
  obtain ⟨b, hb⟩ : ∃ b, b = x.i + 5 := ⟨_, rfl⟩
  obtain ⟨e, he⟩ : ∃ e, e = b + x.t.len := ⟨_, rfl⟩
  rw [← hb] at hbe hbd
  rw [← he] at hbe
  have HBE := hide hbe
  have HHG : Hid (((List.range' b (e - b)).any fun j => isNm ts j && (lAt ts j == name.data.toList && !delayedR ts b j)) = hangsR ts x name.data.toList) := hide (by unfold hangsR; rw [← hb, he, Nat.add_sub_cancel_left])
  have hel : e < ts.length := by omega
  have hble : b ≤ e := by omega
  have HB := hide (fun wr hb => dec_step d w (wr := wr) hb)
  rw [hbd] at HB
  clear hbe he hb h ho hxs hxm hxk hx
  obtain ⟨W0, hW0⟩ : ∃ W0, W0 = w.alloc (.cells #[.string d.name, .int .i64 (d.tok : Int), .bool d.input, .bool d.truth, .int .i64 (d.place : Int), .int .i64 (b : Int)] 81) := ⟨_, rfl⟩
  rw [← hW0] at HB
  obtain ⟨t0, _, t2⟩ := HB.out W0 (Below.refl _ _)
  have r0 := end_later HR.out.ends t2 hgE (show b < ts.length by omega)
  have c1 := (HR.out.below t2).c1
  rw [HBE.out] at r0
  have j1 : (0 : Int) ≤ (b : Int) := by omega
  have j2 : (b : Int) < (ts.length : Int) := by omega
  show Calls Tryd.prog 44 #[.pointer (some ⟨q, 0, none⟩), .agg #[.string d.name, .int .i64 (d.tok : Int), .bool d.input, .bool d.truth, .int .i64 (d.place : Int), .int .i64 (d.body : Int)], .string name] w _
  rw [hbd]
  have HW0 := hide hW0
  clear hbd hW0
  go_enter Tryd.func44, Tryd.ntmps44
  go_wp2
  rw [← HW0.out]
  go_loopw [7] (fun f wr => ∃ k : Nat, b ≤ k ∧ k ≤ e ∧ f = .int .i64 k ∧ Below W0.heap.size W0 wr ∧ ((List.range' k (e - k)).any fun j => isNm ts j && (lAt ts j == name.data.toList && !delayedR ts b j)) = hangsR ts x name.data.toList) (fun f _ => e - (intOf f).toNat)
  case atStart => exact ⟨b, Nat.le_refl _, hble, rfl, Below.refl _ _, HHG.out⟩
  case round =>
    clear t0 c1 r0
    obtain ⟨k, hk0, hk, rfl, hbel, hrec⟩ := hrel
    obtain ⟨t0, _, hbw⟩ := HB.out wr hbel
    have hrp := HR.out.below hbw
    have c0 := hrp.c0
    have c1 := hrp.c1
    have r0 := end_later HR.out.ends hbw hgE (show b < ts.length by omega)
    rw [HBE.out] at r0
    by_cases hlt : k < e
    · have j5 : (k : Int) < (e : Int) := by omega
      have j3 : (0 : Int) ≤ (k : Int) := by omega
      have j4 : (k : Int) < (ts.length : Int) := by omega
      rw [any_range _ _ hlt] at hrec
      have HRC := hide hrec
      have HRP := hide hrp
      clear hrec hrp
      go_wp2_with fail
      go_quiet (fail)
      go_wp2_with fail
      have hdr : Below wr.heap.size wr (wr.drewN nq) := below_drewN (Below.refl _ _) _
      refine (rdelayed_any _ q g cap ts L _ _ _ _ (HRP.out.below hdr) HO.out b k hk0 (by omega)).mono ?_
      rintro e1 w2 ⟨rfl, hb2⟩
      have hbx : Below wr.heap.size wr w2 := hdr.trans (hb2.mono hdr.size)
      have hbel2 : Below W0.heap.size W0 w2 := hbel.trans (hbx.mono hbel.size)
      have hbw2 : Below w.heap.size w w2 := hbw.trans (hbx.mono hbw.size)
      clear hdr hb2 hbx hbel hbw c0 c1 r0 t0
      have c0 := (HR.out.below hbw2).c0
      obtain ⟨a, ha⟩ : ∃ a, a = rtok (tkAt ts k) := ⟨_, rfl⟩
      obtain ⟨x0, x1, x2, x3⟩ := HR.out.toks.cells hbw2 (show k < ts.length by omega) a ha
      have hc := c97 (tkAt ts k)
      rw [← ha] at hc
      have hrec := HRC.out
      generalize delayedR ts b k = lt at hrec ⊢
      by_cases hnm : (tkAt ts k).kind = 1
      · have q1 : ((a.c : Int) == 97) = true := by
          rw [show (97 : Int) = ((97 : Nat) : Int) from rfl, beq_cast, hc, hnm]; rfl
        have hw : a.word = (tkAt ts k).text := by rw [ha]; unfold rtok; simp [hnm]
        obtain ⟨ee, qE⟩ : ∃ ee, (a.word.toList == name.toList) = ee := ⟨_, rfl⟩
        have eE : (lAt ts k == name.data.toList) = ee := by
          rw [← qE, ByteArray.toList_eq, ByteArray.toList_eq, hw]; rfl
        rw [eE, show isNm ts k = true by unfold isNm; rw [hnm]; rfl, Bool.true_and] at hrec
        have HRX := hide hrec
        have HB2 := hide (And.intro hbel2 hbw2)
        clear hrec hc hnm ha hw eE HRC
        cases ee
        · have HR2 : Hid (((List.range' (k + 1) (e - (k + 1))).any fun j => isNm ts j && (lAt ts j == name.data.toList && !delayedR ts b j)) = hangsR ts x name.data.toList) := hide (by rw [← HRX.out]; simp)
          clear HRX
          go_wp2
          go_roundw
          case rel => exact ⟨k + 1, by omega, by omega, by go_num, by first | exact HB2.out.1 | exact below_drewN HB2.out.1 _, HR2.out⟩
          case measure => simp [intOf]; omega
        · cases lt
          · have HR2 : Hid (hangsR ts x name.data.toList = true) := hide (by rw [← HRX.out]; simp)
            clear HRX
            go_wp2
            go_ret
            exact ⟨by rw [HR2.out]; rfl, by first | exact HB2.out.2 | exact below_drewN HB2.out.2 _⟩
          · have HR2 : Hid (((List.range' (k + 1) (e - (k + 1))).any fun j => isNm ts j && (lAt ts j == name.data.toList && !delayedR ts b j)) = hangsR ts x name.data.toList) := hide (by rw [← HRX.out]; simp)
            clear HRX
            go_wp2
            go_roundw
            case rel => exact ⟨k + 1, by omega, by omega, by go_num, by first | exact HB2.out.1 | exact below_drewN HB2.out.1 _, HR2.out⟩
            case measure => simp [intOf]; omega
      · have q1 : ((a.c : Int) == 97) = false := by
          rw [show (97 : Int) = ((97 : Nat) : Int) from rfl, beq_cast, hc]; exact beq_eq_false_iff_ne.2 hnm
        have hno : isNm ts k = false := by unfold isNm; exact beq_eq_false_iff_ne.2 hnm
        have HR2 : Hid (((List.range' (k + 1) (e - (k + 1))).any fun j => isNm ts j && (lAt ts j == name.data.toList && !delayedR ts b j)) = hangsR ts x name.data.toList) := hide (by rw [← hrec, hno]; simp)
        have HB2 := hide (And.intro hbel2 hbw2)
        clear hrec hc hnm ha hno HRC
        go_wp2
        go_roundw
        case rel => exact ⟨k + 1, by omega, by omega, by go_num, by first | exact HB2.out.1 | exact below_drewN HB2.out.1 _, HR2.out⟩
        case measure => simp [intOf]; omega
    · have ek : e - k = 0 := by omega
      rw [ek] at hrec
      have HRC := hide hrec
      have z1 : ¬ (k : Int) < (e : Int) := by omega
      have HBW := hide hbw
      clear hrec ek hrp
      go_wp2_with fail
      go_quiet (fail)
      go_wp2
      go_ret
      exact ⟨by rw [← HRC.out]; rfl, below_drewN HBW.out _⟩

end Go.Proofs.YtmndgoapkmhglaaDoor
