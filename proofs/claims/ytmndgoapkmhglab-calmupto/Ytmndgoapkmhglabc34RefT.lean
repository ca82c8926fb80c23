import Derived.Test.Ytmndgoapkmhglabc31RefJ
import Derived.Test.Ytmndgoapkmhglabc33RefR
namespace Go.Proofs.Ytmndgoapkmhglab
open Go.RowKit
attribute [local go_sem ↓] Go.wp_at_zero Go.wp_at_succ

theorem any_range {p : Nat → Bool} (n k : Nat) (h : k < n) : (List.range' k (n - k)).any p = (p k || (List.range' (k + 1) (n - (k + 1))).any p) := by
  rw [show n - k = (n - (k + 1)) + 1 by omega, List.range'_succ, List.any_cons]

set_option maxHeartbeats 1000000 in
theorem rdelayed_any (w : World) (q g cap : Nat) (ts : List Tk) (L : List Dl) (vE vA vI vQ : Value) (h : RProg w q g cap ts L vE vA vI vQ) (ho : ROk ts L) (fr j : Nat) (hfj : fr ≤ j) (hj : j < ts.length) :
    Calls Try.prog 120 #[.pointer (some ⟨q, 0, none⟩), .int .i64 (fr : Int), .int .i64 (j : Int)] w fun e w' => e = .returned (.bool (delayedR ts fr j)) ∧ Below w.heap.size w w' := by
  have hlen := ho.len
  obtain ⟨gE, capE, rfl, _, hgE⟩ := h.ends.form (by omega)
  have HR := hide h
  have HO := hide ho
  clear h ho
  go_enter Try.func120, Try.ntmps120
  go_wp2
  go_loopw [7] (fun f wr => ∃ k : Nat, k ≤ j ∧ f = .int .i64 k ∧ Below w.heap.size w wr ∧ ((List.range' k (j - k)).any fun f => lAt ts f == kFby && decide (j < behindF ts (f + 1))) = delayedR ts fr j) (fun f _ => j - (intOf f).toNat)
  case atStart => exact ⟨fr, hfj, rfl, Below.refl _ _, rfl⟩
  case round =>
    obtain ⟨k, hk, rfl, hbel, hrec⟩ := hrel
    have c0 := (HR.out.below hbel).c0
    have c1 := (HR.out.below hbel).c1
    by_cases hlt : k < j
    · obtain ⟨a, ha⟩ : ∃ a, a = rtok (tkAt ts k) := ⟨_, rfl⟩
      obtain ⟨x0, x1, x2, x3⟩ := HR.out.toks.cells hbel (show k < ts.length by omega) a ha
      have hkw := (HO.out.F k).kw kFby (by decide)
      rw [← ha] at hkw
      have r1 := end_later HR.out.ends hbel hgE (show k + 1 < ts.length by omega)
      have j1 : (0 : Int) ≤ (k : Int) := by omega
      have j2 : (k : Int) < (ts.length : Int) := by omega
      have j3 : (0 : Int) ≤ (k : Int) + 1 := by omega
      have j4 : (k : Int) + 1 < (ts.length : Int) := by omega
      have j5 : (k : Int) < (j : Int) := by omega
      have hbl := behindF_le ts (k + 1) (by omega)
      rw [any_range _ _ hlt] at hrec
      generalize behindF ts (k + 1) = b at r1 hrec hbl
      by_cases hf : a.l = kFby
      · have q1 := str_yes (t := a.word) hf
        simp only [kFby] at q1
        have hl : (lAt ts k == kFby) = true := by rw [beq_iff_eq]; exact hkw.1 hf
        rw [hl, Bool.true_and] at hrec
        by_cases hb : j < b
        · have q2 : (j : Int) < (b : Int) := by omega
          rw [decide_eq_true hb, Bool.true_or] at hrec
          have HRC := hide hrec
          clear hrec hl hf hb hkw ha
          go_wp2
          go_ret
          exact ⟨by rw [← HRC.out]; rfl, by first | exact hbel | exact below_drewN hbel _⟩
        · have q2 : ¬ (j : Int) < (b : Int) := by omega
          rw [decide_eq_false hb, Bool.false_or] at hrec
          have HRC := hide hrec
          clear hrec hl hf hb hkw ha
          go_wp2
          go_roundw
          case rel => exact ⟨k + 1, by omega, by go_num, by first | exact hbel | exact below_drewN hbel _, HRC.out⟩
          case measure => simp [intOf]; omega
      · have q1 := str_no (t := a.word) hf
        simp only [kFby] at q1
        have hl : (lAt ts k == kFby) = false := by rw [beq_eq_false_iff_ne]; exact fun e => hf (hkw.2 e)
        rw [hl, Bool.false_and, Bool.false_or] at hrec
        have HRC := hide hrec
        clear hrec hl hf hkw ha
        go_wp2
        go_roundw
        case rel => exact ⟨k + 1, by omega, by go_num, by first | exact hbel | exact below_drewN hbel _, HRC.out⟩
        case measure => simp [intOf]; omega
    · have e0 : j - k = 0 := by omega
      rw [e0] at hrec
      have HRC := hide hrec
      have z1 : ¬ (k : Int) < (j : Int) := by omega
      clear hrec e0
      go_wp2
      go_ret
      exact ⟨by rw [← HRC.out]; rfl, hbel⟩

end Go.Proofs.Ytmndgoapkmhglab

namespace Go.Proofs.Ytmndgoapkmhglab
open Go.RowKit
attribute [local go_sem ↓] Go.wp_at_zero Go.wp_at_succ

set_option maxHeartbeats 2000000 in
set_option maxRecDepth 100000 in
theorem rwrong_any (q g cap : Nat) (ts : List Tk) (L : List Dl) (vE vA vI vQ : Value) (ho : ROk ts L) (hp : ∀ i, (tkAt ts i).pos ≤ 1500) : ∀ (n : Nat) (t : Ast) (i wt : Nat) (w : World), t.size ≤ n → RProg w q g cap ts L vE vA vI vQ → Sp ts t i → i + t.len < ts.length →
    Calls Try.prog 93 #[.pointer (some ⟨q, 0, none⟩), .int .i64 (i : Int), .int .u8 (wt : Int)] w fun e w' => e = .returned (optI (wrongR ts L t i wt)) ∧ Below w.heap.size w w' := by
  intro n
  induction n with
  | zero => intro t i wt w hn; have := t.size_pos; omega
  | succ n ih =>
    intro t i wt w hn h hs hl
    have hlen := ho.len
    have hpo := hp i
    have hil : i < ts.length := by omega
    have HIS := hide (fun W hW => ris_any W q g cap ts L vE vA vI vQ hW ho t i hs hl)
    have HPA := hide (fun W hW => rparts_any W q g cap ts L vE vA vI vQ hW ho t i wt hs hl)
    have hpk := parts_ok ho.F (w := wt) hs hl
    have hwr := wrongR_parts ts L t i wt
    obtain ⟨a, ha⟩ : ∃ a, a = rtok (tkAt ts i) := ⟨_, rfl⟩
    have HPO : Hid ((tkAt ts i).pos = a.pos) := hide (by rw [ha]; rfl)
    have HTC := hide (fun W hW => (h.toks.cells (wr := W) hW hil a ha))
    have HR := hide h
    have HIH := hide ih
    have HPK := hide hpk
    have j1 : (0 : Int) ≤ (i : Int) := by omega
    have j2 : (i : Int) < (ts.length : Int) := by omega
    have hps : (partsR ts t i wt).length ≤ 3 := by cases t <;> simp [partsR]
    generalize partsR ts t i wt = ps at HPA HPK hwr hps
    clear h hs hpk ih ha
    by_cases hb : badR ts L i wt = true
    · rw [hb, if_pos rfl] at hwr
      have hb' : isR ts L i ≠ 63 ∧ isR ts L i ≠ wt := by
        unfold badR at hb
        rw [Bool.and_eq_true, bne_iff_ne, bne_iff_ne] at hb
        exact hb
      have HWR : Hid (wrongR ts L t i wt = some a.pos) := hide (by rw [hwr, HPO.out])
      have q1 : ((isR ts L i : Int) != 63) = true := by rw [bne_iff_ne]; omega
      have q2 : ((isR ts L i : Int) != (wt : Int)) = true := by rw [bne_iff_ne]; omega
      generalize isR ts L i = r at q1 q2 HIS
      clear hwr hb hb'
      go_enter Try.func93, Try.ntmps93
      go_wp2_with fail
      refine (HIS.out w HR.out).mono ?_
      rintro e w1 ⟨rfl, hb1⟩
      have c0 := (HR.out.below hb1).c0
      have x2 := (HTC.out w1 hb1).2.2.1
      go_wp2
      go_ret
      exact ⟨by rw [HWR.out]; rfl, hb1⟩
    · have hbf : badR ts L i wt = false := by simpa using hb
      rw [hbf, if_neg (by simp)] at hwr
      have hcs : ((isR ts L i : Int) != 63) = false ∨ (((isR ts L i : Int) != 63) = true ∧ ((isR ts L i : Int) != (wt : Int)) = false) := by
        unfold badR at hbf
        by_cases e : isR ts L i = 63
        · left; rw [e]; rfl
        · right
          have e2 : isR ts L i = wt := by
            rw [Bool.and_eq_false_iff] at hbf
            rcases hbf with h | h
            · rw [bne_eq_false_iff_eq] at h; exact absurd h e
            · rw [bne_eq_false_iff_eq] at h; exact h
          exact ⟨by rw [bne_iff_ne]; omega, by rw [e2]; simp⟩
      have HWR := hide hwr
      generalize isR ts L i = r at hcs HIS
      clear hwr hb hbf
      rcases hcs with q1 | ⟨q1, q2⟩
      all_goals
        go_enter Try.func93, Try.ntmps93
        go_wp2_with fail
        refine (HIS.out w HR.out).mono ?_
        rintro e w1 ⟨rfl, hb1⟩
        go_wp2_with fail
        refine (HPA.out w1 (HR.out.below hb1)).mono ?_
        rintro e w2 ⟨vl, vw, rfl, hol, how, hb2⟩
        have hbw2 : Below w.heap.size w w2 := hb1.trans (hb2.mono hb1.size)
        obtain ⟨al, cl, rfl, hshl⟩ := own_shape hol
        obtain ⟨aw, cw, rfl, hshw⟩ := own_shape how
        have HL := hide (And.intro hol hshl)
        have HW := hide (And.intro how hshw)
        clear hol how hshl hshw hb1 hb2
        go_wp2
        go_loopw [10] (fun vk wx => ∃ m : Nat, m ≤ ps.length ∧ vk = .int .i64 m ∧ Below w2.heap.size w2 wx ∧ (ps.drop m).findSome? (fun p => wrongR ts L p.t p.i p.w) = wrongR ts L t i wt) (fun vk _ => ps.length - (intOf vk).toNat)
        case atStart => exact ⟨0, Nat.zero_le _, rfl, Below.refl _ _, HWR.out.symm⟩
        case round =>
          obtain ⟨m, hm, rfl, hbx, hrec⟩ := hrel
          have hbwx : Below w.heap.size w wr := hbw2.trans (hbx.mono hbw2.size)
          have HRP := hide (HR.out.below hbwx)
          by_cases hml : m < ps.length
          · obtain ⟨gl, rfl, _, hgl⟩ := HL.out.2 (by omega)
            obtain ⟨gw, rfl, _, hgw⟩ := HW.out.2 (by omega)
            obtain ⟨p, hp'⟩ : ∃ p, p = ps[m]'hml := ⟨_, rfl⟩
            obtain ⟨k1, k2, k3⟩ := HPK.out p (by rw [hp']; exact List.getElem_mem hml)
            have l1 : wr.cell? ⟨gl, m, none⟩ = some (.int .i64 (p.i : Int)) := by
              rw [hbx.cell (p := ⟨gl, m, none⟩) hgl, HL.out.1.cellAt m (by omega)]
              unfold pCells
              rw [List.getElem?_map, List.getElem?_map, List.getElem?_eq_getElem hml, ← hp']; rfl
            have l2 : wr.cell? ⟨gw, m, none⟩ = some (.int .u8 (p.w : Int)) := by
              rw [hbx.cell (p := ⟨gw, m, none⟩) hgw, HW.out.1.cellAt m (by omega)]
              unfold wCells
              rw [List.getElem?_map, List.getElem?_map, List.getElem?_eq_getElem hml, ← hp']; rfl
            rw [List.drop_eq_getElem_cons hml, ← hp', List.findSome?_cons] at hrec
            have HRC := hide hrec
            have j3 : (0 : Int) ≤ (m : Int) := by omega
            have j4 : (m : Int) < (ps.length : Int) := by omega
            have HCALL := hide (fun W hW => HIH.out p.t p.i p.w W (by omega) hW k1 k2)
            have HV : Hid (∀ v, wrongR ts L p.t p.i p.w = some v → wrongR ts L t i wt = some v) := hide (fun v hv => by
              have h := HRC.out
              rw [hv] at h
              exact h.symm)
            have HN : Hid (wrongR ts L p.t p.i p.w = none → (ps.drop (m + 1)).findSome? (fun p => wrongR ts L p.t p.i p.w) = wrongR ts L t i wt) := hide (fun hv => by
              have h := HRC.out
              rw [hv] at h
              exact h)
            generalize wrongR ts L p.t p.i p.w = o at HCALL HV HN
            generalize p.i = pi at l1 HCALL
            generalize p.w = pw at l2 HCALL
            clear hrec hp' k1 k2 k3 HRC
            have g1 : gl < wr.heap.size := by have := hbx.size; omega
            have g2' : gw < wr.heap.size := by have := hbx.size; omega
            go_wp2_with fail
            go_region_held3 (fun w' => w'.cell? ⟨gl, m, none⟩ = some (.int .i64 (pi : Int)) ∧ w'.cell? ⟨gw, m, none⟩ = some (.int .u8 (pw : Int))) (go_keep)
              ((go_at_call 93; refine (HCALL.out _ (HRP.out.below ((Below.refl _ _).drew))).mono ?_; rintro e w3 ⟨rfl, hb3⟩; have t1 := (hb3.cell (p := ⟨gl, m, none⟩) g1).trans l1; have t2 := (hb3.cell (p := ⟨gw, m, none⟩) g2').trans l2))
            rename_i hHeld
            clear hHeld
            have HB3 : Hid (Below w2.heap.size w2 w3) := hide (hbx.drew.trans (hb3.mono hbx.size))
            have HB4 : Hid (Below w.heap.size w w3) := hide (hbwx.drew.trans (hb3.mono hbwx.size))
            clear hb3 t1 t2
            cases o with
            | none =>
              have HN2 := hide (HN.out rfl)
              simp only [optI]
              clear HV HN HCALL
              go_wp2
              go_roundw
              case rel => exact ⟨m + 1, by omega, by go_num, HB3.out, HN2.out⟩
              case measure => simp [intOf]; omega
            | some v =>
              have HV2 := hide (HV.out v rfl)
              simp only [optI]
              have z1 : (0 : Int) ≤ (v : Int) := by omega
              clear HV HN HCALL
              go_wp2
              go_ret
              exact ⟨by rw [HV2.out]; rfl, HB4.out⟩
          · have em : m = ps.length := by omega
            subst em
            rw [List.drop_length] at hrec
            have HRC : Hid (wrongR ts L t i wt = none) := hide hrec.symm
            have z1 : ¬ (ps.length : Int) < (ps.length : Int) := by omega
            clear hrec
            go_wp2
            go_ret
            exact ⟨by rw [HRC.out]; rfl, hbwx⟩

end Go.Proofs.Ytmndgoapkmhglab

namespace Go.Proofs.Ytmndgoapkmhglab
open Go.RowKit
attribute [local go_sem ↓] Go.wp_at_zero Go.wp_at_succ

set_option maxHeartbeats 2000000 in
set_option maxRecDepth 100000 in
theorem rtypes_any (w : World) (q g cap : Nat) (ts : List Tk) (L : List Dl) (vE vA vI vQ : Value) (h : RProg w q g cap ts L vE vA vI vQ) (ho : ROk ts L) (hp : ∀ i, (tkAt ts i).pos ≤ 1500) :
    Calls Try.prog 62 #[.pointer (some ⟨q, 0, none⟩)] w fun e w' => e = .returned (optI (typesR ts L)) ∧ Below w.heap.size w w' := by
  obtain ⟨hm1, hm2, hm3⟩ := ho.many
  obtain ⟨av, cv, rfl, hsh⟩ := own_shape h.eqs
  have hlen := ho.len
  have HR := hide h
  have HO := hide ho
  have HSH := hide hsh
  have HWR := hide (fun n t i wt W => rwrong_any q g cap ts L vE vA vI (.slice av (eqL L).length cv) ho hp n t i wt W)
  clear h ho hsh hp
  go_enter Try.func62, Try.ntmps62
  go_wp2
  go_loopw [3] (fun vi wr => ∃ m : Nat, m ≤ (eqL L).length ∧ vi = .int .i64 m ∧ Below w.heap.size w wr ∧ ((eqL L).drop m).findSome? (fun x => wrongR ts L x.t (x.i + 5) (wB (x.kind == 2))) = typesR ts L) (fun vi _ => (eqL L).length - (intOf vi).toNat)
  case atStart => exact ⟨0, Nat.zero_le _, rfl, Below.refl _ _, rfl⟩
  case round =>
    obtain ⟨m, hm, rfl, hbel, hrec⟩ := hrel
    have HRP := hide (HR.out.below hbel)
    have c4 := HRP.out.c4
    by_cases hml : m < (eqL L).length
    · obtain ⟨gq, rfl, _, hgq2⟩ := HSH.out (by omega)
      obtain ⟨x, hx⟩ : ∃ x, x = (eqL L)[m]'hml := ⟨_, rfl⟩
      obtain ⟨hxm, hxk, hxs, hxl, _⟩ := HO.out.eq (x := x) (by rw [hx]; exact List.getElem_mem hml)
      obtain ⟨e1, e2, _⟩ := rdc_truth ts hxk
      obtain ⟨_, _, _, y3, _, y5⟩ := rd_later HR.out.eqs hbel hgq2 hml (rdc ts x) (by rw [hx])
      rw [e1] at y3
      rw [e2] at y5
      rw [List.drop_eq_getElem_cons hml, ← hx, List.findSome?_cons] at hrec
      have HCALL := hide (fun W hW => HWR.out x.t.size x.t (x.i + 5) (wB (x.kind == 2)) W (Nat.le_refl _) hW hxs hxl)
      have HV : Hid (∀ v, wrongR ts L x.t (x.i + 5) (wB (x.kind == 2)) = some v → typesR ts L = some v) := hide (fun v hv => by
        have h := hrec
        rw [hv] at h
        exact h.symm)
      have HN : Hid (wrongR ts L x.t (x.i + 5) (wB (x.kind == 2)) = none → ((eqL L).drop (m + 1)).findSome? (fun x => wrongR ts L x.t (x.i + 5) (wB (x.kind == 2))) = typesR ts L) := hide (fun hv => by
        have h := hrec
        rw [hv] at h
        exact h)
      generalize wrongR ts L x.t (x.i + 5) (wB (x.kind == 2)) = o at HCALL HV HN
      have j3 : (0 : Int) ≤ (m : Int) := by omega
      have j4 : (m : Int) < ((eqL L).length : Int) := by omega
      obtain ⟨bd, hbd⟩ : ∃ bd, bd = x.i + 5 := ⟨_, rfl⟩
      rw [← hbd] at y5 HCALL
      generalize (x.kind == 2) = tr at y3 HCALL
      clear hrec hx hxm hxk hxs hxl e1 e2 hbd
      cases tr
      all_goals
        simp only [wB] at HCALL
        go_wp2_with fail
        refine (HCALL.out _ HRP.out).mono ?_
        rintro e w3 ⟨rfl, hb3⟩
        have HB4 : Hid (Below w.heap.size w w3) := hide (hbel.trans (hb3.mono hbel.size))
        clear hb3
        cases o with
        | none =>
          have HN2 := hide (HN.out rfl)
          simp only [optI]
          clear HV HN HCALL
          go_wp2
          go_roundw
          case rel => exact ⟨m + 1, by omega, by go_num, HB4.out, HN2.out⟩
          case measure => simp [intOf]; omega
        | some v =>
          have HV2 := hide (HV.out v rfl)
          simp only [optI]
          have z1 : (0 : Int) ≤ (v : Int) := by omega
          clear HV HN HCALL
          go_wp2
          go_ret
          exact ⟨by rw [HV2.out]; rfl, HB4.out⟩
    · have em : m = (eqL L).length := by omega
      subst em
      rw [List.drop_length] at hrec
      have HRC : Hid (typesR ts L = none) := hide hrec.symm
      have z1 : ¬ ((eqL L).length : Int) < ((eqL L).length : Int) := by omega
      clear hrec
      go_wp2
      go_ret
      exact ⟨by rw [HRC.out]; rfl, hbel⟩

end Go.Proofs.Ytmndgoapkmhglab
