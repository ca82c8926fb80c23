import Derived.Test.YtmndgoapkmhglabM51KpE
/- Kept, walked. -/
namespace Go.Proofs.Ytmndgoapkmhglab
open Go.RowKit
attribute [local go_sem ↓] Go.wp_at_zero Go.wp_at_succ

theorem Try.infoIntK : (Try.prog.info? 3).map (fun i => (i.zero, i.size, i.bytes)) = some (some (.int .i64 0), 1, 8) := by kernel_rfl

set_option maxHeartbeats 4000000 in
set_option maxRecDepth 100000 in
theorem kept_any (s : ByteArray) (hs : s.size ≤ 1048576) (w : World) (vX : Value) (ins : List (List Int)) (hX : LsAt w vX ins) (vS : Value) (sc : List OpF) (hS : OpsAt w vS sc) :
    Calls Try.prog 4 #[.string s, vX, vS] w fun e w' => e = .returned (.bool true) ∧ Below w.heap.size w w' := by
  have hsm : s.size ≤ maxLen := by unfold maxLen; omega
  have hm4 := run_make_row' (P := Try.prog) 38 3 (.int .i64 0) 8 Try.underlying38 Try.infoIntK rfl .i64 .i64 4 (by omega) (by omega)
  simp only [show ((4 : Nat) : Int) = 4 from rfl] at hm4
  have HRUN := hide (krun_any s hs w vX ins hX vS sc hS)
  have HX := hide hX
  have HS := hide hS
  obtain ⟨AS, CS, rfl, hmS, hcS⟩ := hS
  have HCS := hide hcS
  clear hX hcS
  go_enter Try.func4, Try.ntmps4
  go_wp2_with fail
  refine HRUN.out.mono ?_
  rintro e w1 ⟨v, rfl, hq, hb1⟩
  have HB1 := hide hb1
  clear HRUN hb1
  by_cases h0 : runE s sc = 0
  · rw [decide_eq_true h0]
    obtain ⟨ht, hp⟩ := runE_zero h0
    obtain ⟨L, hG, hR, hO⟩ := good_text ht
    have hq' := hq
    unfold RunQ at hq'
    rw [if_pos h0] at hq'
    obtain ⟨TV, VV, hE⟩ := hq' L hG hR
    have hst : seatsF s = plR (toks s) L := seats_text hG.sp
    have hpl : (plR (toks s) L).length = (eqL L).length := by unfold plR; rw [List.length_map]
    rw [hst, playK_eq] at hp
    obtain ⟨h400, hacts⟩ := (play_iff _ _ _).1 hp
    have hAO := play_acts hacts
    have hSR : strR s 200 = 0 := by unfold strR; rw [if_neg (by simpa using ht), if_neg (by omega)]
    have HST := hide (fun W h => streams_any s hsm W vX ins h 200)
    rw [hSR] at HST
    have hEl := evsR_len (toks s) L ins sc
    obtain ⟨ae, ce, rfl, hshE⟩ := own_shape hE.row
    rw [hEl] at hshE
    have HE := hide hE
    have HSHE := hide hshE
    have HG := hide hG
    have HR := hide hR
    have HO := hide hO
    have HACT := hide hacts
    have HAO := hide hAO
    have HSE := hide (fun W => seats_any s W hs)
    rw [hst] at HSE
    have hfew := hR.few.1
    clear hq hq' hE hshE h0 ht hp hG hR hO hacts hAO hst
    rw [hEl]
    go_wp2_with fail
    refine (HST.out w1 (HX.out.below HB1.out)).mono ?_
    rintro e w2 ⟨v2, rfl, hq2, hb2⟩
    unfold StrQ at hq2
    rw [if_pos hSR] at hq2
    obtain ⟨g2, RV, hOR⟩ := hq2 L HG.out HR.out
    have hRA := hOR.at (by decide)
    have HRA := hide hRA
    obtain ⟨a2, c2, rfl, _⟩ := hOR.shape
    have HB2 := hide hb2
    clear hq2 hOR hRA hb2 HST
    go_wp2_with fail
    refine (HSE.out w2).mono ?_
    rintro e w3 ⟨vw, rfl, hown3, hb3⟩
    have HRW := hide (pc_row hown3 (by rw [hpl]; omega))
    obtain ⟨a3, c3, rfl, _⟩ := own_shape hown3
    rw [hpl] at *
    have HB3 := hide hb3
    clear hown3 hb3 HSE
    have HZ : Hid (∀ (W : World) (o : Obj), (W.alloc (.cells (madeCells #[.int .i64 0] 4) 3)).rowIs W.heap.size 3 4 (fun _ => .int .i64 0)) := hide (fun W _ => World.rowIs_made W (.int .i64 0) 4 3)
    obtain ⟨mq, hmq⟩ : ∃ mq, mq = w3.heap.size := ⟨_, rfl⟩
    have HMQ := hide hmq
    clear hmq
    have HA : Hid (Apart (netR (toks s) L)) := hide (net_apart _ _)
    go_wp2
    go_loopw [15] (fun vi wr => ∃ i : Nat, i ≤ sc.length ∧ vi = .int .i64 i ∧ Below w3.heap.size w3 wr ∧ mq + 2 ≤ wr.heap.size ∧ wr.rowIs mq 3 4 (fun j => .int .i64 ((cntF (pastI (netR (toks s) L) (valsR (toks s) L ins) sc i) (j : Int) 1 : Nat) : Int)) ∧ wr.rowIs (mq + 1) 3 4 (fun j => .int .i64 ((cntF (pastI (netR (toks s) L) (valsR (toks s) L ins) sc i) (j : Int) 2 : Nat) : Int))) (fun vi _ => sc.length - (intOf vi).toNat)
    case atStart =>
      refine ⟨0, Nat.zero_le _, rfl, ((Below.refl _ _).alloc (Nat.le_refl _) _).alloc (by simp) _, by rw [HMQ.out]; simp, ?_, ?_⟩
      · rw [HMQ.out]; exact ((HZ.out w3 (.cells #[] 0)).alloc _).congr (fun j _ => rfl)
      · rw [HMQ.out]
        have h5 := HZ.out (w3.alloc (.cells (madeCells #[.int .i64 0] 4) 3)) (.cells #[] 0)
        simp only [World.size_alloc] at h5
        exact h5.congr (fun j _ => rfl)
    case round =>
      obtain ⟨i, hi, rfl, hbr, hms, hmade, htold⟩ := hrel
      by_cases hil : i < sc.length
      · have s1 := HB1.out.size
        have s2 := HB2.out.size
        have s3 := HB3.out.size
        have hb13 : Below w1.heap.size w1 wr := (HB2.out.trans (HB3.out.mono s2)).trans (hbr.mono (by omega))
        have hbw : Below w.heap.size w wr := HB1.out.trans (hb13.mono s1)
        obtain ⟨ge, rfl, _, hge⟩ := HSHE.out (by omega)
        have hev : (evsR (toks s) L ins sc)[i]? = some (wakeF (netR (toks s) L) (valsR (toks s) L ins) (pastI (netR (toks s) L) (valsR (toks s) L ins) sc i) sc[i]) := past_get _ _ sc hil
        obtain ⟨hPO, hPI⟩ := past_all (valsR (toks s) L ins) HA.out HAO.out hil
        obtain ⟨sk, sa, hcase⟩ := wake_shows (V := valsR (toks s) L ins) hPO hPI
        have hrow := HE.out.row
        rw [evsR_len] at hrow
        have hrow' : w1.ownsRow w.heap.size 41 6 (.slice (some ⟨ge, 0, none⟩) (evsR (toks s) L ins sc).length ce) (evsR (toks s) L ins sc).length (evCells (evsR (toks s) L ins sc) TV VV) := by rw [evsR_len]; exact hrow
        obtain ⟨x0, x1, x2, x3, x4, x5⟩ := ev_cells hrow' hev
        rw [← hb13.cell (p := ⟨ge, i * 6, none⟩) hge] at x0
        rw [← hb13.cell (p := ⟨ge, i * 6 + 1, none⟩) hge] at x1
        rw [← hb13.cell (p := ⟨ge, i * 6 + 2, none⟩) hge] at x2
        rw [← hb13.cell (p := ⟨ge, i * 6 + 3, none⟩) hge] at x3
        rw [← hb13.cell (p := ⟨ge, i * 6 + 4, none⟩) hge] at x4
        rw [← hb13.cell (p := ⟨ge, i * 6 + 5, none⟩) hge] at x5
        have hei : i < (evsR (toks s) L ins sc).length := by rw [evsR_len]; exact hil
        have hee : (evsR (toks s) L ins sc)[i]'hei = wakeF (netR (toks s) L) (valsR (toks s) L ins) (pastI (netR (toks s) L) (valsR (toks s) L ins) sc i) sc[i] := (List.getElem?_eq_some_iff.1 hev).2
        have hoT := HE.out.took i hei
        have hoV := HE.out.vals i hei
        rw [hee] at hoT hoV
        obtain ⟨aT, cT, eT, _⟩ := own_shape hoT
        obtain ⟨aV, cV, eV, _⟩ := own_shape hoV
        rw [eT] at x4
        rw [eV] at x5 hoV
        obtain ⟨bS, oS, rfl, hbS, hrS⟩ := HCS.out (by omega)
        obtain ⟨y0, y1, _, _⟩ := hrS i hil
        rw [← hbw.cell (p := ⟨bS, oS + i * 4, none⟩) hbS] at y0
        rw [← hbw.cell (p := ⟨bS, oS + i * 4 + 1, none⟩) hbS] at y1
        have hact := HACT.out i hil
        have hq4 : ∃ qn : Nat, qn < 4 ∧ sc[i].k = (qn : Int) := by
          have h5 := (atR_here (toks s) L (actF sc i).k).1 hact.here
          rw [← actF_get hil] at h5
          unfold hereK plR at h5
          rw [List.any_map, List.any_eq_true] at h5
          obtain ⟨x, hx, hxe⟩ := h5
          have hxe' : ((placeD (toks s) x : Nat) : Int) = sc[i].k := by simpa using hxe
          exact ⟨placeD (toks s) x, (HO.out.eq hx).2.2.2.2, hxe'.symm⟩
        obtain ⟨qn, hq4, hqk⟩ := hq4
        have hcl := cnt_len (pastI (netR (toks s) L) (valsR (toks s) L ins) sc i) (qn : Int)
        rw [past_len _ _ _ hi] at hcl
        have HN : Hid (∀ (j : Nat) (what : Int), cntF (pastI (netR (toks s) L) (valsR (toks s) L ins) sc (i + 1)) (j : Int) what = cntF (pastI (netR (toks s) L) (valsR (toks s) L ins) sc i) (j : Int) what + (if qn = j ∧ (wakeF (netR (toks s) L) (valsR (toks s) L ins) (pastI (netR (toks s) L) (valsR (toks s) L ins) sc i) sc[i]).did = what then 1 else 0)) := hide (fun j what => by
          rw [past_succ (netR (toks s) L) (valsR (toks s) L ins) sc hil, cnt_next, hqk]
          congr 1
          by_cases h1 : qn = j
          · subst h1; simp
          · have h2 : ¬ ((qn : Int) = (j : Int)) := by omega
            simp [h1, h2])
        have hvl : (valsR (toks s) L ins (qn : Int) (cntF (pastI (netR (toks s) L) (valsR (toks s) L ins) sc i) (qn : Int) 2)).length ≤ 12 := by
          unfold valsR atR
          rw [List.length_map]
          exact Nat.le_trans (atG_len _ _ _ _) hfew
        have HKV := hide (fun W vT hT N hN hV hRR hWW => kvalues_any W (toks s) L ins (qn : Int) (sc[i]).a 2 N vT (.slice aV (valsR (toks s) L ins (qn : Int) (cntF (pastI (netR (toks s) L) (valsR (toks s) L ins) sc i) (qn : Int) 2)).length cV) hT hV (.slice a2 (eqL L).length c2) hRR (.slice a3 (eqL L).length c3) hWW hN hfew)
        rw [sk, hqk] at x0
        rw [sa] at x1
        rw [hqk] at hcase y0
        generalize hev0 : wakeF (netR (toks s) L) (valsR (toks s) L ins) (pastI (netR (toks s) L) (valsR (toks s) L ins) sc i) sc[i] = ev at *
        obtain ⟨P', hP'⟩ : ∃ P', P' = pastI (netR (toks s) L) (valsR (toks s) L ins) sc (i + 1) := ⟨_, rfl⟩
        rw [← hP'] at HN
        have HPE := hide hP'
        clear hP'
        generalize pastI (netR (toks s) L) (valsR (toks s) L ins) sc i = P at *
        generalize (sc[i]).a = at0 at *
        have hmade0 := hmade.cell hq4
        have htold0 := htold.cell hq4
        have hmq1 : mq < wr.heap.size := by omega
        have hmq2 : mq + 1 < wr.heap.size := by omega
        have m0 : ∀ o, (wr.alloc o).cell? ⟨mq, qn, none⟩ = some (.int .i64 ((cntF P (qn : Int) 1 : Nat) : Int)) := fun o => (World.cell?_alloc_past _ _ _ hmq1).trans hmade0
        have m1 : ∀ o, (wr.alloc o).cell? ⟨mq + 1, qn, none⟩ = some (.int .i64 ((cntF P (qn : Int) 2 : Nat) : Int)) := fun o => (World.cell?_alloc_past _ _ _ hmq2).trans htold0
        have f0 : ∀ o, (wr.alloc o).frozen? ⟨mq, qn, none⟩ = false := fun o => (World.frozen?_alloc_past _ _ _ hmq1).trans (hmade.frozen qn)
        have f1 : ∀ o, (wr.alloc o).frozen? ⟨mq + 1, qn, none⟩ = false := fun o => (World.frozen?_alloc_past _ _ _ hmq2).trans (htold.frozen qn)
        have ys0 : ∀ o, (wr.alloc o).cell? ⟨bS, oS + i * 4, none⟩ = some (.int .i64 (qn : Int)) := fun o => (World.cell?_alloc_past _ _ _ (Nat.lt_of_lt_of_le hbS hbw.size)).trans y0
        have ys1 : ∀ o, (wr.alloc o).cell? ⟨bS, oS + i * 4 + 1, none⟩ = some (.int .i64 at0) := fun o => (World.cell?_alloc_past _ _ _ (Nat.lt_of_lt_of_le hbS hbw.size)).trans y1
        rw [HMQ.out] at m0 m1 f0 f1
        have i1 : (0 : Int) ≤ (i : Int) := by omega
        have i2 : (i : Int) < (sc.length : Int) := by omega
        have n1 : ¬ (qn : Int) < 0 := by omega
        have n2 : ¬ (qn : Int) ≥ 4 := by omega
        have n3 : (0 : Int) ≤ (qn : Int) := by omega
        have n4 : (qn : Int) < 4 := by omega
        have qq : ((qn : Int) != (qn : Int)) = false := by simp
        have qa : (at0 != at0) = false := by simp
        have n1' : decide ((qn : Int) < 0) = false := decide_eq_false n1
        have n2' : decide ((qn : Int) ≥ 4) = false := decide_eq_false n2
        have n2'' : decide ((4 : Int) ≤ (qn : Int)) = false := decide_eq_false (by omega)
        have n2n : decide (4 ≤ qn) = false := decide_eq_false (by omega)
        have HM := hide hmade
        have HT := hide htold
        have HBR := hide hbr
        have HBW := hide hbw
        have HB13 := hide hb13
        have HOV := hide hoV
        clear hmade htold hbr hbw hb13 hoV hoT hev hee hei hPO hPI hrow hrow' sk sa hact hrS y0 y1 hqk hmade0 htold0 hev0 eT eV
        rcases hcase with ⟨d0, e1, e2⟩ | ⟨d0, e1, e2, e3⟩ | ⟨d0, e1, e2, e3⟩
        · rw [d0] at x2
          rw [e1] at x3
          rw [e2] at x5
          have HP : Hid (∀ j : Nat, cntF P' (j : Int) 1 = cntF P (j : Int) 1 ∧ cntF P' (j : Int) 2 = cntF P (j : Int) 2) := hide (fun j => by
            rw [HN.out, HN.out, d0]
            exact ⟨by simp, by simp⟩)
          go_wp2_with fail
          go_big_region
          go_wp2_with fail
          go_roundw
          case rel =>
            refine ⟨i + 1, hil, by go_num, (HBR.out.alloc HBR.out.size _).drew, by simp; omega, ?_, ?_⟩
            · rw [← HPE.out]
              exact ((HM.out.alloc _).of_block rfl).congr (fun j _ => by rw [(HP.out j).1])
            · rw [← HPE.out]
              exact ((HT.out.alloc _).of_block rfl).congr (fun j _ => by rw [(HP.out j).2])
          case measure => simp [intOf]; omega
        · rw [d0] at x2
          rw [e1] at x3
          rw [e3] at x5
          have HP : Hid (∀ j : Nat, cntF P' (j : Int) 1 = cntF P (j : Int) 1 + (if qn = j then 1 else 0) ∧ cntF P' (j : Int) 2 = cntF P (j : Int) 2) := hide (fun j => by
            rw [HN.out, HN.out, d0]
            exact ⟨by simp, by simp⟩)
          have g1 : ((cntF P (qn : Int) 1 : Int) == (cntF P (qn : Int) 1 : Int)) = true := by simp
          have g2 : ((cntF P (qn : Int) 1 : Int) == (cntF P (qn : Int) 2 : Int)) = true := by rw [e2]; simp
          have hc1 : cntF P (qn : Int) 1 ≤ 400 := by omega
          obtain ⟨cm, hcm⟩ : ∃ cm, cm = cntF P (qn : Int) 1 := ⟨_, rfl⟩
          obtain ⟨ct, hct⟩ : ∃ ct, ct = cntF P (qn : Int) 2 := ⟨_, rfl⟩
          rw [← hcm] at x3 m0 g1 g2 hc1
          rw [← hct] at m1 g2
          have HCM := hide hcm
          clear hcm hct e2 HKV
          go_wp2_with fail
          go_big_region
          go_wp2_with fail
          go_big_region
          go_wp2_with fail
          go_roundw
          case rel =>
            refine ⟨i + 1, hil, by go_num, ((HBR.out.alloc HBR.out.size _).setCell (Nat.le_refl _) _).drew.drew, by simp; omega, ?_, ?_⟩
            · rw [← HPE.out, HMQ.out]
              have h5 := HM.out
              rw [HMQ.out] at h5
              refine ((((h5.alloc _).set qn (.int .i64 ((cm : Int) + 1))).of_block rfl).of_block rfl).congr (fun j _ => ?_)
              rw [(HP.out j).1]
              by_cases e : j = qn
              · subst e; rw [if_pos rfl, if_pos rfl, ← HCM.out]; simp
              · rw [if_neg e, if_neg (fun h => e h.symm)]; rfl
            · rw [← HPE.out]
              have h5 := HT.out
              refine ((((h5.alloc _).setOther (a := ⟨w3.heap.size, qn, none⟩) (by rw [HMQ.out]; show w3.heap.size + 1 ≠ w3.heap.size; omega) _).of_block rfl).of_block rfl).congr (fun j _ => ?_)
              rw [(HP.out j).2]
          case measure => simp [intOf]; omega
        · rw [d0] at x2
          rw [e1] at x3
          rw [e3] at x5
          have HP : Hid (∀ j : Nat, cntF P' (j : Int) 1 = cntF P (j : Int) 1 ∧ cntF P' (j : Int) 2 = cntF P (j : Int) 2 + (if qn = j then 1 else 0)) := hide (fun j => by
            rw [HN.out, HN.out, d0]
            exact ⟨by simp, by simp⟩)
          rw [e3] at HOV
          have HRV := hide (own_row HOV.out (by omega) rfl)
          go_wp2_with fail
          go_big_region
          go_wp2_with fail
          refine (HKV.out _ _ ⟨_, _, _, rfl⟩ _ (by omega) (HRV.out.below ((HB13.out.alloc HB13.out.size _).drew)) (HRA.out.below (((HB3.out.trans (HBR.out.mono HB3.out.size)).alloc (by have := HB3.out.size; have := HBR.out.size; omega) _).drew)) (HRW.out.below ((HBR.out.alloc HBR.out.size _).drew))).mono ?_
          rintro e w6 ⟨rfl, hb6⟩
          have hsz : (wr.alloc (.cells #[.int .i64 (qn : Int), .int .i64 at0, .int .i64 2, .int .i64 ((cntF P (qn : Int) 2 : Nat) : Int), .slice aT ev.took.length cT, .slice aV (valsR (toks s) L ins (qn : Int) (cntF P (qn : Int) 2)).length cV] 41)).drew.heap.size = wr.heap.size + 1 := by simp
          have hmq3 : w3.heap.size < wr.heap.size := by have := HMQ.out; omega
          have hmq4 : w3.heap.size + 1 < wr.heap.size := by have := HMQ.out; omega
          have r0 := (hb6.cell (p := ⟨w3.heap.size, qn, none⟩) (by rw [hsz]; show w3.heap.size < _; omega)).trans (m0 _)
          have r1 := (hb6.cell (p := ⟨w3.heap.size + 1, qn, none⟩) (by rw [hsz]; show w3.heap.size + 1 < _; omega)).trans (m1 _)
          have t1 := (hb6.frozen (p := ⟨w3.heap.size + 1, qn, none⟩) (by rw [hsz]; show w3.heap.size + 1 < _; omega)).trans (f1 _)
          have r3 : w6.cell? ⟨wr.heap.size, 3, none⟩ = some (.int .i64 ((cntF P (qn : Int) 2 : Nat) : Int)) := (hb6.cell (p := ⟨wr.heap.size, 3, none⟩) (by rw [hsz]; show wr.heap.size < _; omega)).trans ((World.cell?_alloc_at _ _ _ _ rfl).trans rfl)
          have HB6 : Hid (Below wr.heap.size wr w6) := hide (((Below.refl wr.heap.size wr).alloc (Nat.le_refl _) _).drew.trans (hb6.mono (by rw [hsz]; omega)))
          clear hb6 hsz HKV
          have hc1 : cntF P (qn : Int) 2 ≤ 400 := by omega
          obtain ⟨cm, hcm⟩ : ∃ cm, cm = cntF P (qn : Int) 1 := ⟨_, rfl⟩
          obtain ⟨ct, hct⟩ : ∃ ct, ct = cntF P (qn : Int) 2 := ⟨_, rfl⟩
          rw [← hcm] at r0 e2
          rw [← hct] at r1 r3 e2 hc1 ⊢
          have HCT := hide hct
          clear hcm hct
          have g1 : ((ct : Int) == (ct : Int)) = true := by simp
          have ew : IntKind.i64.wrap ((ct : Int) + 1) = ((ct + 1 : Nat) : Int) := by rw [IntKind.wrap_i64]; omega
          have g2 : ((cm : Int) == (ct : Int) + 1) = true := by rw [beq_iff_eq]; omega
          go_wp2_with fail
          go_big_region
          go_wp2_with fail
          go_roundw
          case rel =>
            have hs6 := HB6.out.size
            refine ⟨i + 1, hil, by go_num, ((HBR.out.trans (HB6.out.mono HBR.out.size)).setCell (by show w3.heap.size ≤ w3.heap.size + 1; omega) _).drew, by simp; omega, ?_, ?_⟩
            · rw [← HPE.out]
              have h5 := HM.out.of_block (HB6.out.block mq (by omega))
              refine ((h5.setOther (a := ⟨w3.heap.size + 1, qn, none⟩) (by rw [HMQ.out]; show w3.heap.size ≠ w3.heap.size + 1; omega) _).of_block rfl).congr (fun j _ => ?_)
              rw [(HP.out j).1]
            · rw [← HPE.out, HMQ.out]
              have h5 := HT.out.of_block (HB6.out.block (mq + 1) (by omega))
              rw [HMQ.out] at h5
              refine ((h5.set qn (.int .i64 ((ct : Int) + 1))).of_block rfl).congr (fun j _ => ?_)
              rw [(HP.out j).2]
              by_cases e : j = qn
              · subst e; rw [if_pos rfl, if_pos rfl, ← HCT.out]; simp
              · rw [if_neg e, if_neg (fun h => e h.symm)]; rfl
          case measure => simp [intOf]; omega
      · have ei : i = sc.length := by omega
        have z1 : ¬ (i : Int) < (sc.length : Int) := by omega
        go_wp2
        go_ret
        have s1 := HB1.out.size
        have s2 := HB2.out.size
        have s3 := HB3.out.size
        exact ⟨rfl, ((HB1.out.trans (HB2.out.mono s1)).trans (HB3.out.mono (by omega))).trans (hbr.mono (by omega))⟩
  · rw [decide_eq_false h0]
    obtain ⟨a, c, rfl⟩ := RunQ.len hq (fun h => absurd h h0)
    clear hq
    go_wp2
    go_ret
    exact ⟨rfl, HB1.out⟩

end Go.Proofs.Ytmndgoapkmhglab
