import Derived.Test.Ytmndgoapkmhglabo42OpenA
import Derived.Test.Ytmndgoapkmhglabo44LayN
import Derived.Test.Ytmndgoapkmhglabo46OnI
import Derived.Test.Ytmndgoapkmhglabo51KpE
namespace Go.Proofs.Ytmndgoapkmhglab
open Go.RowKit
attribute [local go_sem ↓] Go.wp_at_zero Go.wp_at_succ
theorem routeTo_le (ts : List Tk) (L : List Dl) (b : Nat) (x : Dl) : ∀ k, (routeTo ts L b x k).length ≤ k := by
  intro k
  induction k with
  | zero => simp [routeTo]
  | succ k ih =>
    simp only [routeTo, List.length_append]
    have : (routeAt ts L b x k).length ≤ 1 := by unfold routeAt; split <;> simp
    omega
theorem routes_le (ts : List Tk) (L : List Dl) : (routesR ts L).length ≤ 4 * (eqL L).length := by
  have : ∀ (l : List Dl) b, (routesFrom ts L b l).length ≤ 4 * l.length := by
    intro l
    induction l with
    | nil => intro b; simp [routesFrom]
    | cons x r ih =>
      intro b
      simp only [routesFrom, List.length_append, List.length_cons]
      have h1 := routeTo_le ts L b x 4
      have h2 := ih (b + 1)
      omega
  exact this _ _
theorem lnP_nil {ts : List Tk} {L : List Dl} {l : Nat} (hl : l < (routesR ts L).length) (a : OpF) : lineR (plR ts L) ((routesR ts L).getD l ⟨0, 0, false⟩) = lnP (netR ts L) [] a 0 l := by
  have e : lnAt (netR ts L) l = ⟨((plR ts L).getD ((routesR ts L)[l]).src 0 : Nat), (((routesR ts L)[l]).dst : Nat), ((routesR ts L)[l]).late⟩ := by
    unfold lnAt netR
    rw [List.getD_eq_getElem?_getD, List.getElem?_map, List.getElem?_eq_getElem hl]
    rfl
  have e2 : (routesR ts L).getD l ⟨0, 0, false⟩ = (routesR ts L)[l] := by rw [List.getD_eq_getElem?_getD, List.getElem?_eq_getElem hl]; rfl
  rw [e2]
  unfold lineR lnP
  rw [(take_zero_tak (netR ts L) [] a l).1, (take_zero_tak (netR ts L) [] a l).2]
  unfold lateN comesN knownN
  rw [e]
  simp only [comesF, knownF, tkF]
  cases ((routesR ts L)[l]).late <;> rfl
set_option maxHeartbeats 8000000 in
set_option maxRecDepth 100000 in
theorem once_any (s : ByteArray) (hs : s.size ≤ 1048576) (w : World) (vX : Value) (ins : List (List Int)) (hX : LsAt w vX ins) (vS : Value) (sc : List OpF) (hS : OpsAt w vS sc) :
    Calls Try.prog 5 #[.string s, vX, vS] w fun e w' => e = .returned (.bool true) ∧ Below w.heap.size w w' := by
  have hsm : s.size ≤ maxLen := by unfold maxLen; omega
  have HRUN := hide (krun_any s hs w vX ins hX vS sc hS)
  obtain ⟨AS, CS, rfl, hmS, hcS⟩ := hS
  have HCS := hide hcS
  clear hX hcS
  go_enter Try.func5, Try.ntmps5
  go_wp2_with fail
  refine HRUN.out.mono ?_
  rintro e w1 ⟨v, rfl, hq, hb1⟩
  have HB1 := hide hb1
  clear HRUN hb1
  by_cases h0 : runE s sc = 0
  · rw [decide_eq_true h0]
    obtain ⟨ht, hp⟩ := runE_zero h0
    obtain ⟨L, hG, hR, hO⟩ := good_text ht
    have hq' := hq
    unfold RunQ at hq'
    rw [if_pos h0] at hq'
    obtain ⟨TV, VV, hE⟩ := hq' L hG hR
    have hst : seatsF s = plR (toks s) L := seats_text hG.sp
    have hpl : (plR (toks s) L).length = (eqL L).length := by unfold plR; rw [List.length_map]
    rw [hst, playK_eq] at hp
    obtain ⟨h400, hacts⟩ := (play_iff _ _ _).1 hp
    have hAO := play_acts hacts
    have hEl := evsR_len (toks s) L ins sc
    obtain ⟨ae, ce, rfl, hshE⟩ := own_shape hE.row
    rw [hEl] at hshE
    have HLK := hide (fun W => plinks_any s hsm W)
    rw [ht] at HLK
    have HLQ : Hid (∀ B W v, LkQ s B W v → W.ownsRow B 89 3 v (routesR (toks s) L).length (rtCells (routesR (toks s) L))) := hide (fun B W v h => by
      unfold LkQ at h
      rw [if_pos ht] at h
      exact h L hG hO)
    have hfew := hR.few.1
    have hrl : (routesR (toks s) L).length ≤ 6100 := by have := routes_le (toks s) L; omega
    have HRM : Hid (∀ r ∈ routesR (toks s) L, r.src < (plR (toks s) L).length ∧ r.dst < 4) := hide (fun r hr => by
      obtain ⟨h1, x, h2, _⟩ := routes_mem (toks s) L r hr
      exact ⟨by rw [hpl]; exact (List.getElem?_eq_some_iff.1 h2).1, h1⟩)
    have HE := hide hE
    have HSHE := hide hshE
    have HO := hide hO
    have HACT := hide hacts
    have HAO := hide hAO
    have HSE := hide (fun W => seats_any s W hs)
    rw [hst] at HSE
    have hNl : (netR (toks s) L).length = (routesR (toks s) L).length := by unfold netR; rw [List.length_map]
    have HNL := hide hNl
    have HPLN := hide hpl
    clear hq hq' hE hshE h0 ht hp hG hR hO hacts hAO hst hNl hpl
    rw [hEl]
    go_wp2_with fail
    refine (HLK.out w1).mono ?_
    rintro e w2 ⟨v2, rfl, hq2, hb2⟩
    have hown2 := HLQ.out _ _ _ hq2
    obtain ⟨aR, cR, rfl, _⟩ := own_shape hown2
    have HOW2 := hide hown2
    have HB2 := hide hb2
    clear hq2 hown2 hb2 HLK HLQ
    go_wp2_with fail
    refine (HSE.out w2).mono ?_
    rintro e w3 ⟨vw, rfl, hown3, hb3⟩
    have HRW := hide (pc_row hown3 (by rw [HPLN.out]; omega))
    have HBK := hide (kbook_any w3 (.slice aR (routesR (toks s) L).length cR) (routesR (toks s) L) (own_zero (bel_own HOW2.out hb3)) vw (plR (toks s) L) HRW.out HRM.out hrl)
    obtain ⟨a3, c3, rfl, _⟩ := own_shape hown3
    have HB3 := hide hb3
    clear hown3 hb3 HSE
    go_wp2_with fail
    refine HBK.out.mono ?_
    rintro e w4 ⟨b, rfl, aL, cL, gS, gT, hBk, hz, hb4⟩
    have h6 : Bk w4 w3.heap.size b aL (netR (toks s) L).length cL gS gT (fun l => lineR (plR (toks s) L) ((routesR (toks s) L).getD l ⟨0, 0, false⟩)) (fun _ => 0) (fun _ => 0) := by rw [HNL.out]; exact hBk
    have h7 : ∀ l, l < (netR (toks s) L).length → (fun l => lineR (plR (toks s) L) ((routesR (toks s) L).getD l ⟨0, 0, false⟩)) l = lnP (netR (toks s) L) [] ⟨0, 0, 0, 0⟩ 0 l := fun l hl => lnP_nil (by rw [← HNL.out]; exact hl) _
    have HBP : Hid (BkP w4 w3.heap.size b aL cL gS gT (netR (toks s) L) []) := hide (h6.congr h7 (fun _ _ => rfl) (fun _ _ => rfl))
    clear h6 h7
    have HZ : Hid ((netR (toks s) L).length = 0 → aL = none) := hide (fun h => hz (by rw [← HNL.out]; exact h))
    have HB4 := hide hb4
    have HA : Hid (Apart (netR (toks s) L)) := hide (net_apart _ _)
    clear hBk hz hb4 HBK HOW2 HRW HRM
    go_wp2
    go_loopw [15] (fun vi wr => ∃ i : Nat, i ≤ sc.length ∧ vi = .int .i64 i ∧ BkP wr w3.heap.size b aL cL gS gT (netR (toks s) L) (pastI (netR (toks s) L) (valsR (toks s) L ins) sc i) ∧ Below w3.heap.size w3 wr) (fun vi _ => sc.length - (intOf vi).toNat)
    case atStart => exact ⟨0, Nat.zero_le _, rfl, HBP.out, HB4.out⟩
    case round =>
      obtain ⟨i, hi, rfl, hBr, hbr⟩ := hrel
      have s1 := HB1.out.size
      have s2 := HB2.out.size
      have s3 := HB3.out.size
      by_cases hil : i < sc.length
      · have hb13 : Below w1.heap.size w1 wr := (HB2.out.trans (HB3.out.mono s2)).trans (hbr.mono (by omega))
        have hbw : Below w.heap.size w wr := HB1.out.trans (hb13.mono s1)
        obtain ⟨ge, rfl, _, hge⟩ := HSHE.out (by omega)
        have hev : (evsR (toks s) L ins sc)[i]? = some (wakeF (netR (toks s) L) (valsR (toks s) L ins) (pastI (netR (toks s) L) (valsR (toks s) L ins) sc i) sc[i]) := past_get _ _ sc hil
        obtain ⟨hPO, hPI⟩ := past_all (valsR (toks s) L ins) HA.out HAO.out hil
        have hrow := HE.out.row
        rw [evsR_len] at hrow
        have hrow' : w1.ownsRow w.heap.size 41 6 (.slice (some ⟨ge, 0, none⟩) (evsR (toks s) L ins sc).length ce) (evsR (toks s) L ins sc).length (evCells (evsR (toks s) L ins sc) TV VV) := by rw [evsR_len]; exact hrow
        obtain ⟨x0, x1, x2, x3, x4, x5⟩ := ev_cells hrow' hev
        rw [← hb13.cell (p := ⟨ge, i * 6, none⟩) hge] at x0
        rw [← hb13.cell (p := ⟨ge, i * 6 + 1, none⟩) hge] at x1
        rw [← hb13.cell (p := ⟨ge, i * 6 + 2, none⟩) hge] at x2
        rw [← hb13.cell (p := ⟨ge, i * 6 + 3, none⟩) hge] at x3
        rw [← hb13.cell (p := ⟨ge, i * 6 + 4, none⟩) hge] at x4
        rw [← hb13.cell (p := ⟨ge, i * 6 + 5, none⟩) hge] at x5
        have hei : i < (evsR (toks s) L ins sc).length := by rw [evsR_len]; exact hil
        have hee : (evsR (toks s) L ins sc)[i]'hei = wakeF (netR (toks s) L) (valsR (toks s) L ins) (pastI (netR (toks s) L) (valsR (toks s) L ins) sc i) sc[i] := (List.getElem?_eq_some_iff.1 hev).2
        have hoT := HE.out.took i hei
        have hoV := HE.out.vals i hei
        rw [hee] at hoT hoV
        obtain ⟨aT, cT, eT, hshT⟩ := own_shape hoT
        obtain ⟨aV, cV, eV, _⟩ := own_shape hoV
        rw [eT] at x4 hoT
        rw [eV] at x5
        obtain ⟨bS, oS, rfl, hbS, hrS⟩ := HCS.out (by omega)
        obtain ⟨y0, y1, y2, y3⟩ := hrS i hil
        rw [← hbw.cell (p := ⟨bS, oS + i * 4, none⟩) hbS] at y0
        rw [← hbw.cell (p := ⟨bS, oS + i * 4 + 1, none⟩) hbS] at y1
        rw [← hbw.cell (p := ⟨bS, oS + i * 4 + 2, none⟩) hbS] at y2
        rw [← hbw.cell (p := ⟨bS, oS + i * 4 + 3, none⟩) hbS] at y3
        have hact := HACT.out i hil
        have hq4 : ∃ qn : Nat, qn < 4 ∧ sc[i].k = (qn : Int) := by
          have h5 := (atR_here (toks s) L (actF sc i).k).1 hact.here
          rw [← actF_get hil] at h5
          unfold hereK plR at h5
          rw [List.any_map, List.any_eq_true] at h5
          obtain ⟨x, hx, hxe⟩ := h5
          have hxe' : ((placeD (toks s) x : Nat) : Int) = sc[i].k := by simpa using hxe
          exact ⟨placeD (toks s) x, (HO.out.eq hx).2.2.2.2, hxe'.symm⟩
        obtain ⟨qn, hq4, hqk⟩ := hq4
        have hrng := (⟨hact.a0, hact.b0, hact.c0⟩ : _ ∧ _ ∧ _)
        rw [← actF_get hil] at hrng
        have hps := past_succ (netR (toks s) L) (valsR (toks s) L ins) sc hil
        have hpl' := past_len (netR (toks s) L) (valsR (toks s) L ins) sc hi
        obtain ⟨aa, ab, ac, hop⟩ : ∃ aa ab ac, sc[i] = ⟨(qn : Int), aa, ab, ac⟩ := ⟨sc[i].a, sc[i].b, sc[i].c, by rw [← hqk]⟩
        rw [hop] at hPO hrng hps hoT hoV hshT x0 x1 x2 x3 x4 x5 y0 y1 y2 y3
        simp only [] at hPO hrng y0 y1 y2 y3
        obtain ⟨P, hP⟩ : ∃ P, P = pastI (netR (toks s) L) (valsR (toks s) L ins) sc i := ⟨_, rfl⟩
        rw [← hP] at hPO hPI hps hpl' hoT hshT x0 x1 x2 x3 x4 x5 hBr
        have HPS := hide hps
        have HEV : Hid (∀ W, Below wr.heap.size wr W → Calls Try.prog 17 #[.pointer (some ⟨b, 0, none⟩), .agg #[.int .i64 (qn : Int), .int .i64 aa, .int .i64 ab, .int .i64 ac], .agg #[.int .i64 (wakeF (netR (toks s) L) (valsR (toks s) L ins) P ⟨qn, aa, ab, ac⟩).k, .int .i64 (wakeF (netR (toks s) L) (valsR (toks s) L ins) P ⟨qn, aa, ab, ac⟩).a, .int .i64 (wakeF (netR (toks s) L) (valsR (toks s) L ins) P ⟨qn, aa, ab, ac⟩).did, .int .i64 (wakeF (netR (toks s) L) (valsR (toks s) L ins) P ⟨qn, aa, ab, ac⟩).n, .slice aT (wakeF (netR (toks s) L) (valsR (toks s) L ins) P ⟨qn, aa, ab, ac⟩).took.length cT, .slice aV (wakeF (netR (toks s) L) (valsR (toks s) L ins) P ⟨qn, aa, ab, ac⟩).vals.length cV]] W fun e w' => e = .returned (.bool true) ∧ BkP w' w3.heap.size b aL cL gS gT (netR (toks s) L) (P ++ [(⟨qn, aa, ab, ac⟩, wakeF (netR (toks s) L) (valsR (toks s) L ins) P ⟨qn, aa, ab, ac⟩)]) ∧ Below w3.heap.size wr w') := hide (fun W hW => by
          have hsW := hW.size
          have hsr := hbr.size
          refine (kevent_any W w3.heap.size b aL cL gS gT (netR (toks s) L) (valsR (toks s) L ins) P (hBr.below hW) qn hq4 aa ab ac (by omega) hPO hPI HA.out (by omega) hrng HZ.out aT cT (fun m hm => ?_) _ _ _ aV _ cV).mono (fun e w' ⟨h1, h2, h3⟩ => ⟨h1, h2, (hW.mono hsr).trans h3⟩)
          obtain ⟨g, rfl, _, hg⟩ := hshT (by show 0 < (tookF _ _ _).length; omega)
          refine ⟨g, rfl, by omega, ?_⟩
          have hc := hoT.cellAt m (by show m < (tookF _ _ _).length * 1; omega)
          rw [hW.cell (p := ⟨g, m, none⟩) (by show g < wr.heap.size; omega), hb13.cell (p := ⟨g, m, none⟩) hg, hc]
          unfold pCells
          rw [List.getElem?_map]
          show Option.map _ (tookF (netR (toks s) L) P ⟨qn, aa, ab, ac⟩)[m]? = _
          rw [List.getElem?_eq_getElem hm]
          rfl)
        generalize (wakeF (netR (toks s) L) (valsR (toks s) L ins) P ⟨qn, aa, ab, ac⟩) = ev at *
        obtain ⟨ek, ea, ed, en, eto, evs⟩ := ev
        simp only [] at x0 x1 x2 x3 x4 x5 HEV
        have HBR := hide hbr
        have HBZ : Hid (∀ w', Below w3.heap.size wr w' → w'.cell? ⟨bS, oS + i * 4, none⟩ = some (.int .i64 (qn : Int)) ∧ w'.cell? ⟨bS, oS + i * 4 + 1, none⟩ = some (.int .i64 aa) ∧ w'.cell? ⟨bS, oS + i * 4 + 2, none⟩ = some (.int .i64 ab) ∧ w'.cell? ⟨bS, oS + i * 4 + 3, none⟩ = some (.int .i64 ac) ∧ w'.cell? ⟨ge, i * 6, none⟩ = some (.int .i64 ek) ∧ w'.cell? ⟨ge, i * 6 + 1, none⟩ = some (.int .i64 ea) ∧ w'.cell? ⟨ge, i * 6 + 2, none⟩ = some (.int .i64 ed) ∧ w'.cell? ⟨ge, i * 6 + 3, none⟩ = some (.int .i64 en) ∧ w'.cell? ⟨ge, i * 6 + 4, none⟩ = some (.slice aT eto.length cT) ∧ w'.cell? ⟨ge, i * 6 + 5, none⟩ = some (.slice aV evs.length cV)) := hide (fun w' h => by
          have g1 : bS < w3.heap.size := by omega
          have g2 : ge < w3.heap.size := by omega
          exact ⟨(h.cell (p := ⟨bS, _, none⟩) g1).trans y0, (h.cell (p := ⟨bS, _, none⟩) g1).trans y1, (h.cell (p := ⟨bS, _, none⟩) g1).trans y2, (h.cell (p := ⟨bS, _, none⟩) g1).trans y3, (h.cell (p := ⟨ge, _, none⟩) g2).trans x0, (h.cell (p := ⟨ge, _, none⟩) g2).trans x1, (h.cell (p := ⟨ge, _, none⟩) g2).trans x2, (h.cell (p := ⟨ge, _, none⟩) g2).trans x3, (h.cell (p := ⟨ge, _, none⟩) g2).trans x4, (h.cell (p := ⟨ge, _, none⟩) g2).trans x5⟩)
        have i1 : (0 : Int) ≤ (i : Int) := by omega
        have i2 : (i : Int) < (sc.length : Int) := by omega
        clear hBr hbr hb13 hbw hev hee hei hoT hoV hshT hrow hrow' hPO hPI hps hpl' hP hop hrng hqk hact hrS eT eV
        go_wp2_with fail
        go_region_held3 (fun w' => w'.cell? ⟨bS, oS + i * 4, none⟩ = some (.int .i64 (qn : Int)) ∧ w'.cell? ⟨bS, oS + i * 4 + 1, none⟩ = some (.int .i64 aa) ∧ w'.cell? ⟨bS, oS + i * 4 + 2, none⟩ = some (.int .i64 ab) ∧ w'.cell? ⟨bS, oS + i * 4 + 3, none⟩ = some (.int .i64 ac) ∧ w'.cell? ⟨ge, i * 6, none⟩ = some (.int .i64 ek) ∧ w'.cell? ⟨ge, i * 6 + 1, none⟩ = some (.int .i64 ea) ∧ w'.cell? ⟨ge, i * 6 + 2, none⟩ = some (.int .i64 ed) ∧ w'.cell? ⟨ge, i * 6 + 3, none⟩ = some (.int .i64 en) ∧ w'.cell? ⟨ge, i * 6 + 4, none⟩ = some (.slice aT eto.length cT) ∧ w'.cell? ⟨ge, i * 6 + 5, none⟩ = some (.slice aV evs.length cV)) (go_keep)
          ((go_at_call 17; refine (HEV.out _ (Below.refl _ _).drew).mono ?_; rintro e wa ⟨rfl, hBa, hba⟩; obtain ⟨t0, t1, t2, t3, t4, t5, t6, t7, t8, t9⟩ := HBZ.out wa hba))
        rename_i hHeld
        clear hHeld t0 t1 t2 t3 t4 t5 t6 t7 t8 t9 x0 x1 x2 x3 x4 x5 y0 y1 y2 y3 HEV HBZ
        have HBA := hide hBa
        have HBB : Hid (Below w3.heap.size w3 wa) := hide (HBR.out.trans hba)
        clear hBa hba
        go_wp2
        go_roundw
        case rel => exact ⟨i + 1, by omega, by go_num, by rw [HPS.out]; exact HBA.out, HBB.out⟩
        case measure => simp [intOf]; omega
      · have ei : i = sc.length := by omega
        subst ei
        have HF : Hid (Below w.heap.size w wr) := hide (((HB1.out.trans (HB2.out.mono s1)).trans (HB3.out.mono (by omega))).trans (hbr.mono (by omega)))
        clear hBr hbr
        go_wp2
        go_ret
        exact ⟨rfl, HF.out⟩
  · rw [decide_eq_false h0]
    obtain ⟨a, c, rfl⟩ := RunQ.len hq (fun h => absurd h h0)
    clear hq
    go_wp2
    go_ret
    exact ⟨rfl, HB1.out⟩
end Go.Proofs.Ytmndgoapkmhglab
