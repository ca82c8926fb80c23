import Derived.Test.Ytmndgoapkmhglabc13RefI
import Derived.Test.Ytmndgoapkmhglabc30LawP
import Derived.Test.Ytmndgoapkmhglabc32OpenL
import Derived.Test.Ytmndgoapkmhglabc34AcB
import Derived.Test.Ytmndgoapkmhglabc41AcF
namespace Go.Proofs.Ytmndgoapkmhglab
open Go.RowKit
attribute [local go_sem ↓] Go.wp_at_zero Go.wp_at_succ
set_option maxHeartbeats 4000000 in
set_option maxRecDepth 100000 in
theorem pkeep_any (w : World) (v : Value) (sc : List OpF) (h : OpsAt w v sc) (bd : BdF) (ht : ∀ i, i < sc.length → 0 ≤ (actF sc i).a ∧ (actF sc i).a ≤ 1099511627776) :
    Calls Try.prog 50 #[v, bd.val] w fun e w' => e = .returned (.bool (keepP bd sc)) ∧ Below w.heap.size w w' := by
  have HS := hide h
  have HT := hide ht
  obtain ⟨A, C, rfl, hm, hc⟩ := h
  have HA := hide hc
  have HKD : Hid (∀ i, keepA bd sc i = (bothB (actF sc i) bd.dmin bd.dmax && match aheadP sc i with | none => decide ((actF sc i).a ≤ bd.tmax) | some k => inB ((actF sc i).a - (actF sc k).a) bd.tmin bd.tmax)) := hide fun i => rfl
  have HKP : Hid (keepP bd sc = (List.range sc.length).all (keepA bd sc)) := hide rfl
  have HBV : Hid (bd.val = .agg #[.int .i64 bd.tmin, .int .i64 bd.tmax, .int .i64 bd.dmin, .int .i64 bd.dmax]) := hide rfl
  obtain ⟨t0, t1, d0, d1⟩ := bd
  obtain ⟨b0, hb0⟩ : ∃ b0, b0 = w.alloc (.cells #[.int .i64 t0, .int .i64 t1, .int .i64 d0, .int .i64 d1] 23) := ⟨_, rfl⟩
  have HW0 : Hid (Below w.heap.size w b0) := hide (by rw [hb0]; exact (Below.refl _ _).alloc (Nat.le_refl _) _)
  have HC : Hid (∀ W : World, Below b0.heap.size b0 W → W.cell? ⟨w.heap.size, 0, none⟩ = some (.int .i64 t0) ∧ W.cell? ⟨w.heap.size, 1, none⟩ = some (.int .i64 t1) ∧ W.cell? ⟨w.heap.size, 2, none⟩ = some (.int .i64 d0) ∧ W.cell? ⟨w.heap.size, 3, none⟩ = some (.int .i64 d1)) := hide fun W hW => box_cells (by rw [hb0] at hW; simpa using hW)
  have HB0 := hide hb0
  clear hc ht
  go_enter Try.func50, Try.ntmps50
  go_wp2
  go_loopw [11] (fun vi wr => ∃ i : Nat, i ≤ sc.length ∧ vi = .int .i64 i ∧ Below b0.heap.size b0 wr ∧ (List.range i).all (keepA ⟨t0, t1, d0, d1⟩ sc) = true) (fun vi _ => sc.length - (intOf vi).toNat)
  case atStart => exact ⟨0, Nat.zero_le _, rfl, by rw [HB0.out]; exact Below.refl _ _, rfl⟩
  case round =>
    obtain ⟨i, hi, rfl, hbr, hall⟩ := hrel
    have HAL := hide hall
    have HBR := hide hbr
    have HWR : Hid (Below w.heap.size w wr) := hide (HW0.out.trans (hbr.mono HW0.out.size))
    clear hall hb0
    by_cases hil : i < sc.length
    · obtain ⟨b, o, rfl, hb, hr⟩ := HA.out (by omega)
      obtain ⟨x0, x1, x2, x3⟩ := act_cells hr HWR.out hb hil
      have j3 : (0 : Int) ≤ (i : Int) := by omega
      have j4 : (i : Int) < (sc.length : Int) := by omega
      have HKA := hide (HKD.out i)
      have HFL : Hid (keepA ⟨t0, t1, d0, d1⟩ sc i = false → keepP ⟨t0, t1, d0, d1⟩ sc = false) := hide (fun e => by rw [HKP.out]; exact all_fail hil e)
      have HBX : Hid (Below b0.heap.size b0 (wr.alloc (.cells #[.int .i64 (actF sc i).k, .int .i64 (actF sc i).a, .int .i64 (actF sc i).b, .int .i64 (actF sc i).c] 43))) := hide (HBR.out.alloc HBR.out.size _)
      have k0 : ∀ u, (wr.alloc u).cell? ⟨w.heap.size, 2, none⟩ = some (.int .i64 d0) := fun u => (HC.out _ (hbr.alloc hbr.size u)).2.2.1
      have k1 : ∀ u, (wr.alloc u).cell? ⟨w.heap.size, 3, none⟩ = some (.int .i64 d1) := fun u => (HC.out _ (hbr.alloc hbr.size u)).2.2.2
      have HPB := hide (pboth_any (actF sc i) d0 d1)
      have HKA2 : Hid (keepA ⟨t0, t1, d0, d1⟩ sc i = (bothB (actF sc i) d0 d1 && match aheadP sc i with | none => decide ((actF sc i).a ≤ t1) | some k => inB ((actF sc i).a - (actF sc k).a) t0 t1)) := HKA
      generalize bothB (actF sc i) d0 d1 = p1 at *
      clear hr hbr HKA
      go_wp2_with fail
      refine (HPB.out _).mono ?_
      rintro e w1 ⟨rfl, hb1⟩
      have hb1' : Below (wr.heap.size + 1) (wr.alloc (.cells #[.int .i64 (actF sc i).k, .int .i64 (actF sc i).a, .int .i64 (actF sc i).b, .int .i64 (actF sc i).c] 43)) w1 := by simpa using hb1
      have HB1' := hide hb1'
      have HB1 : Hid (Below b0.heap.size b0 w1) := hide (HBX.out.trans (hb1.mono HBX.out.size))
      have HW1 : Hid (Below w.heap.size w w1) := hide (HW0.out.trans (HB1.out.mono HW0.out.size))
      clear hb1 hb1' x0 x1 x2 x3 k0 k1
      cases p1 with
      | false =>
        have HF : Hid (keepP ⟨t0, t1, d0, d1⟩ sc = false) := hide (HFL.out (by rw [HKA2.out]; rfl))
        clear HKA2
        go_wp2
        go_ret
        exact ⟨by rw [HF.out]; rfl, HW1.out⟩
      | true =>
        go_wp2_with fail
        refine (pahead_any _ _ sc (HS.out.below HW1.out) i hil).mono ?_
        rintro e w2 ⟨rfl, hb2⟩
        have hb2' := HB1'.out.trans (hb2.mono (by simpa using HB1'.out.size))
        have hb2b : Below b0.heap.size b0 w2 := HB1.out.trans (hb2.mono HB1.out.size)
        have HB2 := hide hb2b
        have HW2 : Hid (Below w.heap.size w w2) := hide (HW0.out.trans (hb2b.mono HW0.out.size))
        have c1 : ∀ u, (w2.alloc u).cell? ⟨wr.heap.size, 1, none⟩ = some (.int .i64 (actF sc i).a) := fun u => (box_cells (hb2'.alloc (by simpa using hb2'.size) u)).2.1
        have k0 : ∀ u, (w2.alloc u).cell? ⟨w.heap.size, 0, none⟩ = some (.int .i64 t0) := fun u => (HC.out _ (hb2b.alloc hb2b.size u)).1
        have k1 : ∀ u, (w2.alloc u).cell? ⟨w.heap.size, 1, none⟩ = some (.int .i64 t1) := fun u => (HC.out _ (hb2b.alloc hb2b.size u)).2.1
        clear hb2 hb2' hb2b
        cases hc : aheadP sc i with
        | none =>
          rw [ahead_none hc]
          have HK : Hid (keepA ⟨t0, t1, d0, d1⟩ sc i = decide ((actF sc i).a ≤ t1)) := hide (by rw [HKA2.out, hc]; rfl)
          clear hc HKA2
          by_cases hle : (actF sc i).a ≤ t1
          · have hg : ¬ (actF sc i).a > t1 := by omega
            have HF : Hid (keepA ⟨t0, t1, d0, d1⟩ sc i = true) := hide (by rw [HK.out]; simp [hle])
            clear hle
            go_wp2
            go_roundw
            case rel => exact ⟨i + 1, by omega, by go_num, HB2.out.alloc HB2.out.size _, all_step HAL.out HF.out⟩
            case measure => simp [intOf]; omega
          · have hg : (actF sc i).a > t1 := by omega
            have HF : Hid (keepP ⟨t0, t1, d0, d1⟩ sc = false) := hide (HFL.out (by rw [HK.out]; simp [hle]))
            clear hle
            go_wp2
            go_ret
            exact ⟨by rw [HF.out]; rfl, HW2.out.alloc HW2.out.size _⟩
        | some k =>
          rw [ahead_at hc]
          have g1 := (aheadG_some hc).1
          have u1 := HT.out i hil
          have u2 := HT.out k (by omega)
          have hw1 : IntKind.i64.wrap ((actF sc i).a - (actF sc k).a) = (actF sc i).a - (actF sc k).a := by rw [IntKind.wrap_i64]; omega
          have HK : Hid (keepA ⟨t0, t1, d0, d1⟩ sc i = inB ((actF sc i).a - (actF sc k).a) t0 t1) := hide (by rw [HKA2.out, hc]; rfl)
          clear hc HKA2 u1 u2
          generalize actF sc k = ak at *
          generalize (actF sc i).a = ai at *
          obtain ⟨a0, a1, a2, a3⟩ := ak
          simp only [] at hw1
          go_wp2_with fail
          refine (pwithin_any (ai - a1) t0 t1 _).mono ?_
          rintro e w3 ⟨rfl, hb3⟩
          have HB3 : Hid (Below b0.heap.size b0 w3) := hide ((HB2.out.alloc HB2.out.size _).trans (hb3.mono (by have := HB2.out.size; simp; omega)))
          have HW3 : Hid (Below w.heap.size w w3) := hide (HW0.out.trans (HB3.out.mono HW0.out.size))
          rw [← show keepA ⟨t0, t1, d0, d1⟩ sc i = inB (ai - a1) t0 t1 from HK.out]
          clear hb3 HK c1 k0 k1
          cases hp : keepA ⟨t0, t1, d0, d1⟩ sc i with
          | false =>
            have HF : Hid (keepP ⟨t0, t1, d0, d1⟩ sc = false) := hide (HFL.out hp)
            clear hp
            go_wp2
            go_ret
            exact ⟨by rw [HF.out]; rfl, HW3.out⟩
          | true =>
            have HF : Hid ((List.range (i + 1)).all (keepA ⟨t0, t1, d0, d1⟩ sc) = true) := hide (all_step HAL.out hp)
            clear hp
            go_wp2
            go_roundw
            case rel => exact ⟨i + 1, by omega, by go_num, HB3.out, HF.out⟩
            case measure => simp [intOf]; omega
    · have ek : i = sc.length := by omega
      subst ek
      have HF : Hid (keepP ⟨t0, t1, d0, d1⟩ sc = true) := hide (by rw [HKP.out, HAL.out])
      clear hbr
      go_wp2
      go_ret
      exact ⟨by rw [HF.out]; rfl, HWR.out⟩
def ValQ (s : ByteArray) (b : BdF) (sc : List OpF) (n : Nat) : Prop := if (textF s).1 ≠ 0 then n = (textF s).1 else ∀ L, RGood s L → ROk (toks s) L → n = validF (toks s) L b sc
set_option maxHeartbeats 2000000 in
set_option maxRecDepth 100000 in
theorem pvalid_any (s : ByteArray) (hs : s.size ≤ maxLen) (b : BdF) (vS : Value) (sc : List OpF) (w : World) (hS : OpsAt w vS sc) :
    Calls Try.prog 29 #[.string s, b.val, vS] w fun e w' => ∃ n : Nat, e = .returned (.int .i64 (n : Int)) ∧ ValQ s b sc n ∧ Below w.heap.size w w' := by
  have HVQ : Hid (∀ n, ValQ s b sc n = if (textF s).1 ≠ 0 then n = (textF s).1 else ∀ L, RGood s L → ROk (toks s) L → n = validF (toks s) L b sc) := hide fun _ => rfl
  have HFIT := hide (pfit_any b)
  have HKP := hide (fun W v h ht => pkeep_any W v sc h b ht)
  have HVF : Hid (∀ L, validF (toks s) L b sc = if fitF b = false then 10 else if playF (toks s) L sc = true ∧ ∀ i, i < sc.length → badV b sc i = false then 0 else 11) := hide fun _ => rfl
  have HKE : Hid (∀ L, (∀ i, i < sc.length → ActOk (toks s) L sc i) → (keepP b sc = true ↔ ∀ i, i < sc.length → badV b sc i = false)) := hide fun L h => keepP_eq h
  generalize hQ1 : ValQ s b sc = Q1 at *
  generalize hkp : keepP b sc = kp at *
  obtain ⟨fb, hfb⟩ : ∃ fb, fitF b = fb := ⟨_, rfl⟩
  rw [hfb] at HFIT HVF
  clear hQ1 hkp hfb
  have HS := hide hS
  obtain ⟨AS, CS, rfl, hmS, hcS⟩ := hS
  clear hcS
  obtain ⟨t0, t1, d0, d1⟩ := b
  obtain ⟨b0, hb0⟩ : ∃ b0, b0 = w.alloc (.cells #[.int .i64 t0, .int .i64 t1, .int .i64 d0, .int .i64 d1] 23) := ⟨_, rfl⟩
  have HW0 : Hid (Below w.heap.size w b0) := hide (by rw [hb0]; exact (Below.refl _ _).alloc (Nat.le_refl _) _)
  have HC : Hid (∀ W : World, Below b0.heap.size b0 W → W.cell? ⟨w.heap.size, 0, none⟩ = some (.int .i64 t0) ∧ W.cell? ⟨w.heap.size, 1, none⟩ = some (.int .i64 t1) ∧ W.cell? ⟨w.heap.size, 2, none⟩ = some (.int .i64 d0) ∧ W.cell? ⟨w.heap.size, 3, none⟩ = some (.int .i64 d1)) := hide fun W hW => box_cells (by rw [hb0] at hW; simpa using hW)
  go_enter Try.func29, Try.ntmps29
  go_wp2_with fail
  rw [← hb0]
  clear hb0
  refine (text_any s b0 hs (good_parse s)).mono ?_
  rintro e w1 ⟨⟨vd, vn, rfl, hr⟩, hb1⟩
  have HB1 := hide hb1
  have HW1 : Hid (Below w.heap.size w w1) := hide (HW0.out.trans (hb1.mono HW0.out.size))
  rcases hr with ⟨h0, rfl, rfl⟩ | ⟨h0, p, hp, ⟨a1, n1, c1, rfl⟩, ⟨a2, n2, c2, rfl⟩, hod, hon, hdn⟩
  · have q1 : (((textF s).1 : Int) != 0) = true := by rw [bne_iff_ne]; omega
    have HQ : Hid (Q1 (textF s).1) := hide (by rw [HVQ.out, if_pos h0])
    clear h0 hb1
    go_wp2
    go_ret
    exact ⟨(textF s).1, rfl, HQ.out, HW1.out.alloc HW1.out.size _⟩
  · have q1 : (((textF s).1 : Int) != 0) = false := by rw [h0]; rfl
    have H0 := hide h0
    have hs' := text_le h0
    have hg := good_parse s hs' p hp
    have hbl : (boundN p).length = p.nodes.length := by simp [boundN]
    have HPA : Hid (∀ o, o = .cells #[.slice a1 n1 c1, .slice a2 n2 c2] 70 → ProgAt (w1.alloc o) w1.heap.size p.decls (boundN p) (.slice a1 n1 c1) (.slice a2 n2 c2)) := hide (fun o ho => by
      subst ho
      exact ⟨by simp, (World.cell?_alloc_at _ _ _ _ rfl).trans rfl, (World.cell?_alloc_at _ _ _ _ rfl).trans rfl, (own_zero hod).alloc _, by rw [hbl]; exact (own_zero hon).alloc _⟩)
    have HPLF : Hid (∀ L, RGood s L → playF (toks s) L sc = playP ((eqsF p.decls).map Dc.place) sc) := hide (fun L hG => by rw [playP_eq, places_held hs' hp hG, playK_eq])
    have hdl := hg.wf.dl
    have k0 : ∀ u, (w1.alloc u).cell? ⟨w.heap.size, 0, none⟩ = some (.int .i64 t0) := fun u => (HC.out _ (hb1.alloc hb1.size u)).1
    have k1 : ∀ u, (w1.alloc u).cell? ⟨w.heap.size, 1, none⟩ = some (.int .i64 t1) := fun u => (HC.out _ (hb1.alloc hb1.size u)).2.1
    have k2 : ∀ u, (w1.alloc u).cell? ⟨w.heap.size, 2, none⟩ = some (.int .i64 d0) := fun u => (HC.out _ (hb1.alloc hb1.size u)).2.2.1
    have k3 : ∀ u, (w1.alloc u).cell? ⟨w.heap.size, 3, none⟩ = some (.int .i64 d1) := fun u => (HC.out _ (hb1.alloc hb1.size u)).2.2.2
    clear h0 hod hon hdn hg hp hbl hb1
    go_wp2_with fail
    refine (HFIT.out _).mono ?_
    rintro e w2 ⟨rfl, hb2⟩
    have hb2' : Below b0.heap.size b0 w2 := (HB1.out.alloc HB1.out.size _).trans (hb2.mono (by have := HB1.out.size; simp; omega))
    have HB2 := hide hb2'
    have HPA2 := hide ((HPA.out _ rfl).below hb2)
    have HW2 : Hid (Below w.heap.size w w2) := hide (HW0.out.trans (hb2'.mono HW0.out.size))
    clear hb2 hb2' k0 k1 k2 k3
    cases fb with
    | false =>
      have HQ : Hid (Q1 10) := hide (by rw [HVQ.out, if_neg (by rw [H0.out]; simp)]; intro L _ _; rw [HVF.out, if_pos rfl])
      go_wp2
      go_ret
      exact ⟨10, rfl, HQ.out, HW2.out⟩
    | true =>
      have HPL := hide (pplayable_any w2 w1.heap.size p.decls (boundN p) _ _ HPA2.out hdl _ sc (HS.out.below HW2.out))
      obtain ⟨pp, hpp⟩ : ∃ pp, pp = playP ((eqsF p.decls).map Dc.place) sc := ⟨_, rfl⟩
      rw [← hpp] at HPL HPLF
      have HPP := hide hpp
      clear hpp
      go_wp2_with fail
      refine HPL.out.mono ?_
      rintro e w3 ⟨rfl, hb3⟩
      have hb3' : Below b0.heap.size b0 w3 := HB2.out.trans (hb3.mono HB2.out.size)
      obtain ⟨c0, c1', c2', c3⟩ := HC.out w3 hb3'
      have HW3 : Hid (Below w.heap.size w w3) := hide (HW0.out.trans (hb3'.mono HW0.out.size))
      clear hb3 hb3'
      cases pp with
      | false =>
        have HQ : Hid (Q1 11) := hide (by
          rw [HVQ.out, if_neg (by rw [H0.out]; simp)]
          intro L hG _
          rw [HVF.out, if_neg (by simp), if_neg (fun e => by have := e.1; rw [HPLF.out L hG] at this; cases this)])
        go_wp2
        go_ret
        exact ⟨11, rfl, HQ.out, HW3.out⟩
      | true =>
        have hpt : playP ((eqsF p.decls).map Dc.place) sc = true := HPP.out.symm
        have htm : ∀ i, i < sc.length → 0 ≤ (actF sc i).a ∧ (actF sc i).a ≤ 1099511627776 := by
          unfold playP at hpt
          rw [Bool.and_eq_true, Bool.and_eq_true] at hpt
          exact ok_time (all_iff.1 hpt.1.2)
        have HKC := hide (HKP.out w3 _ (HS.out.below HW3.out) htm)
        have HV : Hid (∀ L, RGood s L → validF (toks s) L ⟨t0, t1, d0, d1⟩ sc = if kp = true then 0 else 11) := hide (fun L hG => by
          rw [HVF.out, if_neg (by simp)]
          have hpf : playF (toks s) L sc = true := by rw [HPLF.out L hG]
          have hk := HKE.out L ((play_iff _ _ _).1 hpf).2
          by_cases hkt : kp = true
          · rw [if_pos hkt, if_pos ⟨hpf, hk.1 hkt⟩]
          · rw [if_neg hkt, if_neg (fun e => hkt (hk.2 e.2))])
        clear hpt htm
        go_wp2_with fail
        refine HKC.out.mono ?_
        rintro e w4 ⟨rfl, hb4⟩
        have HW4 : Hid (Below w.heap.size w w4) := hide (HW3.out.trans (hb4.mono HW3.out.size))
        clear hb4 c0 c1' c2' c3
        cases kp with
        | false =>
          have HQ : Hid (Q1 11) := hide (by rw [HVQ.out, if_neg (by rw [H0.out]; simp)]; intro L hG _; rw [HV.out L hG]; rfl)
          go_wp2
          go_ret
          exact ⟨11, rfl, HQ.out, HW4.out⟩
        | true =>
          have HQ : Hid (Q1 0) := hide (by rw [HVQ.out, if_neg (by rw [H0.out]; simp)]; intro L hG _; rw [HV.out L hG]; rfl)
          go_wp2
          go_ret
          exact ⟨0, rfl, HQ.out, HW4.out⟩
end Go.Proofs.Ytmndgoapkmhglab
