import Derived.Test.YtghomdecppfonaaM45PfxB
import Derived.Test.YtghomdecppfonaaM53KnC
/- Known. -/
namespace Go.Proofs.Ytghomdecppfonaa
open Go.RowKit
attribute [local go_sem ↓] Go.wp_at_zero Go.wp_at_succ

def kTx (p : Nat) : ByteArray := if p = 0 then kT0 else if p = 1 then kT1 else if p = 2 then kT2 else if p = 3 then kT3 else if p = 4 then kT4 else if p = 5 then kT5 else if p = 6 then kT6 else if p = 7 then kT7 else kT8

/-- what is known of the texts. -/
structure KnP (s : ByteArray) (p m : Nat) (ins : List (List Int)) : Prop where
  ok : textF s = (0, 0)
  two : m = 1 ∨ m = 2
  sz : s.size ≤ 1500
  st : ∀ L, RGood s L → Right (toks s) L → (eqL L).length = m ∧ ∀ k, k ≤ 1000 → sol (toks s) L ins 0 k = (endsF p ins k).1 ∧ (m = 2 → sol (toks s) L ins 1 k = (endsF p ins k).2)

theorem knP (p : Nat) (hp : p < 9) (ins : List (List Int)) (hr : ∀ i k, -9223372036854775808 ≤ elemF ins i k ∧ elemF ins i k ≤ 9223372036854775807) : ∃ m, KnP (kTx p) p m ins := by
  have hcs : p = 0 ∨ p = 1 ∨ p = 2 ∨ p = 3 ∨ p = 4 ∨ p = 5 ∨ p = 6 ∨ p = 7 ∨ p = 8 := by omega
  rcases hcs with rfl | rfl | rfl | rfl | rfl | rfl | rfl | rfl | rfl
  · exact ⟨1, kT0_ok, .inl rfl, by decide, fun L hG hR => by
      obtain ⟨h1, h2⟩ := told kT0_sp kT0_ex hG hR ins
      exact ⟨h1, fun k _ => ⟨k0 h2 k, fun h => by cases h⟩⟩⟩
  · exact ⟨2, kT1_ok, .inr rfl, by decide, fun L hG hR => by
      obtain ⟨h1, h2⟩ := told kT1_sp kT1_ex hG hR ins
      exact ⟨h1, fun k _ => ⟨(k1 h2 hr k).1, fun _ => (k1 h2 hr k).2⟩⟩⟩
  · exact ⟨2, kT2_ok, .inr rfl, by decide, fun L hG hR => by
      obtain ⟨h1, h2⟩ := told kT2_sp kT2_ex hG hR ins
      exact ⟨h1, fun k _ => ⟨(k2 h2 k).1, fun _ => (k2 h2 k).2⟩⟩⟩
  · exact ⟨1, kT3_ok, .inl rfl, by decide, fun L hG hR => by
      obtain ⟨h1, h2⟩ := told kT3_sp kT3_ex hG hR ins
      exact ⟨h1, fun k _ => ⟨k3 h2 k, fun h => by cases h⟩⟩⟩
  · exact ⟨2, kT4_ok, .inr rfl, by decide, fun L hG hR => by
      obtain ⟨h1, h2⟩ := told kT4_sp kT4_ex hG hR ins
      exact ⟨h1, fun k hk => ⟨(k4 h2 k hk).1, fun _ => (k4 h2 k hk).2⟩⟩⟩
  · exact ⟨2, kT5_ok, .inr rfl, by decide, fun L hG hR => by
      obtain ⟨h1, h2⟩ := told kT5_sp kT5_ex hG hR ins
      exact ⟨h1, fun k _ => ⟨(k5 h2 k).1, fun _ => (k5 h2 k).2⟩⟩⟩
  · exact ⟨2, kT6_ok, .inr rfl, by decide, fun L hG hR => by
      obtain ⟨h1, h2⟩ := told kT6_sp kT6_ex hG hR ins
      exact ⟨h1, fun k _ => ⟨(k6 h2 k).1, fun _ => (k6 h2 k).2⟩⟩⟩
  · exact ⟨1, kT7_ok, .inl rfl, by decide, fun L hG hR => by
      obtain ⟨h1, h2⟩ := told kT7_sp kT7_ex hG hR ins
      exact ⟨h1, fun k _ => ⟨k7 h2 k, fun h => by cases h⟩⟩⟩
  · exact ⟨2, kT8_ok, .inr rfl, by decide, fun L hG hR => by
      obtain ⟨h1, h2⟩ := told kT8_sp kT8_ex hG hR ins
      exact ⟨h1, fun k _ => ⟨(k8 h2 k).1, fun _ => (k8 h2 k).2⟩⟩⟩

theorem elem_wf {ins : List (List Int)} (h : ∀ l ∈ ins, ∀ x ∈ l, -9223372036854775808 ≤ x ∧ x ≤ 9223372036854775807) (i k : Nat) : -9223372036854775808 ≤ elemF ins i k ∧ elemF ins i k ≤ 9223372036854775807 := by
  unfold elemF
  rw [List.getD_eq_getElem?_getD, List.getD_eq_getElem?_getD]
  cases h1 : ins[i]? with
  | none => simp only [Option.getD_none, List.getElem?_nil]; exact ⟨by decide, by decide⟩
  | some l =>
    simp only [Option.getD_some]
    cases h2 : l[k]? with
    | none => exact ⟨by decide, by decide⟩
    | some x => exact h l (List.mem_of_getElem? h1) x (List.mem_of_getElem? h2)

set_option maxHeartbeats 2000000 in
set_option maxRecDepth 100000 in
theorem kknown_any (w : World) (c : Int) (hc : -9223372036854775808 ≤ c) (hc' : c ≤ 9223372036854775807) :
    Calls Try.prog 28 #[.int .i64 c] w fun e w' => e = .returned (.string (kTx (pickN c 9))) ∧ Below w.heap.size w w' := by
  have HP := hide (fun W => pick_any c 9 W hc hc' (by omega) (by omega))
  have hlt := pickN_lt c (m := 9) (by omega)
  generalize pickN c 9 = p at HP hlt
  clear hc hc'
  go_enter Try.func28, Try.ntmps28
  go_wp2_with fail
  refine (HP.out _).mono ?_
  rintro e w1 ⟨rfl, rfl⟩
  have hcs : p = 0 ∨ p = 1 ∨ p = 2 ∨ p = 3 ∨ p = 4 ∨ p = 5 ∨ p = 6 ∨ p = 7 ∨ p = 8 := by omega
  clear HP hlt
  rcases hcs with rfl | rfl | rfl | rfl | rfl | rfl | rfl | rfl | rfl
  all_goals
    go_wp2
    go_ret
    exact ⟨rfl, (Below.refl _ _).alloc (Nat.le_refl _) _⟩

set_option maxHeartbeats 8000000 in
set_option maxRecDepth 100000 in
theorem known_any (c : Int) (hc : -9223372036854775808 ≤ c) (hc' : c ≤ 9223372036854775807) (w : World) (A : Option Addr) (C : Nat) (ins : List (List Int)) (AS : Nat → Option Addr) (CS : Nat → Nat) (hA : ArgL w A C ins AS CS) (hwf : ∀ l ∈ ins, ∀ x ∈ l, -9223372036854775808 ≤ x ∧ x ≤ 9223372036854775807) (n0 : Int) (hn0 : -9223372036854775808 ≤ n0) (hn0' : n0 ≤ 9223372036854775807) :
    Calls Try.prog 9 #[.int .i64 c, .slice A ins.length C, .int .i64 n0] w fun e w' => e = .returned (.bool true) ∧ Below w.heap.size w w' := by
  have H1 := hide (pick_any n0 201 w hn0 hn0' (by omega) (by omega))
  have hlt := pickN_lt n0 (m := 201) (by omega)
  generalize pickN n0 201 = n at H1 hlt
  have H2 := hide (kknown_any w c hc hc')
  have hp9 := pickN_lt c (m := 9) (by omega)
  obtain ⟨m, hK⟩ := knP (pickN c 9) hp9 ins (elem_wf hwf)
  have HA := hide hA
  have HEN := hide (fun W (hW : Below w.heap.size w W) k (hk : k ≤ 200) => kends_any W (.slice A ins.length C) ins (hA.below hW).ls c hc hc' k hk)
  generalize pickN c 9 = p at H2 hK HEN
  generalize kTx p = s at H2 hK
  have hsz := hK.sz
  have hs : s.size ≤ maxLen := by unfold maxLen; omega
  have H6 := hide (fun W v h => streams_any s hs W v ins h (n : Int))
  rw [strR_in (by omega), hK.ok] at H6
  obtain ⟨L, hG, hR, _⟩ := good_text (s := s) (by rw [hK.ok])
  obtain ⟨hm, hst⟩ := hK.st L hG hR
  have HQ := hide (fun B w' v h => (strq_in (s := s) (ins := ins) (n := n) (B := B) (w' := w') (v := v) (by omega) h).1 (by rw [hK.ok]) L hG hR)
  rw [hm] at HQ
  have HSE := hide (fun W => seats_any s W hsz)
  rw [seats_text hG.sp, List.length_map, hm] at HSE
  have HST := hide hst
  have h12 := hK.two
  have hm0 : 0 < m := by rcases h12 with h | h <;> rw [h] <;> decide
  clear hs hA hn0 hn0' hc hc' hwf hK hG hR hm hst hp9
  go_enter Try.func9, Try.ntmps9
  go_wp2_with fail
  refine H1.out.mono ?_
  rintro e w1 ⟨rfl, rfl⟩
  go_wp2_with fail
  refine H2.out.mono ?_
  rintro e w1 ⟨rfl, hb1⟩
  have HB1 := hide hb1
  clear hb1 H1 H2
  go_wp2_with fail
  refine (H6.out w1 _ (HA.out.below HB1.out).ls).mono ?_
  rintro e w2 ⟨v, rfl, hq, hb2⟩
  have HB2 := hide (HB1.out.trans (hb2.mono HB1.out.size))
  have hrd := HQ.out _ _ _ hq
  clear hb2 hq H6 HQ HB1
  go_wp2_with fail
  refine (HSE.out w2).mono ?_
  rintro e w3 ⟨vw, rfl, how, hb3⟩
  obtain ⟨aw, cw, rfl, _⟩ := own_shape how
  have HB3 := hide (HB2.out.trans (hb3.mono HB2.out.size))
  have hrd3 := hrd.below hb3
  obtain ⟨a, cap, g, AK, CK, rfl, ha, hcl⟩ := hrd3.ex
  have HCL := hide hcl
  obtain ⟨rfl, hgl⟩ := ha hm0
  clear hb3 how hrd hrd3 HSE HB2 hcl ha
  have z0 : ¬ (m : Int) < 1 := by omega
  go_wp2
  go_loopw [11] (fun vi wr => ∃ k : Nat, k ≤ m ∧ vi = .int .i64 k ∧ Below w3.heap.size w3 wr) (fun vi _ => m - (intOf vi).toNat)
  case atStart => exact ⟨0, Nat.zero_le _, rfl, by first | exact Below.refl _ _ | exact below_drewN (Below.refl _ _) _⟩
  case round =>
    obtain ⟨i, hi, rfl, hbr⟩ := hrel
    have HBR := hide hbr
    by_cases him : i < m
    · have x1 := (hbr.cell (p := ⟨g, i, none⟩) hgl).trans (HCL.out i him).1
      have j3 : (0 : Int) ≤ (i : Int) := by omega
      have j4 : (i : Int) < (m : Int) := by omega
      generalize AK i = ai at x1
      generalize CK i = ci at x1
      clear hbr
      go_wp2
      go_roundw
      case rel => exact ⟨i + 1, by omega, by go_num, by first | exact HBR.out | exact below_drewN HBR.out _⟩
      case measure => simp [intOf]; omega
    · have ei : i = m := by omega
      subst ei
      have z1 : ¬ (i : Int) < (i : Int) := by omega
      clear hbr
      go_wp2
      go_loopw [12] (fun vk wx => ∃ k : Nat, k ≤ n ∧ vk = .int .i64 k ∧ Below w3.heap.size w3 wx) (fun vk _ => n - (intOf vk).toNat)
      case atStart => exact ⟨0, Nat.zero_le _, rfl, by first | exact HBR.out | exact below_drewN HBR.out _⟩
      case round =>
        clear HBR
        obtain ⟨k, hk, rfl, hbr⟩ := hrel
        have HBR := hide hbr
        have HBW := hide (HB3.out.trans (hbr.mono HB3.out.size))
        by_cases hkn : k < n
        · obtain ⟨e1, e2⟩ := HST.out k (by omega)
          have HEN1 := hide (HEN.out wr HBW.out k (by omega))
          have hrow : ∀ j, j < i → ∀ W, Below w3.heap.size w3 W → ∃ b o, AK j = some ⟨b, o, none⟩ ∧ W.cell? ⟨g, j, none⟩ = some (.slice (AK j) n (CK j)) ∧ W.cell? ⟨b, o + k, none⟩ = some (.int .i64 (sol (toks s) L ins j k)) := fun j hj W hW => by
            obtain ⟨c1, c2, _⟩ := HCL.out j hj
            obtain ⟨A', C', he, _, hcc⟩ := c2
            have hl := rowF_len (sol (toks s) L ins) j n
            rw [hl] at he
            simp only [Value.slice.injEq, true_and] at he
            obtain ⟨rfl, rfl⟩ := he
            obtain ⟨b, o, h1, h2, h3⟩ := hcc (by omega)
            refine ⟨b, o, h1, (hW.cell (p := ⟨g, j, none⟩) hgl).trans c1, ?_⟩
            rw [hW.cell (p := ⟨b, o + k, none⟩) h2, h3 k (by omega)]
            simp [rowF]
          have HRW := hide hrow
          have j3 : (0 : Int) ≤ (k : Int) := by omega
          have j4 : (k : Int) < (n : Int) := by omega
          generalize endsF p ins k = en at HEN1 e1 e2
          obtain ⟨en1, en2⟩ := en
          simp only at e1 e2
          have HE1 := hide e1
          have HE2 := hide e2
          clear hrow e1 e2 hbr
          go_wp2_with fail
          refine HEN1.out.mono ?_
          rintro e w5 ⟨rfl, hb5⟩
          have HB5 := hide (HBR.out.trans (hb5.mono HBR.out.size))
          clear hb5 HEN1
          obtain ⟨b0, o0, hb0, x1, x2⟩ := HRW.out 0 (by omega) w5 HB5.out
          rw [HE1.out] at x2
          rw [hb0] at x1
          have q2 : (0 : Int) < (i : Int) := by omega
          generalize CK 0 = c0 at x1
          have H12 := hide h12
          clear hb0 h12
          by_cases hi2 : i = 2
          · obtain ⟨b1, o1, hb1, y1, y2⟩ := HRW.out 1 (by omega) w5 HB5.out
            rw [HE2.out hi2] at y2
            rw [hb1] at y1
            generalize CK 1 = c1 at y1
            have q1 : (1 : Int) < (i : Int) := by omega
            clear hb1 hi2
            go_wp2
            go_roundw
            case rel => exact ⟨k + 1, by omega, by go_num, by first | exact HB5.out | exact below_drewN HB5.out _⟩
            case measure => simp [intOf]; omega
          · have q1 : ¬ (1 : Int) < (i : Int) := by have := H12.out; omega
            clear hi2
            go_wp2
            go_roundw
            case rel => exact ⟨k + 1, by omega, by go_num, by first | exact HB5.out | exact below_drewN HB5.out _⟩
            case measure => simp [intOf]; omega
        · have ek : k = n := by omega
          subst ek
          have z2 : ¬ (k : Int) < (k : Int) := by omega
          go_wp2
          go_ret
          exact ⟨rfl, HBW.out⟩

end Go.Proofs.Ytghomdecppfonaa
