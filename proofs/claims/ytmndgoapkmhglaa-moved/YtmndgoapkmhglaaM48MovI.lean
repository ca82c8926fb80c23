import Derived.Test.YtmndgoapkmhglaaM29RefV
import Derived.Test.YtmndgoapkmhglaaM41PLnk
import Derived.Test.YtmndgoapkmhglaaM47MovH
/- Moved. -/
namespace Go.Proofs.Ytmndgoapkmhglaa
open Go.RowKit
attribute [local go_sem ↓] Go.wp_at_zero Go.wp_at_succ

theorem str_of {s : ByteArray} {L : List Dl} (hsp : Spell (toks s) L 0) (h0 : (textF s).1 = 0) {ins : List (List Int)} {n B : Nat} {w' : World} {v : Value} (hn : n ≤ 200) (h : StrQ s ins (n : Int) B w' v) : RdRows w' v (eqL L).length n (sol (toks s) L ins) := by
  obtain ⟨L', hG, hR, _⟩ := good_text h0
  obtain ⟨e1, e2⟩ := spell_same (toks_F s) hG.sp hsp
  have := (strq_in hn h).1 h0 L' hG hR
  rw [e1, sol_same e1 e2] at this
  exact this
theorem lk_of {s : ByteArray} {L : List Dl} (hsp : Spell (toks s) L 0) (h0 : (textF s).1 = 0) {B : Nat} {w' : World} {v : Value} (h : LkQ s B w' v) : w'.ownsRow 0 42 3 v (routesR (toks s) L).length (rtCells (routesR (toks s) L)) := by
  obtain ⟨L', hG, _, ho⟩ := good_text h0
  obtain ⟨e1, _⟩ := spell_same (toks_F s) hG.sp hsp
  unfold LkQ at h
  rw [if_pos h0] at h
  have := h L' hG ho
  rw [routes_eqs (toks s) e1] at this
  exact own_weak this (Nat.zero_le _)

theorem read_seven {ts : List Tk} {L : List Dl} (h : (readR ts L).1 = 0 ∨ (readR ts L).1 = 7) : manyR ts L = none ∧ namesR ts L = none ∧ typesR ts L = none ∧ cycR ts L = none := by
  unfold readR at h
  cases h1 : manyR ts L with
  | some a => rw [h1] at h; rcases h with h | h <;> cases h
  | none =>
    cases h2 : namesR ts L with
    | some a => rw [h1, h2] at h; rcases h with h | h <;> cases h
    | none =>
      cases h3 : typesR ts L with
      | some a => rw [h1, h2, h3] at h; rcases h with h | h <;> cases h
      | none =>
        cases h4 : cycR ts L with
        | some a => rw [h1, h2, h3, h4] at h; rcases h with h | h <;> cases h
        | none => exact ⟨rfl, rfl, rfl, rfl⟩

theorem routes_few {ts : List Tk} {L : List Dl} (h : (eqL L).length ≤ 12) : (routesR ts L).length ≤ 6100 := by
  have key : ∀ (l : List Dl) (b : Nat), (routesFrom ts L b l).length ≤ l.length * 4 := by
    intro l
    induction l with
    | nil => intro b; simp [routesFrom]
    | cons x r ih =>
      intro b
      simp only [routesFrom, List.length_append, List.length_cons]
      have := routeTo_len ts L b x 4
      have := ih (b + 1)
      omega
  have := key (eqL L) 0
  unfold routesR
  omega

/-- what is known of a text that is moved. -/
structure MovK (s on one : ByteArray) (r : Nat) (L : List Dl) (ins : List (List Int)) : Prop where
  sp : Spell (toks s) L 0
  sp1 : Spell (toks on) L 0
  sp2 : Spell (toks one) L 0
  t1 : textF on = textF s
  t2 : textF one = (0, 0)
  few : (eqL L).length ≤ 12
  s1 : ∀ j n, sol (toks on) L ins j n = sol (toks s) L ins j n
  s2 : ∀ j n, sol (toks one) L ins j n = sol (toks s) L ins j n
  r2 : routesR (toks one) L = []
  rl : (routesR (toks on) L).length = (routesR (toks s) L).length
  rm : ∀ x ∈ routesR (toks s) L, x.dst < 4 ∧ (⟨x.src, (x.dst + r) % 4, x.late⟩ : Rt) ∈ routesR (toks on) L

theorem movK {s : ByteArray} (h : (textF s).1 = 0 ∨ (textF s).1 = 7) (r : Nat) (ins : List (List Int)) : s.size ≤ 1500 ∧ ∃ L, MovK s (movS s (marksF s) (rotG r)) (movS s (marksF s) (fun _ => 0)) r L ins := by
  have hs := text_small (s := s) (by omega)
  refine ⟨hs, ?_⟩
  rcases text_read s hs with ⟨k, _, ht, _⟩ | ⟨L, hsp, hA, ht, _⟩
  · rw [ht] at h; rcases h with h | h <;> cases h
  · rw [ht] at h
    obtain ⟨m1, m2, m3, m4⟩ := read_seven h
    have H1 := mov_tokens hsp (g := rotG r) (fun p hp => rot_lt r p hp)
    have H2 := mov_tokens hsp (g := fun _ => 0) (fun p hp => by omega)
    have t1 := mov_text H1 hA (by rw [movS_size]; exact hs)
    have t2 := mov_text H2 hA (by rw [movS_size]; exact hs)
    rw [H1.read (rot_inj r) (rot_lt r) (rot_sur r), ← ht] at t1
    have hg := H2.gather
    have t3 : readR (toks (movS s (marksF s) (fun _ => 0))) L = (0, 0) := by
      unfold readR
      rw [H2.many, H2.names, H2.types, H2.cyc, m1, m2, m3, m4, hg.2]
    have hmany := less_none m1
    have few : (eqL L).length ≤ 12 := by
      have := hmany.1
      rw [Option.map_eq_none_iff, List.getElem?_eq_none_iff] at this
      exact this
    exact ⟨L, ⟨hsp, H1.spell, H2.spell, t1, t2.trans t3, few, H1.sol ins, H2.sol ins, hg.1, rot_len H1, fun x hx => ⟨((route_mem _ _ x).1 hx).choose_spec.2.1, rot_links H1 x hx⟩⟩⟩

set_option maxHeartbeats 8000000 in
set_option maxRecDepth 100000 in
theorem moved_law (s : ByteArray) (hs : s.size ≤ maxLen) (w : World) (A : Option Addr) (C : Nat) (ins : List (List Int)) (AS : Nat → Option Addr) (CS : Nat → Nat) (hA : ArgL w A C ins AS CS) (n0 r0 : Int) (hn0 : -9223372036854775808 ≤ n0) (hn0' : n0 ≤ 9223372036854775807) (hr0 : -9223372036854775808 ≤ r0) (hr0' : r0 ≤ 9223372036854775807) :
    Calls Try.prog 8 #[.string s, .slice A ins.length C, .int .i64 n0, .int .i64 r0] w fun e w' => e = .returned (.bool true) ∧ Below w.heap.size w w' := by
  have HCK := hide (fun W => check_all s W hs)
  have HA := hide hA
  by_cases he : (textF s).1 = 0 ∨ (textF s).1 = 7
  case neg =>
    have q1 : (((textF s).1 : Int) != 0) = true := by rw [bne_iff_ne]; omega
    have q2 : (((textF s).1 : Int) != 7) = true := by rw [bne_iff_ne]; omega
    generalize (textF s).1 = er at HCK q1 q2
    generalize (textF s).2 = ea at HCK
    clear he hA hn0 hn0' hr0 hr0' hs
    go_enter Try.func8, Try.ntmps8
    go_wp2_with fail
    refine (answers_any _).mono ?_
    rintro e w1 ⟨rfl, hb1⟩
    have HB1 := hide hb1
    clear hb1
    go_wp2_with fail
    refine (HCK.out w1).mono ?_
    rintro e w2 ⟨rfl, hb2⟩
    have HB2 := hide (HB1.out.trans (hb2.mono HB1.out.size))
    clear hb2
    go_wp2
    go_ret
    exact ⟨rfl, HB2.out⟩
  case pos =>
    have hr4 := pickN_lt r0 (m := 4) (by omega)
    obtain ⟨hsz, L, hK⟩ := movK he (pickN r0 4) ins
    have H1 := hide (fun W => pick_any n0 201 W hn0 hn0' (by omega) (by omega))
    have hlt := pickN_lt n0 (m := 201) (by omega)
    have H2 := hide (fun W => pick_any r0 4 W hr0 hr0' (by omega) (by omega))
    have H3 := hide (fun W => moved_any s W hsz hK.sp (pickN r0 4) hr4 false)
    have H4 := hide (fun W => moved_any s W hsz hK.sp 0 (by omega) true)
    generalize pickN n0 201 = n at H1 hlt
    generalize pickN r0 4 = r at H2 H3 hK hr4
    simp only [Bool.false_eq_true, if_false, if_true] at H3 H4
    have hso : ∀ g, (movS s (marksF s) g).size ≤ maxLen := fun g => by rw [movS_size]; unfold maxLen; omega
    have hon := hso (rotG r)
    have hone := hso (fun _ => 0)
    generalize movS s (marksF s) (rotG r) = on at H3 hK hon
    generalize movS s (marksF s) (fun _ => 0) = one at H4 hK hone
    have HC1 := hide (fun W => check_all on W hon)
    have HC2 := hide (fun W => check_all one W hone)
    rw [hK.t1] at HC1
    rw [hK.t2] at HC2
    have HS2 := hide (fun W v h => streams_any one hone W v ins h (n : Int))
    rw [strR_in (by omega), hK.t2] at HS2
    have HL2 := hide (fun W => plinks_any one hone W)
    rw [hK.t2] at HL2
    have HSE := hide (fun W => seats_any s W (Nat.le_trans hsz (by decide)))
    rw [seats_text hK.sp, List.length_map] at HSE
    have HS0 := hide (fun W v h => streams_any s hs W v ins h (n : Int))
    have HS1 := hide (fun W v h => streams_any on hon W v ins h (n : Int))
    rw [strR_in (by omega)] at HS0
    rw [strR_in (by omega), hK.t1] at HS1
    have HL0 := hide (fun W => plinks_any s hs W)
    have HL1 := hide (fun W => plinks_any on hon W)
    rw [hK.t1] at HL1
    have HK := hide hK
    have hfew := hK.few
    have HQ2 : Hid (∀ B w' v, StrQ one ins (n : Int) B w' v → RdRows w' v (eqL L).length n (sol (toks one) L ins)) := hide (fun B w' v h => str_of HK.out.sp2 (by rw [HK.out.t2]) (by omega) h)
    have HR2 : Hid (∀ B w' v, LkQ one B w' v → w'.ownsRow 0 42 3 v (routesR (toks one) L).length (rtCells (routesR (toks one) L))) := hide (fun B w' v h => lk_of HK.out.sp2 (by rw [HK.out.t2]) h)
    have HQ0 : Hid ((textF s).1 = 0 → ∀ B w' v, StrQ s ins (n : Int) B w' v → RdRows w' v (eqL L).length n (sol (toks s) L ins)) := hide (fun h0 B w' v h => str_of HK.out.sp h0 (by omega) h)
    have HQ1 : Hid ((textF s).1 = 0 → ∀ B w' v, StrQ on ins (n : Int) B w' v → RdRows w' v (eqL L).length n (sol (toks on) L ins)) := hide (fun h0 B w' v h => str_of HK.out.sp1 (by rw [HK.out.t1]; exact h0) (by omega) h)
    have HR0 : Hid ((textF s).1 = 0 → ∀ B w' v, LkQ s B w' v → w'.ownsRow 0 42 3 v (routesR (toks s) L).length (rtCells (routesR (toks s) L))) := hide (fun h0 B w' v h => lk_of HK.out.sp h0 h)
    have HR1 : Hid ((textF s).1 = 0 → ∀ B w' v, LkQ on B w' v → w'.ownsRow 0 42 3 v (routesR (toks on) L).length (rtCells (routesR (toks on) L))) := hide (fun h0 B w' v h => lk_of HK.out.sp1 (by rw [HK.out.t1]; exact h0) h)
    have hcs : ((textF s).1 = 0) ∨ ((((textF s).1 : Int) != 0) = true ∧ (((textF s).1 : Int) != 7) = false) := by
      rcases he with h | h
      · exact .inl h
      · right; rw [h]; exact ⟨rfl, rfl⟩
    generalize (textF s).1 = er at *
    generalize (textF s).2 = ea at *
    clear hA hn0 hn0' hr0 hr0' hs hK he hon hone hso hsz
    have q0 : ((er : Int) != 0) = false ∨ (((er : Int) != 0) = true ∧ ((er : Int) != 7) = false) := by
      rcases hcs with h | h
      · left; rw [h]; rfl
      · exact .inr h
    go_enter Try.func8, Try.ntmps8
    go_wp2_with fail
    refine (answers_any _).mono ?_
    rintro e w1 ⟨rfl, hb1⟩
    have HB1 := hide hb1
    clear hb1
    go_wp2_with fail
    refine (HCK.out w1).mono ?_
    rintro e w2 ⟨rfl, hb2⟩
    have HB2 := hide (HB1.out.trans (hb2.mono HB1.out.size))
    clear hb2 HB1
    have HCS := hide hcs
    clear hcs
    rcases q0 with q1 | ⟨q1, q2⟩
    all_goals
      go_wp2_with fail
      refine (H1.out _).mono ?_
      rintro e w3 ⟨rfl, rfl⟩
      go_wp2_with fail
      refine (H2.out _).mono ?_
      rintro e w3 ⟨rfl, rfl⟩
      go_wp2_with fail
      refine (H3.out _).mono ?_
      rintro e w3 ⟨rfl, hb3⟩
      have HB3 := hide (HB2.out.trans (hb3.mono HB2.out.size))
      clear hb3
      go_wp2_with fail
      refine (H4.out _).mono ?_
      rintro e w4 ⟨rfl, hb4⟩
      have HB4 := hide (HB3.out.trans (hb4.mono HB3.out.size))
      clear hb4
      go_wp2_with fail
      refine (HC1.out _).mono ?_
      rintro e w5 ⟨rfl, hb5⟩
      have HB5 := hide (HB4.out.trans (hb5.mono HB4.out.size))
      clear hb5
      go_wp2_with fail
      refine (HC2.out _).mono ?_
      rintro e w6 ⟨rfl, hb6⟩
      have HB6 := hide (HB5.out.trans (hb6.mono HB5.out.size))
      clear hb6
      go_wp2_with fail
      refine (HS2.out _ _ (HA.out.below HB6.out).ls).mono ?_
      rintro e w7 ⟨vc, rfl, hq7, hb7⟩
      have HB7 := hide (HB6.out.trans (hb7.mono HB6.out.size))
      have HRD2 := hide (HQ2.out _ _ _ hq7)
      clear hb7 hq7
      obtain ⟨a7, c7, g7, AK7, CK7, rfl, _, _⟩ := HRD2.out.ex
      go_wp2_with fail
      refine (HL2.out _).mono ?_
      rintro e w8 ⟨vl, rfl, hq8, hb8⟩
      have HB8 := hide (HB7.out.trans (hb8.mono HB7.out.size))
      have HRD3 := hide (HRD2.out.below hb8)
      have hl8 := HR2.out _ _ _ hq8
      rw [HK.out.r2] at hl8
      obtain ⟨a8, c8, rfl, _⟩ := own_shape hl8
      clear hb8 hq8 hl8 HRD2
      go_wp2_with fail
      refine (HSE.out _).mono ?_
      rintro e w9 ⟨vw, rfl, how, hb9⟩
      obtain ⟨a9, c9, rfl, _⟩ := own_shape how
      have HB9 := hide (HB8.out.trans (hb9.mono HB8.out.size))
      have HRD4 := hide (HRD3.out.below hb9)
      clear hb9 how HRD3
    · have her : er = 0 := by
        rcases HCS.out with h | ⟨h, _⟩
        · exact h
        · rw [q1] at h; cases h
      have HER := hide her
      clear her
      go_wp2_with fail
      refine (HS0.out _ _ (HA.out.below HB9.out).ls).mono ?_
      rintro e w10 ⟨va, rfl, hqa, hba⟩
      have HB10 := hide (HB9.out.trans (hba.mono HB9.out.size))
      have HRA := hide (HQ0.out HER.out _ _ _ hqa)
      have HRD5 := hide (HRD4.out.below hba)
      clear hba hqa HRD4
      obtain ⟨ax, cx, gx, AX, CX, rfl, _, _⟩ := HRA.out.ex
      go_wp2_with fail
      refine (HS1.out _ _ (HA.out.below HB10.out).ls).mono ?_
      rintro e w11 ⟨vb, rfl, hqb, hbb⟩
      have HB11 := hide (HB10.out.trans (hbb.mono HB10.out.size))
      have HRB := hide (HQ1.out HER.out _ _ _ hqb)
      have HRA2 := hide (HRA.out.below hbb)
      have HRD6 := hide (HRD5.out.below hbb)
      clear hbb hqb HRA HRD5
      obtain ⟨ay, cy, gy, AY, CY, rfl, _, _⟩ := HRB.out.ex
      go_wp2_with fail
      refine (HL0.out _).mono ?_
      rintro e w12 ⟨vv, rfl, hqv, hbv⟩
      have HB12 := hide (HB11.out.trans (hbv.mono HB11.out.size))
      have HLV := hide (HR0.out HER.out _ _ _ hqv)
      have HRA3 := hide (HRA2.out.below hbv)
      have HRB3 := hide (HRB.out.below hbv)
      have HRD7 := hide (HRD6.out.below hbv)
      clear hbv hqv HRA2 HRB HRD6
      obtain ⟨av, cv, rfl, _⟩ := own_shape HLV.out
      go_wp2_with fail
      refine (HL1.out _).mono ?_
      rintro e w13 ⟨vu, rfl, hqu, hbu⟩
      have HB13 := hide (HB12.out.trans (hbu.mono HB12.out.size))
      have HLU := hide (HR1.out HER.out _ _ _ hqu)
      have HLV2 := hide (bel_own HLV.out hbu)
      have HRA4 := hide (HRA3.out.below hbu)
      have HRB4 := hide (HRB3.out.below hbu)
      have HRD8 := hide (HRD7.out.below hbu)
      clear hbu hqu HRA3 HRB3 HRD7 HLV
      obtain ⟨au, cu, rfl, _⟩ := own_shape HLU.out
      go_wp2_with fail
      refine (krows_any _ _ _ (eqL L).length n _ _ HRA4.out HRB4.out (fun i _ => by unfold rowF; exact List.map_congr_left (fun k _ => (HK.out.s1 i k).symm)) (by omega)).mono ?_
      rintro e w14 ⟨rfl, hb14⟩
      have HB14 := hide (HB13.out.trans (hb14.mono HB13.out.size))
      have HRA5 := hide (HRA4.out.below hb14)
      have HRD9 := hide (HRD8.out.below hb14)
      have HLV3 := hide (bel_own HLV2.out hb14)
      have HLU3 := hide (bel_own HLU.out hb14)
      clear hb14 HRA4 HRB4 HRD8 HLV2 HLU
      go_wp2_with fail
      refine (krows_any _ _ _ (eqL L).length n _ _ HRA5.out HRD9.out (fun i _ => by unfold rowF; exact List.map_congr_left (fun k _ => (HK.out.s2 i k).symm)) (by omega)).mono ?_
      rintro e w15 ⟨rfl, hb15⟩
      have HB15 := hide (HB14.out.trans (hb15.mono HB14.out.size))
      have HLV4 := hide (bel_own HLV3.out hb15)
      have HLU4 := hide (bel_own HLU3.out hb15)
      clear hb15 HRA5 HRD9 HLV3 HLU3
      go_wp2_with fail
      refine (kturned_any _ _ _ (routesR (toks s) L) (routesR (toks on) L) r hr4 HLV4.out HLU4.out HK.out.rl (routes_few HK.out.few) (fun x hx => (HK.out.rm x hx).1) (fun x hx => (HK.out.rm x hx).2)).mono ?_
      rintro e w16 ⟨rfl, hb16⟩
      have HB16 := hide (HB15.out.trans (hb16.mono HB15.out.size))
      clear hb16
      go_wp2
      go_ret
      exact ⟨rfl, by first | exact HB16.out | exact below_drewN HB16.out _⟩
    · go_wp2
      go_ret
      exact ⟨rfl, by first | exact HB9.out | exact below_drewN HB9.out _⟩

end Go.Proofs.Ytmndgoapkmhglaa
