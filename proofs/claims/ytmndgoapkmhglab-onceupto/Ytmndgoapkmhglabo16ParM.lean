import Derived.Test.Ytmndgoapkmhglabo15ParL
namespace Go.Proofs.Ytmndgoapkmhglab
open Go.RowKit
attribute [local go_sem ↓] Go.wp_at_zero Go.wp_at_succ
attribute [local go_sem] Try.fieldTok0 Try.fieldTok1 Try.fieldTok2
theorem place_ok {ts : List Tk} (ht : TsOk ts) {p p' : PS} {r : Nat} (h : p.Wf ts) (he : placeF ts p = .ok (r, p')) : Step ts p p' ∧ p' = p.adv ts ∧ r < 4 := by
  unfold placeF at he
  split at he
  · rename_i hh
    cases he
    exact ⟨adv_step ht h (.inl (by rw [hh.1]; decide)), rfl, hh.2⟩
  · cases he
set_option maxHeartbeats 2000000 in
set_option maxRecDepth 100000 in
theorem equation_any {ts : List Tk} (ht : TsOk ts) (hdg : TsDig ts) (w : World) (X : Nat → Prop) (b kind : Nat) (p : PS) (h : Par w X b ts p) (hw : p.Wf ts) (hd0 : p.depth = 0) :
    Calls Try.prog 109 #[.pointer (some ⟨b, 0, none⟩), .int .i64 (kind : Int)] w fun e w' =>
      Res w' X b ts p.delays e (fun _ => .bool true) (fun e => e = .returned (.bool false)) (equationF ts kind p) ∧ Fr X w w' := by
  have hw1 := adv_wf hw
  have hw2 := adv_wf hw1
  have HD0 := hide hd0
  clear hd0
  by_cases hk : ((p.adv ts).hd ts).kind = 1
  · have HR0 : Hid (∀ R, (match PS.take ts ((p.adv ts).adv ts) kAt with
        | .error e => .error e
        | .ok p1 => match placeF ts p1 with
          | .error e => .error e
          | .ok (pl, p2) => match PS.take ts p2 [61] with
            | .error e => .error e
            | .ok p3 => match exprF ts 16 p3 with
              | .error e => .error e
              | .ok (r, p4) => PS.take ts (p4.declare ⟨kind, 0, ((p.adv ts).hd ts).text, ((p.adv ts).hd ts).pos, pl, r, p4.nodes.length⟩) [59]) = R → equationF ts kind p = R) := hide (by intro R hR; unfold equationF; rw [if_pos hk]; exact hR)
    have q1 : ((((p.adv ts).hd ts).kind : Int) != 1) = false := by rw [hk]; rfl
    clear hk
    go_enter Try.func109, Try.ntmps109
    go_wp2_with fail
    refine (step_any _ X b ts p h hw.next ht.1).mono ?_
    rintro e w1 ⟨rfl, hp1, hf1⟩
    go_wp2_with fail
    refine (here_any _ _ b ts (p.adv ts) hp1 hw1.next ht.1).mono ?_
    rintro e w2 ⟨rfl, hb2⟩
    have hP2 := hp1.below hb2
    have hF2 : Fr X w w2 := hf1.trans (hp1.fr hb2)
    clear hb2 hf1 hp1
    go_wp2_with fail
    refine (step_any _ (one X w2.heap.size) b ts (p.adv ts) (hP2.one _) hw1.next ht.1).mono ?_
    rintro e w3 ⟨rfl, hp3, hf3⟩
    have hN3 := (hf3.block _ (.inr rfl)).trans (heap_alloc_new w2 _)
    have hF3 : Fr X w w3 := hF2.trans ((Fr.of_below ((Below.refl _ _).alloc (Nat.le_refl _) _) hP2.xlt).trans (hf3.mono fun k hk => .inl hk))
    clear hf3 hF2 hP2
    have HN3 := hide hN3
    clear hN3
    go_wp2_with fail
    refine (take_any _ _ b ts _ kAt hp3 hw2.next ht.1).mono ?_
    rintro e w4 ⟨hr, hf4⟩
    have HF := hide (hF3.trans (hf4.mono fun k hk => .inl hk))
    have HN4 := hide ((hf4.block _ (.inr rfl)).trans HN3.out)
    clear hF3 hf4 hp3 HN3
    cases hy : PS.take ts ((p.adv ts).adv ts) kAt with
    | error k =>
      rw [hy] at hr
      obtain ⟨rfl, p', hp', hk1, hk2, hk3⟩ := hr
      have HR : Hid (equationF ts kind p = .error k) := hide (HR0.out _ (by rw [hy]))
      clear hy
      have HP := hide hp'
      have HK1 := hide hk1
      have HK3 := hide hk3
      clear hp' hk1 hk3
      go_wp2_with fail
      go_ret
      refine ⟨?_, HF.out⟩
      rw [HR.out]
      exact ⟨rfl, p', Par.less HP.out (fun k hk => .inl hk), HK1.out, hk2, by rw [HK3.out]; simp⟩
    | ok p3 =>
      rw [hy] at hr
      obtain ⟨rfl, hp4⟩ := hr
      have hs3 := (take_ok ht hw2 (by decide) hy).2
      have hw3 := hs3.wf hw2
      have hdl3 : p3.delays = p.delays := by rw [hs3.delays]; simp
      have hde3 : p3.depth = p.depth := by rw [hs3.depth]; simp
      have HY3 := hide hy
      have HDL3 := hide hdl3
      have HDE3 := hide hde3
      clear hy hs3 hdl3 hde3
      go_wp2_with fail
      refine (place_any _ _ b ts p3 hp4 hw3.next ht.1 hdg).mono ?_
      rintro e w5 ⟨hr, hf5⟩
      have HF := hide (HF.out.trans (hf5.mono fun k hk => .inl hk))
      have HN5 := hide ((hf5.block _ (.inr rfl)).trans HN4.out)
      clear hf5 hp4 HN4
      cases hy : placeF ts p3 with
      | error k =>
        rw [hy] at hr
        obtain ⟨v, p', rfl, hp', hk1, hk2, hk3⟩ := hr
        have HR : Hid (equationF ts kind p = .error k) := hide (HR0.out _ (by rw [HY3.out]; simp only; rw [hy]))
        clear hy
        have HP := hide hp'
        have HK1 := hide hk1
        have HK3 := hide hk3
        clear hp' hk1 hk3
        go_wp2_with fail
        go_ret
        refine ⟨?_, HF.out⟩
        rw [HR.out]
        exact ⟨rfl, p', Par.less HP.out (fun k hk => .inl hk), HK1.out, hk2, by rw [HK3.out]; exact HDL3.out⟩
      | ok pp =>
        obtain ⟨pl, p4⟩ := pp
        rw [hy] at hr
        obtain ⟨rfl, hp5⟩ := hr
        have hs4 := (place_ok ht hw3 hy).1
        have hw4 := hs4.wf hw3
        have HDL4 : Hid (p4.delays = p.delays) := hide (by rw [hs4.delays]; exact HDL3.out)
        have HDE4 : Hid (p4.depth = p.depth) := hide (by rw [hs4.depth]; exact HDE3.out)
        have HY4 := hide hy
        clear hy hs4
        go_wp2_with fail
        refine (take_any _ _ b ts p4 [61] hp5 hw4.next ht.1).mono ?_
        rintro e w6 ⟨hr, hf6⟩
        have HF := hide (HF.out.trans (hf6.mono fun k hk => .inl hk))
        have HN6 := hide ((hf6.block _ (.inr rfl)).trans HN5.out)
        clear hf6 hp5 HN5
        cases hy : PS.take ts p4 [61] with
        | error k =>
          rw [hy] at hr
          obtain ⟨rfl, p', hp', hk1, hk2, hk3⟩ := hr
          have HR : Hid (equationF ts kind p = .error k) := hide (HR0.out _ (by rw [HY3.out]; simp only; rw [HY4.out]; simp only; rw [hy]))
          clear hy
          have HP := hide hp'
          have HK1 := hide hk1
          have HK3 := hide hk3
          clear hp' hk1 hk3
          go_wp2_with fail
          go_ret
          refine ⟨?_, HF.out⟩
          rw [HR.out]
          exact ⟨rfl, p', Par.less HP.out (fun k hk => .inl hk), HK1.out, hk2, by rw [HK3.out]; exact HDL4.out⟩
        | ok p5 =>
          rw [hy] at hr
          obtain ⟨rfl, hp6⟩ := hr
          have hs5 := (take_ok ht hw4 (by decide) hy).2
          have hw5 := hs5.wf hw4
          have HDL5 : Hid (p5.delays = p.delays) := hide (by rw [hs5.delays]; exact HDL4.out)
          have HDE5 : Hid (p5.depth = 0) := hide (by rw [hs5.depth, HDE4.out]; exact HD0.out)
          have HY5 := hide hy
          clear hy hs5
          go_wp2_with fail
          refine (expr_any ht hdg 16 _ _ b p5 hp6 hw5 (by rw [HDE5.out])).mono ?_
          rintro e w7 ⟨hr, hf7⟩
          have HF := hide (HF.out.trans (hf7.mono fun k hk => .inl hk))
          have HN7 := hide ((hf7.block _ (.inr rfl)).trans HN6.out)
          clear hf7 hp6 HN6
          cases hy : exprF ts 16 p5 with
          | error k =>
            rw [hy] at hr
            obtain ⟨v, p', rfl, hp', hk1, hk2, hk3⟩ := hr
            have HR : Hid (equationF ts kind p = .error k) := hide (HR0.out _ (by rw [HY3.out]; simp only; rw [HY4.out]; simp only; rw [HY5.out]; simp only; rw [hy]))
            clear hy
            have HP := hide hp'
            have HK1 := hide hk1
            have HK3 := hide hk3
            clear hp' hk1 hk3
            go_wp2_with fail
            go_ret
            refine ⟨?_, HF.out⟩
            rw [HR.out]
            exact ⟨rfl, p', Par.less HP.out (fun k hk => .inl hk), HK1.out, hk2, by rw [HK3.out]; exact HDL5.out⟩
          | ok rp =>
            obtain ⟨r, p6⟩ := rp
            rw [hy] at hr
            obtain ⟨rfl, hp7⟩ := hr
            have hs6 := ((expr_ok ht 16 0 (by omega) p5 hw5 HDE5.out).1 _ _ hy).1
            have hw6 := hs6.wf hw5
            have HDL6 : Hid (p6.delays = p.delays) := hide (by rw [hs6.delays]; exact HDL5.out)
            have HY6 := hide hy
            have hdl : p6.decls.length ≤ 1501 := by have := hw6.decls; have := hw6.next; have := ht.1; omega
            have c5 : ∃ vn, w7.cell? ⟨b, 5, none⟩ = some vn ∧ ∃ a cap, vn = .slice a p6.nodes.length cap := by
              obtain ⟨_, _, vn, hv⟩ := hp7
              obtain ⟨a, cap, ha, _⟩ := own_shape hv.nodes
              exact ⟨vn, hv.cell.2.2.2.2.2, a, cap, ha⟩
            obtain ⟨vn, c5, av, cap, rfl⟩ := c5
            obtain ⟨d0, d1, d2⟩ := row3 HN7.out
            clear hy hs6
            go_wp2_with fail
            refine (declare_any _ _ b ts p6 ⟨kind, 0, ((p.adv ts).hd ts).text, ((p.adv ts).hd ts).pos, pl, r, p6.nodes.length⟩ hp7 hdl rfl).mono ?_
            rintro e w8 ⟨rfl, hp8, hf8⟩
            have HF := hide (HF.out.trans (hf8.mono fun k hk => .inl hk))
            clear hf8 d0 d1 d2 hp7 c5 HN7
            go_wp2_with fail
            refine (take_any _ _ b ts _ [59] hp8 hw6.next ht.1).mono ?_
            rintro e w9 ⟨hr, hf9⟩
            have HF := hide (HF.out.trans (hf9.mono fun k hk => .inl hk))
            clear hf9
            cases hy : PS.take ts (p6.declare ⟨kind, 0, ((p.adv ts).hd ts).text, ((p.adv ts).hd ts).pos, pl, r, p6.nodes.length⟩) [59] with
            | error k =>
              rw [hy] at hr
              obtain ⟨rfl, p', hp', hk1, hk2, hk3⟩ := hr
              have HR : Hid (equationF ts kind p = .error k) := hide (HR0.out _ (by rw [HY3.out]; simp only; rw [HY4.out]; simp only; rw [HY5.out]; simp only; rw [HY6.out]; simp only; rw [hy]))
              clear hy
              have HP := hide hp'
              have HK1 := hide hk1
              have HK3 := hide hk3
              clear hp' hk1 hk3
              go_wp2_with fail
              go_ret
              refine ⟨?_, HF.out⟩
              rw [HR.out]
              exact ⟨rfl, p', Par.less HP.out (fun k hk => .inl hk), HK1.out, hk2, by rw [HK3.out]; simp only [PS.declare]; exact HDL6.out⟩
            | ok p' =>
              rw [hy] at hr
              obtain ⟨rfl, hp'⟩ := hr
              have HR : Hid (equationF ts kind p = .ok p') := hide (HR0.out _ (by rw [HY3.out]; simp only; rw [HY4.out]; simp only; rw [HY5.out]; simp only; rw [HY6.out]; simp only; rw [hy]))
              have HP := hide hp'
              clear hy hp'
              go_wp2_with fail
              go_ret
              refine ⟨?_, HF.out⟩
              rw [HR.out]
              exact ⟨rfl, Par.less HP.out (fun k hk => .inl hk)⟩
  · have HR : Hid (equationF ts kind p = .error (p.adv ts).next) := hide (by unfold equationF; rw [if_neg hk])
    have q1 : ((((p.adv ts).hd ts).kind : Int) != 1) = true := by rw [bne_iff_ne]; omega
    clear hk
    go_enter Try.func109, Try.ntmps109
    go_wp2_with fail
    refine (step_any _ X b ts p h hw.next ht.1).mono ?_
    rintro e w1 ⟨rfl, hp1, hf1⟩
    go_wp2_with fail
    refine (here_any _ _ b ts (p.adv ts) hp1 hw1.next ht.1).mono ?_
    rintro e w2 ⟨rfl, hb2⟩
    have hP2 := hp1.below hb2
    have hF2 : Fr X w w2 := hf1.trans (hp1.fr hb2)
    clear hb2 hf1 hp1
    go_wp2_with fail
    go_ret
    refine ⟨?_, hF2.trans (Fr.of_below ((Below.refl _ _).alloc (Nat.le_refl _) _) hP2.xlt)⟩
    rw [HR.out]
    exact ⟨rfl, p.adv ts, hP2.below ((Below.refl _ _).alloc (Nat.le_refl _) _), rfl, hw1.next, by simp⟩
set_option maxHeartbeats 1000000 in
set_option maxRecDepth 100000 in
theorem declaration_any {ts : List Tk} (ht : TsOk ts) (hdg : TsDig ts) (w : World) (X : Nat → Prop) (b : Nat) (p : PS) (h : Par w X b ts p) (hw : p.Wf ts) (hd0 : p.depth = 0) :
    Calls Try.prog 80 #[.pointer (some ⟨b, 0, none⟩)] w fun e w' =>
      Res w' X b ts p.delays e (fun _ => .bool true) (fun e => e = .returned (.bool false)) (declarationF ts p) ∧ Fr X w w' := by
  have HX := hide h.xlt
  have join : ∀ (R : Except Nat PS) (w1 w2 : World) (e : Ending), Hid (declarationF ts p = R) → Fr X w w1 → Res w2 X b ts p.delays e (fun _ => .bool true) (fun e => e = .returned (.bool false)) R ∧ Fr X w1 w2 →
      ∃ bb, e = .returned (.bool bb) ∧ (Res w2 X b ts p.delays e (fun _ => .bool true) (fun e => e = .returned (.bool false)) (declarationF ts p) ∧ Fr X w w2) := by
    intro R w1 w2 e hR hf hr
    rw [hR.out]
    obtain ⟨h1, h2⟩ := hr
    cases R with
    | ok p' => exact ⟨true, h1.1, h1, hf.trans h2⟩
    | error k => exact ⟨false, h1.1, h1, hf.trans h2⟩
  by_cases h1 : (p.hd ts).l = kIn
  · have HR : Hid (declarationF ts p = inputF ts p) := hide (by unfold declarationF; rw [if_pos h1])
    have q1 := str_yes h1
    simp only [kIn] at q1
    have HJ := hide (join (inputF ts p))
    clear h1 join
    go_enter Try.func80, Try.ntmps80
    go_wp2_with fail
    refine (here_any _ _ b ts p h hw.next ht.1).mono ?_
    rintro e w1 ⟨rfl, hb1⟩
    go_wp2_with fail
    refine (input_any ht w1 X b p (h.below hb1) hw).mono ?_
    intro e w2 hr
    obtain ⟨bb, rfl, hfin⟩ := HJ.out w1 w2 e HR (h.fr hb1) hr
    have HFIN := hide hfin
    clear hfin hr hb1
    go_wp2_with fail
    go_ret
    exact HFIN.out
  have q1 := str_no h1
  simp only [kIn] at q1
  by_cases h2 : (p.hd ts).l = kInt
  · have HR : Hid (declarationF ts p = equationF ts 1 p) := hide (by unfold declarationF; rw [if_neg h1, if_pos h2])
    have q2 := str_yes h2
    simp only [kInt] at q2
    have HJ := hide (join (equationF ts 1 p))
    clear h1 h2 q1 join
    go_enter Try.func80, Try.ntmps80
    go_wp2_with fail
    refine (here_any _ _ b ts p h hw.next ht.1).mono ?_
    rintro e w1 ⟨rfl, hb1⟩
    go_wp2_with fail
    refine (equation_any ht hdg w1 X b 1 p (h.below hb1) hw hd0).mono ?_
    intro e w2 hr
    obtain ⟨bb, rfl, hfin⟩ := HJ.out w1 w2 e HR (h.fr hb1) hr
    have HFIN := hide hfin
    clear hfin hr hb1
    go_wp2_with fail
    go_ret
    exact HFIN.out
  have q2 := str_no h2
  simp only [kInt] at q2
  by_cases h3 : (p.hd ts).l = kBool
  · have HR : Hid (declarationF ts p = equationF ts 2 p) := hide (by unfold declarationF; rw [if_neg h1, if_neg h2, if_pos h3])
    have q3 := str_yes h3
    simp only [kBool] at q3
    have HJ := hide (join (equationF ts 2 p))
    clear h1 h2 h3 q1 q2 join
    go_enter Try.func80, Try.ntmps80
    go_wp2_with fail
    refine (here_any _ _ b ts p h hw.next ht.1).mono ?_
    rintro e w1 ⟨rfl, hb1⟩
    go_wp2_with fail
    refine (equation_any ht hdg w1 X b 2 p (h.below hb1) hw hd0).mono ?_
    intro e w2 hr
    obtain ⟨bb, rfl, hfin⟩ := HJ.out w1 w2 e HR (h.fr hb1) hr
    have HFIN := hide hfin
    clear hfin hr hb1
    go_wp2_with fail
    go_ret
    exact HFIN.out
  · have HR : Hid (declarationF ts p = .error p.next) := hide (by unfold declarationF; rw [if_neg h1, if_neg h2, if_neg h3])
    have q3 := str_no h3
    simp only [kBool] at q3
    clear h1 h2 h3 join
    go_enter Try.func80, Try.ntmps80
    go_wp2_with fail
    refine (here_any _ _ b ts p h hw.next ht.1).mono ?_
    rintro e w1 ⟨rfl, hb1⟩
    go_wp2_with fail
    go_ret
    refine ⟨?_, h.fr hb1⟩
    rw [HR.out]
    exact ⟨rfl, p, h.below hb1, rfl, hw.next, rfl⟩
end Go.Proofs.Ytmndgoapkmhglab
