import Derived.Test.Ytmndgoapkmhglabc18ParG
namespace Go.Proofs.Ytmndgoapkmhglab
open Go.RowKit
attribute [local go_sem ↓] Go.wp_at_zero Go.wp_at_succ
attribute [local go_sem] Try.fieldTok0 Try.fieldTok1 Try.fieldTok2
theorem row11_set6 {w : World} {N : Nat} {a0 a1 a2 a3 a4 a5 a6 a7 a8 a9 a10 v : Value} {t : TypeId} (h : w.heap[N]? = some (.cells #[a0, a1, a2, a3, a4, a5, a6, a7, a8, a9, a10] t)) :
    (w.setCell ⟨N, 6, none⟩ v).heap[N]? = some (.cells #[a0, a1, a2, a3, a4, a5, v, a7, a8, a9, a10] t) := by
  rw [heap_setCell_same w N 6 _ _ v h]; simp
set_option maxHeartbeats 3000000 in
set_option maxRecDepth 100000 in
theorem infix_any {ts : List Tk} (ht : TsOk ts) {f : Nat} (hE : ExprC ts f) (w : World) (X : Nat → Prop) (b : Nat) (p : PS) (n : Nd) (h : Par w X b ts p) (hw : p.Wf ts) (hd : p.depth + f = 16) (hdl : p.delays + 1 ≤ p.depth) :
    Calls Try.prog 142 #[.pointer (some ⟨b, 0, none⟩), n.val] w fun e w' => ResD w' X b ts p.delays e (infixF ts (exprF ts f) p n) ∧ Fr X w w' := by
  have HXL := hide h.xlt
  have HE := hide hE
  have HW := hide hw
  have HT := hide ht
  clear hE hw ht
  go_enter Try.func142, Try.ntmps142
  go_wp2_with fail
  refine (HE.out _ (two X w.heap.size) b p (h.two _ _) HW.out hd).mono ?_
  rintro e w3 ⟨hr, hf⟩
  cases hx : exprF ts f p with
  | error k =>
    rw [hx] at hr
    obtain ⟨r, p3, rfl, hp3, hk1, hk2, hk3⟩ := hr
    have HR : Hid (infixF ts (exprF ts f) p n = .error k) := hide (by unfold infixF; rw [hx])
    have HK := hide hk1
    have HK3 := hide hk3
    have HP := hide hp3
    clear hx hp3 HE HW HT hk1 hk3 hdl
    obtain ⟨hb1, hb2⟩ := two_blocks hf
    have HFR := hide (fr_two HXL.out hf)
    have HNX := hide (two_not HXL.out)
    obtain ⟨⟨d0, d1, d2, d3, d4, d5, d6, d7, d8, d9, d10⟩, dF⟩ := row11 hb1
    obtain ⟨⟨r0, r1, r2, r3, r4, r5, r6, r7, r8, r9, r10⟩, rF⟩ := row11 hb2
    clear hb1 hb2
    have hN : two X w.heap.size w.heap.size := .inr (.inl rfl)
    have hN1 : two X w.heap.size (w.heap.size + 1) := .inr (.inr rfl)
    generalize w.heap.size = N at *
    go_wp2
    refine bodyPost_ret (v := .tuple #[(n : Nd).val, .bool false]) (by simp [results, Try.results142, go_sem, *]) rfl ?_
    refine ⟨?_, ?_⟩
    · rw [HR.out]
      exact ⟨_, _, rfl, Par.less (((((((((((HP.out.poke hN1).poke hN1).poke hN1).poke hN1).poke hN1).poke hN1).poke hN1).poke hN1).poke hN1).poke hN1).poke hN1) (fun k hk => .inl hk), HK.out, hk2, HK3.out⟩
    · exact (((((((((((HFR.out.setCell HNX.out.2 _).setCell HNX.out.2 _).setCell HNX.out.2 _).setCell HNX.out.2 _).setCell HNX.out.2 _).setCell HNX.out.2 _).setCell HNX.out.2 _).setCell HNX.out.2 _).setCell HNX.out.2 _).setCell HNX.out.2 _).setCell HNX.out.2 _)
  | ok ap =>
    obtain ⟨a, p1⟩ := ap
    rw [hx] at hr
    obtain ⟨rfl, hp1⟩ := hr
    obtain ⟨hs1, ha1, ha2⟩ := (expr_ok HT.out f p.depth hd p HW.out rfl).1 _ _ hx
    have HW1 := hide (hs1.wf HW.out)
    have HD1 : Hid (p1.depth = p.depth) := hide hs1.depth
    have HL1 : Hid (p1.delays = p.delays) := hide hs1.delays
    have hl1 : p1.nodes.length ≤ 1501 := by have := HW1.out.nodes; have := HW1.out.next; have := HT.out.1; omega
    obtain ⟨nd, hnd⟩ : ∃ nd, nd = p1.nodes.getD a ndZero := ⟨_, rfl⟩
    have HX := hide hx
    have HR1 : Hid (infixF ts (exprF ts f) p n = if isLit nd = true ∧ (p1.hd ts).l = kFby then delayF (exprF ts f) (p1.adv ts) { n with a := a } else infixRest ts (exprF ts f) p1 { n with a := a }) := hide (by unfold infixF; rw [HX.out, hnd])
    obtain ⟨hb1, hb2⟩ := two_blocks hf
    have HFR := hide (fr_two HXL.out hf)
    have HNX := hide (two_not HXL.out)
    obtain ⟨⟨_, _, _, _, _, _, d6, _⟩, dF⟩ := row11 hb1
    have HP1 := hide hp1
    obtain ⟨vt, vd, vn, hv⟩ := hp1
    have c5 := hv.cell.2.2.2.2.2
    obtain ⟨g, cap, rfl, _, glt⟩ := hv.nodes.form (by omega)
    have hcs := ndAt_cells hv.nodes ha2
    have hnd2 : p1.nodes[a]'ha2 = nd := by rw [hnd]; simp [ha2]
    rw [hnd2] at hcs
    have nb1 : b ≠ w.heap.size := by rintro rfl; exact hv.xb (.inr (.inl rfl))
    have nb2 := nb1.symm
    have ng1 : g ≠ w.heap.size := by rintro rfl; exact hv.xn _ rfl (.inr (.inl rfl))
    have ng2 := ng1.symm
    have x0 := hcs 0 (by omega)
    have x1 := hcs 1 (by omega)
    have x2 := hcs 2 (by omega)
    have x3 := hcs 3 (by omega)
    have x4 := hcs 4 (by omega)
    have x5 := hcs 5 (by omega)
    have x6 := hcs 6 (by omega)
    have x7 := hcs 7 (by omega)
    have x8 := hcs 8 (by omega)
    have x9 := hcs 9 (by omega)
    have x10 := hcs 10 (by omega)
    simp [Nd.cells] at x0 x1 x2 x3 x4 x5 x6 x7 x8 x9 x10
    have j1 : (0 : Int) ≤ (a : Int) := by omega
    have j2 : (a : Int) < (p1.nodes.length : Int) := by omega
    have HB1 := hide hb1
    have HB2 := hide hb2
    have HXV := hide hv.xlt
    clear hcs hv hb1 hb2 hx hs1 hnd2 hnd hf HX ha1
    go_wp2_with fail
    refine (isLiteral_any nd _).mono ?_
    rintro e w4 ⟨rfl, hb4⟩
    have hN4 := (hb4.block _ (by simpa using HXV.out _ (.inr (.inl rfl)))).trans (row11_set6 (v := .int .i64 (a : Int)) HB1.out)
    have hR4 := (hb4.block _ (by simpa using HXV.out _ (.inr (.inr rfl)))).trans ((heap_setCell_other w3 ⟨w.heap.size, 6, none⟩ _ (.int .i64 (a : Int)) (by simp)).trans HB2.out)
    have hP4 := (HP1.out.poke (i := 6) (u := .int .i64 (a : Int)) (N := w.heap.size) (.inr (.inl rfl))).below hb4
    have hF4 : Fr X w w4 := (HFR.out.setCell HNX.out.1 _).trans (Fr.of_below hb4 (fun k hk => by simpa using HXV.out k (.inl hk)))
    clear hb4 HB1 HB2 HP1 HFR HXV d6 dF c5 glt nb1 nb2 ng1 ng2 x0 x1 x2 x3 x4 x5 x6 x7 x8 x9 x10 j1 j2 hl1 ha2
    by_cases hlit : isLit nd = true
    · by_cases hfby : (p1.hd ts).l = kFby
      · have HR0 : Hid (infixF ts (exprF ts f) p n = delayF (exprF ts f) (p1.adv ts) { n with a := a }) := hide (by rw [HR1.out, if_pos ⟨hlit, hfby⟩])
        have HFBY := hide hfby
        clear HR1 hfby
        go_wp2_with fail
        refine (take_yes w4 _ b ts p1 kFby hP4 HW1.out.next HT.out.1 HFBY.out).mono ?_
        rintro e w5 ⟨rfl, hp5, hf5⟩
        have hN5 := (hf5.block _ (.inr (.inl rfl))).trans hN4
        have hR5 := (hf5.block _ (.inr (.inr rfl))).trans hR4
        have hF5 := hF4.trans (hf5.mono fun k hk => .inl hk)
        clear hN4 hR4 hF4 hP4 hf5
        have HN5 := hide hN5
        have HR5 := hide hR5
        obtain ⟨⟨d0, d1, d2, d3, d4, d5, d6, d7, d8, d9, d10⟩, dF⟩ := row11 hN5
        clear hN5 hR5
        go_wp2_with fail
        refine (delay_any HT.out HE.out w5 _ b (p1.adv ts) { n with a := a } hp5 (adv_wf HW1.out) (by simp; rw [HD1.out]; exact hd) (by simp; rw [HL1.out, HD1.out]; exact hdl)).mono ?_
        rintro e w6 ⟨hr, hf6⟩
        have hR6 := (hf6.block _ (.inr (.inr rfl))).trans HR5.out
        have HFR := hide (hF5.trans (hf6.mono fun k hk => .inl hk))
        clear hf6 hF5 hp5 HN5 HR5 d0 d1 d2 d3 d4 d5 d6 d7 d8 d9 d10 dF
        cases hy : delayF (exprF ts f) (p1.adv ts) { n with a := a } with
        | error k =>
          rw [hy] at hr
          obtain ⟨m, p3, rfl, hp3, hk1, hk2, hk3⟩ := hr
          have HR : Hid (infixF ts (exprF ts f) p n = .error k) := hide (by rw [HR0.out]; exact hy)
          have HK := hide hk1
          have HK3 : Hid (p3.delays = p.delays) := hide (by rw [hk3, adv_delays]; exact HL1.out)
          have HP := hide hp3
          clear hk1 hk3 hp3 hy HR0 HE HW HT HW1 HD1 HL1 HFBY hlit
          obtain ⟨⟨r0, r1, r2, r3, r4, r5, r6, r7, r8, r9, r10⟩, rF⟩ := row11 hR6
          clear hR6
          have hN : two X w.heap.size w.heap.size := .inr (.inl rfl)
          have hN1 : two X w.heap.size (w.heap.size + 1) := .inr (.inr rfl)
          generalize w.heap.size = N at *
          go_wp2
          refine bodyPost_ret (v := .tuple #[(m : Nd).val, .bool false]) (by simp [results, Try.results142, go_sem, *]) rfl ?_
          refine ⟨?_, ?_⟩
          · rw [HR.out]
            exact ⟨_, _, rfl, Par.less (((((((((((HP.out.poke hN1).poke hN1).poke hN1).poke hN1).poke hN1).poke hN1).poke hN1).poke hN1).poke hN1).poke hN1).poke hN1) (fun k hk => .inl hk), HK.out, hk2, HK3.out⟩
          · exact (((((((((((HFR.out.setCell HNX.out.2 _).setCell HNX.out.2 _).setCell HNX.out.2 _).setCell HNX.out.2 _).setCell HNX.out.2 _).setCell HNX.out.2 _).setCell HNX.out.2 _).setCell HNX.out.2 _).setCell HNX.out.2 _).setCell HNX.out.2 _).setCell HNX.out.2 _)
        | ok mp =>
          obtain ⟨m, p3⟩ := mp
          rw [hy] at hr
          obtain ⟨rfl, hp3⟩ := hr
          have HR : Hid (infixF ts (exprF ts f) p n = .ok (m, p3)) := hide (by rw [HR0.out]; exact hy)
          have HP := hide hp3
          clear hp3 hy HR0 HE HW HT HW1 HD1 HL1 HFBY hlit
          obtain ⟨⟨r0, r1, r2, r3, r4, r5, r6, r7, r8, r9, r10⟩, rF⟩ := row11 hR6
          clear hR6
          have hN : two X w.heap.size w.heap.size := .inr (.inl rfl)
          have hN1 : two X w.heap.size (w.heap.size + 1) := .inr (.inr rfl)
          generalize w.heap.size = N at *
          go_wp2
          refine bodyPost_ret (v := .tuple #[(m : Nd).val, .bool true]) (by simp [results, Try.results142, go_sem, *]) rfl ?_
          refine ⟨?_, ?_⟩
          · rw [HR.out]
            exact ⟨rfl, Par.less (((((((((((HP.out.poke hN1).poke hN1).poke hN1).poke hN1).poke hN1).poke hN1).poke hN1).poke hN1).poke hN1).poke hN1).poke hN1) (fun k hk => .inl hk)⟩
          · exact (((((((((((HFR.out.setCell HNX.out.2 _).setCell HNX.out.2 _).setCell HNX.out.2 _).setCell HNX.out.2 _).setCell HNX.out.2 _).setCell HNX.out.2 _).setCell HNX.out.2 _).setCell HNX.out.2 _).setCell HNX.out.2 _).setCell HNX.out.2 _).setCell HNX.out.2 _)
      · have HR0 : Hid (infixF ts (exprF ts f) p n = infixRest ts (exprF ts f) p1 { n with a := a }) := hide (by rw [HR1.out, if_neg (fun h => hfby h.2)])
        have HFBY := hide hfby
        clear HR1 hfby
        go_wp2_with fail
        refine (take_no w4 _ b ts p1 kFby hP4 HW1.out.next HT.out.1 HFBY.out).mono ?_
        rintro e w5 ⟨rfl, hP5, hf5⟩
        have hN5 := (hf5.block _ (.inr (.inl rfl))).trans hN4
        have hR5 := (hf5.block _ (.inr (.inr rfl))).trans hR4
        have hF5 := hF4.trans (hf5.mono fun k hk => .inl hk)
        clear hN4 hR4 hF4 hP4 hf5 HFBY
        have hX5 := hP5.xlt
        go_wp2_with fail
        refine (here_any _ _ b ts p1 hP5 HW1.out.next HT.out.1).mono ?_
        rintro e w6 ⟨rfl, hb6⟩
        have hN6 := (hb6.block _ (hX5 _ (.inr (.inl rfl)))).trans hN5
        have hR6 := (hb6.block _ (hX5 _ (.inr (.inr rfl)))).trans hR5
        have hP6 := hP5.below hb6
        have hF6 := hF5.trans (Fr.of_below hb6 (fun k hk => hX5 k (.inl hk)))
        clear hN5 hR5 hP5 hF5 hb6 hX5
        have HN6 := hide hN6
        have HR6 := hide hR6
        clear hN6 hR6
        go_wp2_with fail
        refine (operation_any _ _).mono ?_
        rintro e w6' ⟨rfl, rfl⟩
        cases ho : opOf (p1.hd ts).l with
        | none =>
          have HR : Hid (infixF ts (exprF ts f) p n = .error p1.next) := hide (by rw [HR0.out]; unfold infixRest; rw [ho])
          have hN6 := HN6.out
          have hR6 := HR6.out
          rw [show (p1.hd ts).text.data.toList = (p1.hd ts).l from rfl, ho]
          simp only [opVal]
          have HP := hide hP6
          have HFR := hide hF6
          clear hP6 hF6 ho HN6 HR6
          obtain ⟨⟨d0, d1, d2, d3, d4, d5, d6, d7, d8, d9, d10⟩, dF⟩ := row11 hN6
          obtain ⟨⟨r0, r1, r2, r3, r4, r5, r6, r7, r8, r9, r10⟩, rF⟩ := row11 hR6
          clear hN6 hR6
          have hN : two X w.heap.size w.heap.size := .inr (.inl rfl)
          have hN1 : two X w.heap.size (w.heap.size + 1) := .inr (.inr rfl)
          generalize w.heap.size = N at *
          go_wp2
          refine bodyPost_ret (v := .tuple #[({ n with a := a } : Nd).val, .bool false]) (by simp [results, Try.results142, go_sem, *]) rfl ?_
          refine ⟨?_, ?_⟩
          · rw [HR.out]
            exact ⟨_, _, rfl, Par.less (((((((((((HP.out.poke hN1).poke hN1).poke hN1).poke hN1).poke hN1).poke hN1).poke hN1).poke hN1).poke hN1).poke hN1).poke hN1) (fun k hk => .inl hk), rfl, HW1.out.next, HL1.out⟩
          · exact (((((((((((HFR.out.setCell HNX.out.2 _).setCell HNX.out.2 _).setCell HNX.out.2 _).setCell HNX.out.2 _).setCell HNX.out.2 _).setCell HNX.out.2 _).setCell HNX.out.2 _).setCell HNX.out.2 _).setCell HNX.out.2 _).setCell HNX.out.2 _).setCell HNX.out.2 _)
        | some op =>
          rw [show (p1.hd ts).text.data.toList = (p1.hd ts).l from rfl, ho]
          simp only [opVal]
          have HO := hide ho
          have HF6 := hide hF6
          clear ho hF6
          go_wp2_with fail
          refine (step_any _ _ b ts p1 hP6 HW1.out.next HT.out.1).mono ?_
          rintro e w7 ⟨rfl, hp7, hf7⟩
          go_wp2_with fail
          refine (HE.out w7 _ b (p1.adv ts) hp7 (adv_wf HW1.out) (by simp; rw [HD1.out]; exact hd)).mono ?_
          rintro e w8 ⟨hr, hf8⟩
          have hf := hf7.trans hf8
          have hN8 := (hf.block _ (.inr (.inl rfl))).trans HN6.out
          have hR8 := (hf.block _ (.inr (.inr rfl))).trans HR6.out
          have HFR := hide (HF6.out.trans (hf.mono fun k hk => .inl hk))
          clear hf hf7 hf8 hp7 hP6 HF6 HN6 HR6
          cases hy : exprF ts f (p1.adv ts) with
          | error k =>
            rw [hy] at hr
            obtain ⟨r, p3, rfl, hp3, hk1, hk2, hk3⟩ := hr
            have HR : Hid (infixF ts (exprF ts f) p n = .error k) := hide (by rw [HR0.out]; unfold infixRest; rw [HO.out]; simp only; rw [hy])
            have HK := hide hk1
            have HK3 : Hid (p3.delays = p.delays) := hide (by rw [hk3, adv_delays]; exact HL1.out)
            have HP := hide hp3
            clear hk1 hk3 hp3 hy HO HR0
            obtain ⟨⟨d0, d1, d2, d3, d4, d5, d6, d7, d8, d9, d10⟩, dF⟩ := row11 hN8
            obtain ⟨⟨r0, r1, r2, r3, r4, r5, r6, r7, r8, r9, r10⟩, rF⟩ := row11 hR8
            clear hN8 hR8
            have hN : two X w.heap.size w.heap.size := .inr (.inl rfl)
            have hN1 : two X w.heap.size (w.heap.size + 1) := .inr (.inr rfl)
            generalize w.heap.size = N at *
            go_wp2
            refine bodyPost_ret (v := .tuple #[({ n with a := a, kind := 6, op := op, b := r } : Nd).val, .bool false]) (by simp [results, Try.results142, go_sem, *]) rfl ?_
            refine ⟨?_, ?_⟩
            · rw [HR.out]
              exact ⟨_, _, rfl, Par.less ((((((((((((((HP.out.poke hN).poke hN).poke hN).poke hN1).poke hN1).poke hN1).poke hN1).poke hN1).poke hN1).poke hN1).poke hN1).poke hN1).poke hN1).poke hN1) (fun k hk => .inl hk), HK.out, hk2, HK3.out⟩
            · exact ((((((((((((((HFR.out.setCell HNX.out.1 _).setCell HNX.out.1 _).setCell HNX.out.1 _).setCell HNX.out.2 _).setCell HNX.out.2 _).setCell HNX.out.2 _).setCell HNX.out.2 _).setCell HNX.out.2 _).setCell HNX.out.2 _).setCell HNX.out.2 _).setCell HNX.out.2 _).setCell HNX.out.2 _).setCell HNX.out.2 _).setCell HNX.out.2 _)
          | ok ap =>
            obtain ⟨r, p3⟩ := ap
            rw [hy] at hr
            obtain ⟨rfl, hp3⟩ := hr
            have HR : Hid (infixF ts (exprF ts f) p n = .ok ({ n with a := a, kind := 6, op := op, b := r }, p3)) := hide (by rw [HR0.out]; unfold infixRest; rw [HO.out]; simp only; rw [hy])
            have HP := hide hp3
            clear hp3 hy HO HR0
            obtain ⟨⟨d0, d1, d2, d3, d4, d5, d6, d7, d8, d9, d10⟩, dF⟩ := row11 hN8
            obtain ⟨⟨r0, r1, r2, r3, r4, r5, r6, r7, r8, r9, r10⟩, rF⟩ := row11 hR8
            clear hN8 hR8
            have hN : two X w.heap.size w.heap.size := .inr (.inl rfl)
            have hN1 : two X w.heap.size (w.heap.size + 1) := .inr (.inr rfl)
            generalize w.heap.size = N at *
            go_wp2
            refine bodyPost_ret (v := .tuple #[({ n with a := a, kind := 6, op := op, b := r } : Nd).val, .bool true]) (by simp [results, Try.results142, go_sem, *]) rfl ?_
            refine ⟨?_, ?_⟩
            · rw [HR.out]
              exact ⟨rfl, Par.less ((((((((((((((HP.out.poke hN).poke hN).poke hN).poke hN1).poke hN1).poke hN1).poke hN1).poke hN1).poke hN1).poke hN1).poke hN1).poke hN1).poke hN1).poke hN1) (fun k hk => .inl hk)⟩
            · exact ((((((((((((((HFR.out.setCell HNX.out.1 _).setCell HNX.out.1 _).setCell HNX.out.1 _).setCell HNX.out.2 _).setCell HNX.out.2 _).setCell HNX.out.2 _).setCell HNX.out.2 _).setCell HNX.out.2 _).setCell HNX.out.2 _).setCell HNX.out.2 _).setCell HNX.out.2 _).setCell HNX.out.2 _).setCell HNX.out.2 _).setCell HNX.out.2 _)
    · have HR0 : Hid (infixF ts (exprF ts f) p n = infixRest ts (exprF ts f) p1 { n with a := a }) := hide (by rw [HR1.out, if_neg (fun h => hlit h.1)])
      have hlit' : isLit nd = false := by simpa using hlit
      obtain ⟨w5, hw5⟩ : ∃ w5, w5 = w4 := ⟨_, rfl⟩
      rw [← hw5] at hN4 hR4 hP4 hF4
      rw [← hw5]
      have hN5 := hN4
      have hR5 := hR4
      have hP5 := hP4
      have hF5 := hF4
      clear hN4 hR4 hP4 hF4 hw5 hlit HR1
      have hX5 := hP5.xlt
      go_wp2_with fail
      refine (here_any _ _ b ts p1 hP5 HW1.out.next HT.out.1).mono ?_
      rintro e w6 ⟨rfl, hb6⟩
      have hN6 := (hb6.block _ (hX5 _ (.inr (.inl rfl)))).trans hN5
      have hR6 := (hb6.block _ (hX5 _ (.inr (.inr rfl)))).trans hR5
      have hP6 := hP5.below hb6
      have hF6 := hF5.trans (Fr.of_below hb6 (fun k hk => hX5 k (.inl hk)))
      clear hN5 hR5 hP5 hF5 hb6 hX5
      have HN6 := hide hN6
      have HR6 := hide hR6
      clear hN6 hR6
      go_wp2_with fail
      refine (operation_any _ _).mono ?_
      rintro e w6' ⟨rfl, rfl⟩
      cases ho : opOf (p1.hd ts).l with
      | none =>
        have HR : Hid (infixF ts (exprF ts f) p n = .error p1.next) := hide (by rw [HR0.out]; unfold infixRest; rw [ho])
        have hN6 := HN6.out
        have hR6 := HR6.out
        rw [show (p1.hd ts).text.data.toList = (p1.hd ts).l from rfl, ho]
        simp only [opVal]
        have HP := hide hP6
        have HFR := hide hF6
        clear hP6 hF6 ho HN6 HR6
        obtain ⟨⟨d0, d1, d2, d3, d4, d5, d6, d7, d8, d9, d10⟩, dF⟩ := row11 hN6
        obtain ⟨⟨r0, r1, r2, r3, r4, r5, r6, r7, r8, r9, r10⟩, rF⟩ := row11 hR6
        clear hN6 hR6
        have hN : two X w.heap.size w.heap.size := .inr (.inl rfl)
        have hN1 : two X w.heap.size (w.heap.size + 1) := .inr (.inr rfl)
        generalize w.heap.size = N at *
        go_wp2
        refine bodyPost_ret (v := .tuple #[({ n with a := a } : Nd).val, .bool false]) (by simp [results, Try.results142, go_sem, *]) rfl ?_
        refine ⟨?_, ?_⟩
        · rw [HR.out]
          exact ⟨_, _, rfl, Par.less (((((((((((HP.out.poke hN1).poke hN1).poke hN1).poke hN1).poke hN1).poke hN1).poke hN1).poke hN1).poke hN1).poke hN1).poke hN1) (fun k hk => .inl hk), rfl, HW1.out.next, HL1.out⟩
        · exact (((((((((((HFR.out.setCell HNX.out.2 _).setCell HNX.out.2 _).setCell HNX.out.2 _).setCell HNX.out.2 _).setCell HNX.out.2 _).setCell HNX.out.2 _).setCell HNX.out.2 _).setCell HNX.out.2 _).setCell HNX.out.2 _).setCell HNX.out.2 _).setCell HNX.out.2 _)
      | some op =>
        rw [show (p1.hd ts).text.data.toList = (p1.hd ts).l from rfl, ho]
        simp only [opVal]
        have HO := hide ho
        have HF6 := hide hF6
        clear ho hF6
        go_wp2_with fail
        refine (step_any _ _ b ts p1 hP6 HW1.out.next HT.out.1).mono ?_
        rintro e w7 ⟨rfl, hp7, hf7⟩
        go_wp2_with fail
        refine (HE.out w7 _ b (p1.adv ts) hp7 (adv_wf HW1.out) (by simp; rw [HD1.out]; exact hd)).mono ?_
        rintro e w8 ⟨hr, hf8⟩
        have hf := hf7.trans hf8
        have hN8 := (hf.block _ (.inr (.inl rfl))).trans HN6.out
        have hR8 := (hf.block _ (.inr (.inr rfl))).trans HR6.out
        have HFR := hide (HF6.out.trans (hf.mono fun k hk => .inl hk))
        clear hf hf7 hf8 hp7 hP6 HF6 HN6 HR6
        cases hy : exprF ts f (p1.adv ts) with
        | error k =>
          rw [hy] at hr
          obtain ⟨r, p3, rfl, hp3, hk1, hk2, hk3⟩ := hr
          have HR : Hid (infixF ts (exprF ts f) p n = .error k) := hide (by rw [HR0.out]; unfold infixRest; rw [HO.out]; simp only; rw [hy])
          have HK := hide hk1
          have HK3 : Hid (p3.delays = p.delays) := hide (by rw [hk3, adv_delays]; exact HL1.out)
          have HP := hide hp3
          clear hk1 hk3 hp3 hy HO HR0
          obtain ⟨⟨d0, d1, d2, d3, d4, d5, d6, d7, d8, d9, d10⟩, dF⟩ := row11 hN8
          obtain ⟨⟨r0, r1, r2, r3, r4, r5, r6, r7, r8, r9, r10⟩, rF⟩ := row11 hR8
          clear hN8 hR8
          have hN : two X w.heap.size w.heap.size := .inr (.inl rfl)
          have hN1 : two X w.heap.size (w.heap.size + 1) := .inr (.inr rfl)
          generalize w.heap.size = N at *
          go_wp2
          refine bodyPost_ret (v := .tuple #[({ n with a := a, kind := 6, op := op, b := r } : Nd).val, .bool false]) (by simp [results, Try.results142, go_sem, *]) rfl ?_
          refine ⟨?_, ?_⟩
          · rw [HR.out]
            exact ⟨_, _, rfl, Par.less ((((((((((((((HP.out.poke hN).poke hN).poke hN).poke hN1).poke hN1).poke hN1).poke hN1).poke hN1).poke hN1).poke hN1).poke hN1).poke hN1).poke hN1).poke hN1) (fun k hk => .inl hk), HK.out, hk2, HK3.out⟩
          · exact ((((((((((((((HFR.out.setCell HNX.out.1 _).setCell HNX.out.1 _).setCell HNX.out.1 _).setCell HNX.out.2 _).setCell HNX.out.2 _).setCell HNX.out.2 _).setCell HNX.out.2 _).setCell HNX.out.2 _).setCell HNX.out.2 _).setCell HNX.out.2 _).setCell HNX.out.2 _).setCell HNX.out.2 _).setCell HNX.out.2 _).setCell HNX.out.2 _)
        | ok ap =>
          obtain ⟨r, p3⟩ := ap
          rw [hy] at hr
          obtain ⟨rfl, hp3⟩ := hr
          have HR : Hid (infixF ts (exprF ts f) p n = .ok ({ n with a := a, kind := 6, op := op, b := r }, p3)) := hide (by rw [HR0.out]; unfold infixRest; rw [HO.out]; simp only; rw [hy])
          have HP := hide hp3
          clear hp3 hy HO HR0
          obtain ⟨⟨d0, d1, d2, d3, d4, d5, d6, d7, d8, d9, d10⟩, dF⟩ := row11 hN8
          obtain ⟨⟨r0, r1, r2, r3, r4, r5, r6, r7, r8, r9, r10⟩, rF⟩ := row11 hR8
          clear hN8 hR8
          have hN : two X w.heap.size w.heap.size := .inr (.inl rfl)
          have hN1 : two X w.heap.size (w.heap.size + 1) := .inr (.inr rfl)
          generalize w.heap.size = N at *
          go_wp2
          refine bodyPost_ret (v := .tuple #[({ n with a := a, kind := 6, op := op, b := r } : Nd).val, .bool true]) (by simp [results, Try.results142, go_sem, *]) rfl ?_
          refine ⟨?_, ?_⟩
          · rw [HR.out]
            exact ⟨rfl, Par.less ((((((((((((((HP.out.poke hN).poke hN).poke hN).poke hN1).poke hN1).poke hN1).poke hN1).poke hN1).poke hN1).poke hN1).poke hN1).poke hN1).poke hN1).poke hN1) (fun k hk => .inl hk)⟩
          · exact ((((((((((((((HFR.out.setCell HNX.out.1 _).setCell HNX.out.1 _).setCell HNX.out.1 _).setCell HNX.out.2 _).setCell HNX.out.2 _).setCell HNX.out.2 _).setCell HNX.out.2 _).setCell HNX.out.2 _).setCell HNX.out.2 _).setCell HNX.out.2 _).setCell HNX.out.2 _).setCell HNX.out.2 _).setCell HNX.out.2 _).setCell HNX.out.2 _)
end Go.Proofs.Ytmndgoapkmhglab
