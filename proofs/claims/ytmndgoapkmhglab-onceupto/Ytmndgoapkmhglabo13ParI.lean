import Derived.Test.Ytmndgoapkmhglabo12ParH
namespace Go.Proofs.Ytmndgoapkmhglab
open Go.RowKit
attribute [local go_sem ↓] Go.wp_at_zero Go.wp_at_succ
attribute [local go_sem] Try.fieldTok0 Try.fieldTok1 Try.fieldTok2
theorem two_after {w w' : World} {o1 o2 : Obj} {X : Nat → Prop} (hX : ∀ k, X k → k < w.heap.size) (hb : Below ((w.alloc o1).alloc o2).heap.size ((w.alloc o1).alloc o2) w') :
    w'.heap[w.heap.size]? = some o1 ∧ w'.heap[w.heap.size + 1]? = some o2 ∧ Fr X w w' := by
  have hf : Fr (two X w.heap.size) ((w.alloc o1).alloc o2) w' := Fr.of_below hb (fun k hk => by
    rcases hk with h | h | h
    · have := hX k h; simp; omega
    · simp; omega
    · simp; omega)
  obtain ⟨h1, h2⟩ := two_blocks hf
  exact ⟨h1, h2, fr_two hX hf⟩
set_option maxHeartbeats 2000000 in
set_option maxRecDepth 100000 in
theorem inside_any {ts : List Tk} (ht : TsOk ts) {f : Nat} (hE : ExprC ts f) (w : World) (X : Nat → Prop) (b : Nat) (p : PS) (n : Nd) (h : Par w X b ts p) (hw : p.Wf ts) (hd : p.depth + f = 16) (hdl : p.delays + 1 ≤ p.depth) :
    Calls Try.prog 139 #[.pointer (some ⟨b, 0, none⟩), n.val] w fun e w' => ResD w' X b ts p.delays e (insideF ts (exprF ts f) p n) ∧ Fr X w w' := by
  have HXL := hide h.xlt
  have HE := hide hE
  have HW := hide hw
  have HT := hide ht
  clear hE hw ht
  by_cases hk1 : (p.hd ts).l = kNot
  · have HR0 : Hid (insideF ts (exprF ts f) p n = notF ts (exprF ts f) p n) := hide (by unfold insideF; rw [if_pos hk1])
    have q1 := str_yes hk1
    simp only [kNot] at q1
    clear hk1
    go_enter Try.func139, Try.ntmps139
    go_wp2_with fail
    refine (here_any _ _ b ts p (h.two _ _) HW.out.next HT.out.1).mono ?_
    rintro e w3 ⟨rfl, hb3⟩
    obtain ⟨hN3, hR3, hF3⟩ := two_after HXL.out hb3
    have hP3 := (h.two _ _).below hb3
    clear hb3 h
    have hN3' := hN3
    obtain ⟨⟨d0, d1, d2, d3, d4, d5, d6, d7, d8, d9, d10⟩, dF⟩ := row11 hN3
    clear hN3 hN3'
    have HR3 := hide hR3
    clear hR3
    go_wp2_with fail
    refine (not_any HT.out.1 HE.out w3 _ b p n hP3 HW.out hd).mono ?_
    rintro e w4 ⟨hr, hf4⟩
    have hR4 := (hf4.block _ (.inr (.inr rfl))).trans HR3.out
    have HFR := hide (hF3.trans (hf4.mono fun k hk => .inl hk))
    have HNX := hide (two_not HXL.out)
    clear hf4 hF3 hP3 HR3 d0 d1 d2 d3 d4 d5 d6 d7 d8 d9 d10 dF
    cases hy : notF ts (exprF ts f) p n with
    | error k =>
      rw [hy] at hr
      obtain ⟨m, p3, rfl, hp3, hk1, hk2, hk3⟩ := hr
      have HR : Hid (insideF ts (exprF ts f) p n = .error k) := hide (by rw [HR0.out]; exact hy)
      have HK := hide hk1
      have HK3 := hide hk3
      have HP := hide hp3
      clear hk1 hk3 hp3 hy HR0 HE HW HT
      obtain ⟨⟨r0, r1, r2, r3, r4, r5, r6, r7, r8, r9, r10⟩, rF⟩ := row11 hR4
      clear hR4
      have hN : two X w.heap.size w.heap.size := .inr (.inl rfl)
      have hN1 : two X w.heap.size (w.heap.size + 1) := .inr (.inr rfl)
      generalize w.heap.size = N at *
      go_wp2
      refine bodyPost_ret (v := .tuple #[m.val, .bool false]) (by simp [results, Try.results139, go_sem, *]) rfl ?_
      refine ⟨?_, ?_⟩
      · rw [HR.out]
        exact ⟨_, _, rfl, Par.less (((((((((((HP.out.poke hN1).poke hN1).poke hN1).poke hN1).poke hN1).poke hN1).poke hN1).poke hN1).poke hN1).poke hN1).poke hN1) (fun k hk => .inl hk), HK.out, hk2, HK3.out⟩
      · exact (((((((((((HFR.out.setCell HNX.out.2 _).setCell HNX.out.2 _).setCell HNX.out.2 _).setCell HNX.out.2 _).setCell HNX.out.2 _).setCell HNX.out.2 _).setCell HNX.out.2 _).setCell HNX.out.2 _).setCell HNX.out.2 _).setCell HNX.out.2 _).setCell HNX.out.2 _)
    | ok mp =>
      obtain ⟨m, p3⟩ := mp
      rw [hy] at hr
      obtain ⟨rfl, hp3⟩ := hr
      have HR : Hid (insideF ts (exprF ts f) p n = .ok (m, p3)) := hide (by rw [HR0.out]; exact hy)
      have HP := hide hp3
      clear hp3 hy HR0 HE HW HT
      obtain ⟨⟨r0, r1, r2, r3, r4, r5, r6, r7, r8, r9, r10⟩, rF⟩ := row11 hR4
      clear hR4
      have hN : two X w.heap.size w.heap.size := .inr (.inl rfl)
      have hN1 : two X w.heap.size (w.heap.size + 1) := .inr (.inr rfl)
      generalize w.heap.size = N at *
      go_wp2
      refine bodyPost_ret (v := .tuple #[m.val, .bool true]) (by simp [results, Try.results139, go_sem, *]) rfl ?_
      refine ⟨?_, ?_⟩
      · rw [HR.out]
        exact ⟨rfl, Par.less (((((((((((HP.out.poke hN1).poke hN1).poke hN1).poke hN1).poke hN1).poke hN1).poke hN1).poke hN1).poke hN1).poke hN1).poke hN1) (fun k hk => .inl hk)⟩
      · exact (((((((((((HFR.out.setCell HNX.out.2 _).setCell HNX.out.2 _).setCell HNX.out.2 _).setCell HNX.out.2 _).setCell HNX.out.2 _).setCell HNX.out.2 _).setCell HNX.out.2 _).setCell HNX.out.2 _).setCell HNX.out.2 _).setCell HNX.out.2 _).setCell HNX.out.2 _)
  by_cases hk2 : (p.hd ts).l = kIf
  · have HR0 : Hid (insideF ts (exprF ts f) p n = choiceF ts (exprF ts f) p n) := hide (by unfold insideF; rw [if_neg hk1, if_pos hk2])
    have q1 := str_yes hk2
    simp only [kIf] at q1
    clear hk1 hk2
    go_enter Try.func139, Try.ntmps139
    go_wp2_with fail
    refine (here_any _ _ b ts p (h.two _ _) HW.out.next HT.out.1).mono ?_
    rintro e w3 ⟨rfl, hb3⟩
    obtain ⟨hN3, hR3, hF3⟩ := two_after HXL.out hb3
    have hP3 := (h.two _ _).below hb3
    clear hb3 h
    have hN3' := hN3
    obtain ⟨⟨d0, d1, d2, d3, d4, d5, d6, d7, d8, d9, d10⟩, dF⟩ := row11 hN3
    clear hN3 hN3'
    have HR3 := hide hR3
    clear hR3
    go_wp2_with fail
    refine (choice_any HT.out HE.out w3 _ b p n hP3 HW.out hd).mono ?_
    rintro e w4 ⟨hr, hf4⟩
    have hR4 := (hf4.block _ (.inr (.inr rfl))).trans HR3.out
    have HFR := hide (hF3.trans (hf4.mono fun k hk => .inl hk))
    have HNX := hide (two_not HXL.out)
    clear hf4 hF3 hP3 HR3 d0 d1 d2 d3 d4 d5 d6 d7 d8 d9 d10 dF
    cases hy : choiceF ts (exprF ts f) p n with
    | error k =>
      rw [hy] at hr
      obtain ⟨m, p3, rfl, hp3, hk1, hk2, hk3⟩ := hr
      have HR : Hid (insideF ts (exprF ts f) p n = .error k) := hide (by rw [HR0.out]; exact hy)
      have HK := hide hk1
      have HK3 := hide hk3
      have HP := hide hp3
      clear hk1 hk3 hp3 hy HR0 HE HW HT
      obtain ⟨⟨r0, r1, r2, r3, r4, r5, r6, r7, r8, r9, r10⟩, rF⟩ := row11 hR4
      clear hR4
      have hN : two X w.heap.size w.heap.size := .inr (.inl rfl)
      have hN1 : two X w.heap.size (w.heap.size + 1) := .inr (.inr rfl)
      generalize w.heap.size = N at *
      go_wp2
      refine bodyPost_ret (v := .tuple #[m.val, .bool false]) (by simp [results, Try.results139, go_sem, *]) rfl ?_
      refine ⟨?_, ?_⟩
      · rw [HR.out]
        exact ⟨_, _, rfl, Par.less (((((((((((HP.out.poke hN1).poke hN1).poke hN1).poke hN1).poke hN1).poke hN1).poke hN1).poke hN1).poke hN1).poke hN1).poke hN1) (fun k hk => .inl hk), HK.out, hk2, HK3.out⟩
      · exact (((((((((((HFR.out.setCell HNX.out.2 _).setCell HNX.out.2 _).setCell HNX.out.2 _).setCell HNX.out.2 _).setCell HNX.out.2 _).setCell HNX.out.2 _).setCell HNX.out.2 _).setCell HNX.out.2 _).setCell HNX.out.2 _).setCell HNX.out.2 _).setCell HNX.out.2 _)
    | ok mp =>
      obtain ⟨m, p3⟩ := mp
      rw [hy] at hr
      obtain ⟨rfl, hp3⟩ := hr
      have HR : Hid (insideF ts (exprF ts f) p n = .ok (m, p3)) := hide (by rw [HR0.out]; exact hy)
      have HP := hide hp3
      clear hp3 hy HR0 HE HW HT
      obtain ⟨⟨r0, r1, r2, r3, r4, r5, r6, r7, r8, r9, r10⟩, rF⟩ := row11 hR4
      clear hR4
      have hN : two X w.heap.size w.heap.size := .inr (.inl rfl)
      have hN1 : two X w.heap.size (w.heap.size + 1) := .inr (.inr rfl)
      generalize w.heap.size = N at *
      go_wp2
      refine bodyPost_ret (v := .tuple #[m.val, .bool true]) (by simp [results, Try.results139, go_sem, *]) rfl ?_
      refine ⟨?_, ?_⟩
      · rw [HR.out]
        exact ⟨rfl, Par.less (((((((((((HP.out.poke hN1).poke hN1).poke hN1).poke hN1).poke hN1).poke hN1).poke hN1).poke hN1).poke hN1).poke hN1).poke hN1) (fun k hk => .inl hk)⟩
      · exact (((((((((((HFR.out.setCell HNX.out.2 _).setCell HNX.out.2 _).setCell HNX.out.2 _).setCell HNX.out.2 _).setCell HNX.out.2 _).setCell HNX.out.2 _).setCell HNX.out.2 _).setCell HNX.out.2 _).setCell HNX.out.2 _).setCell HNX.out.2 _).setCell HNX.out.2 _)
  · have HR0 : Hid (insideF ts (exprF ts f) p n = infixF ts (exprF ts f) p n) := hide (by unfold insideF; rw [if_neg hk1, if_neg hk2])
    have q1 := str_no hk1
    have q2 := str_no hk2
    simp only [kNot] at q1
    simp only [kIf] at q2
    clear hk1 hk2
    go_enter Try.func139, Try.ntmps139
    go_wp2_with fail
    refine (here_any _ _ b ts p (h.two _ _) HW.out.next HT.out.1).mono ?_
    rintro e w3 ⟨rfl, hb3⟩
    obtain ⟨hN3, hR3, hF3⟩ := two_after HXL.out hb3
    have hP3 := (h.two _ _).below hb3
    clear hb3 h
    have hN3' := hN3
    obtain ⟨⟨d0, d1, d2, d3, d4, d5, d6, d7, d8, d9, d10⟩, dF⟩ := row11 hN3
    clear hN3 hN3'
    have HR3 := hide hR3
    clear hR3
    go_wp2_with fail
    refine (infix_any HT.out HE.out w3 _ b p n hP3 HW.out hd hdl).mono ?_
    rintro e w4 ⟨hr, hf4⟩
    have hR4 := (hf4.block _ (.inr (.inr rfl))).trans HR3.out
    have HFR := hide (hF3.trans (hf4.mono fun k hk => .inl hk))
    have HNX := hide (two_not HXL.out)
    clear hf4 hF3 hP3 HR3 d0 d1 d2 d3 d4 d5 d6 d7 d8 d9 d10 dF
    cases hy : infixF ts (exprF ts f) p n with
    | error k =>
      rw [hy] at hr
      obtain ⟨m, p3, rfl, hp3, hk1, hk2, hk3⟩ := hr
      have HR : Hid (insideF ts (exprF ts f) p n = .error k) := hide (by rw [HR0.out]; exact hy)
      have HK := hide hk1
      have HK3 := hide hk3
      have HP := hide hp3
      clear hk1 hk3 hp3 hy HR0 HE HW HT
      obtain ⟨⟨r0, r1, r2, r3, r4, r5, r6, r7, r8, r9, r10⟩, rF⟩ := row11 hR4
      clear hR4
      have hN : two X w.heap.size w.heap.size := .inr (.inl rfl)
      have hN1 : two X w.heap.size (w.heap.size + 1) := .inr (.inr rfl)
      generalize w.heap.size = N at *
      go_wp2
      refine bodyPost_ret (v := .tuple #[m.val, .bool false]) (by simp [results, Try.results139, go_sem, *]) rfl ?_
      refine ⟨?_, ?_⟩
      · rw [HR.out]
        exact ⟨_, _, rfl, Par.less (((((((((((HP.out.poke hN1).poke hN1).poke hN1).poke hN1).poke hN1).poke hN1).poke hN1).poke hN1).poke hN1).poke hN1).poke hN1) (fun k hk => .inl hk), HK.out, hk2, HK3.out⟩
      · exact (((((((((((HFR.out.setCell HNX.out.2 _).setCell HNX.out.2 _).setCell HNX.out.2 _).setCell HNX.out.2 _).setCell HNX.out.2 _).setCell HNX.out.2 _).setCell HNX.out.2 _).setCell HNX.out.2 _).setCell HNX.out.2 _).setCell HNX.out.2 _).setCell HNX.out.2 _)
    | ok mp =>
      obtain ⟨m, p3⟩ := mp
      rw [hy] at hr
      obtain ⟨rfl, hp3⟩ := hr
      have HR : Hid (insideF ts (exprF ts f) p n = .ok (m, p3)) := hide (by rw [HR0.out]; exact hy)
      have HP := hide hp3
      clear hp3 hy HR0 HE HW HT
      obtain ⟨⟨r0, r1, r2, r3, r4, r5, r6, r7, r8, r9, r10⟩, rF⟩ := row11 hR4
      clear hR4
      have hN : two X w.heap.size w.heap.size := .inr (.inl rfl)
      have hN1 : two X w.heap.size (w.heap.size + 1) := .inr (.inr rfl)
      generalize w.heap.size = N at *
      go_wp2
      refine bodyPost_ret (v := .tuple #[m.val, .bool true]) (by simp [results, Try.results139, go_sem, *]) rfl ?_
      refine ⟨?_, ?_⟩
      · rw [HR.out]
        exact ⟨rfl, Par.less (((((((((((HP.out.poke hN1).poke hN1).poke hN1).poke hN1).poke hN1).poke hN1).poke hN1).poke hN1).poke hN1).poke hN1).poke hN1) (fun k hk => .inl hk)⟩
      · exact (((((((((((HFR.out.setCell HNX.out.2 _).setCell HNX.out.2 _).setCell HNX.out.2 _).setCell HNX.out.2 _).setCell HNX.out.2 _).setCell HNX.out.2 _).setCell HNX.out.2 _).setCell HNX.out.2 _).setCell HNX.out.2 _).setCell HNX.out.2 _).setCell HNX.out.2 _)
end Go.Proofs.Ytmndgoapkmhglab
