import Derived.BigRegion
import Derived.Test.Ytmndgoapkmhglabc19ParH
namespace Go.Proofs.Ytmndgoapkmhglab
open Go.RowKit
attribute [local go_sem ↓] Go.wp_at_zero Go.wp_at_succ
attribute [local go_sem] Try.fieldTok0 Try.fieldTok1 Try.fieldTok2
theorem two_after {w w' : World} {o1 o2 : Obj} {X : Nat → Prop} (hX : ∀ k, X k → k < w.heap.size) (hb : Below ((w.alloc o1).alloc o2).heap.size ((w.alloc o1).alloc o2) w') :
    w'.heap[w.heap.size]? = some o1 ∧ w'.heap[w.heap.size + 1]? = some o2 ∧ Fr X w w' := by
  have hf : Fr (two X w.heap.size) ((w.alloc o1).alloc o2) w' := Fr.of_below hb (fun k hk => by
    rcases hk with h | h | h
    · have := hX k h; simp; omega
    · simp; omega
    · simp; omega)
  obtain ⟨h1, h2⟩ := two_blocks hf
  exact ⟨h1, h2, fr_two hX hf⟩
set_option maxHeartbeats 2000000 in
set_option maxRecDepth 100000 in
theorem inside_any {ts : List Tk} (ht : TsOk ts) {f : Nat} (hE : ExprC ts f) (w : World) (X : Nat → Prop) (b : Nat) (p : PS) (n : Nd) (h : Par w X b ts p) (hw : p.Wf ts) (hd : p.depth + f = 16) (hdl : p.delays + 1 ≤ p.depth) :
    Calls Try.prog 139 #[.pointer (some ⟨b, 0, none⟩), n.val] w fun e w' => ResD w' X b ts p.delays e (insideF ts (exprF ts f) p n) ∧ Fr X w w' := by
  have HXL := hide h.xlt
  have HE := hide hE
  have HW := hide hw
  have HT := hide ht
  clear hE hw ht
  by_cases hk1 : (p.hd ts).l = kNot
  · have HR0 : Hid (insideF ts (exprF ts f) p n = notF ts (exprF ts f) p n) := hide (by unfold insideF; rw [if_pos hk1])
    have q1 := str_yes hk1
    simp only [kNot] at q1
    clear hk1
    go_enter Try.func139, Try.ntmps139
    go_wp2_with fail
    refine (here_any _ _ b ts p (h.two _ _) HW.out.next HT.out.1).mono ?_
    rintro e w3 ⟨rfl, hb3⟩
    obtain ⟨hN3, hR3, hF3⟩ := two_after HXL.out hb3
    have hP3 := (h.two _ _).below hb3
    clear hb3 h
    have hN3' := hN3
    obtain ⟨⟨d0, d1, d2, d3, d4, d5, d6, d7, d8, d9, d10⟩, dF⟩ := row11 hN3
    clear hN3 hN3'
    have HR3 := hide hR3
    clear hR3
    go_wp2_with fail
    refine (not_any HT.out.1 HE.out w3 _ b p n hP3 HW.out hd).mono ?_
    rintro e w4 ⟨hr, hf4⟩
    have hR4 := (hf4.block _ (.inr (.inr rfl))).trans HR3.out
    have HFR := hide (hF3.trans (hf4.mono fun k hk => .inl hk))
    have HNX := hide (two_not HXL.out)
    clear hf4 hF3 hP3 HR3 d0 d1 d2 d3 d4 d5 d6 d7 d8 d9 d10 dF
    cases hy : notF ts (exprF ts f) p n with
    | error k =>
      rw [hy] at hr
      obtain ⟨m, p3, rfl, hp3, hk1, hk2, hk3⟩ := hr
      have HR : Hid (insideF ts (exprF ts f) p n = .error k) := hide (by rw [HR0.out]; exact hy)
      have HK := hide hk1
      have HK3 := hide hk3
      have HP := hide hp3
      clear hk1 hk3 hp3 hy HR0 HE HW HT
      obtain ⟨⟨r0, r1, r2, r3, r4, r5, r6, r7, r8, r9, r10⟩, rF⟩ := row11 hR4
      clear hR4
      have hN : two X w.heap.size w.heap.size := .inr (.inl rfl)
      have hN1 : two X w.heap.size (w.heap.size + 1) := .inr (.inr rfl)
      generalize w.heap.size = N at *
      go_wp2
      refine bodyPost_ret (v := .tuple #[m.val, .bool false]) (by simp [results, Try.results139, go_sem, *]) rfl ?_
      refine ⟨?_, ?_⟩
      · rw [HR.out]
        exact ⟨_, _, rfl, Par.less (((((((((((HP.out.poke hN1).poke hN1).poke hN1).poke hN1).poke hN1).poke hN1).poke hN1).poke hN1).poke hN1).poke hN1).poke hN1) (fun k hk => .inl hk), HK.out, hk2, HK3.out⟩
      · exact (((((((((((HFR.out.setCell HNX.out.2 _).setCell HNX.out.2 _).setCell HNX.out.2 _).setCell HNX.out.2 _).setCell HNX.out.2 _).setCell HNX.out.2 _).setCell HNX.out.2 _).setCell HNX.out.2 _).setCell HNX.out.2 _).setCell HNX.out.2 _).setCell HNX.out.2 _)
    | ok mp =>
      obtain ⟨m, p3⟩ := mp
      rw [hy] at hr
      obtain ⟨rfl, hp3⟩ := hr
      have HR : Hid (insideF ts (exprF ts f) p n = .ok (m, p3)) := hide (by rw [HR0.out]; exact hy)
      have HP := hide hp3
      clear hp3 hy HR0 HE HW HT
      obtain ⟨⟨r0, r1, r2, r3, r4, r5, r6, r7, r8, r9, r10⟩, rF⟩ := row11 hR4
      clear hR4
      have hN : two X w.heap.size w.heap.size := .inr (.inl rfl)
      have hN1 : two X w.heap.size (w.heap.size + 1) := .inr (.inr rfl)
      generalize w.heap.size = N at *
      go_wp2
      refine bodyPost_ret (v := .tuple #[m.val, .bool true]) (by simp [results, Try.results139, go_sem, *]) rfl ?_
      refine ⟨?_, ?_⟩
      · rw [HR.out]
        exact ⟨rfl, Par.less (((((((((((HP.out.poke hN1).poke hN1).poke hN1).poke hN1).poke hN1).poke hN1).poke hN1).poke hN1).poke hN1).poke hN1).poke hN1) (fun k hk => .inl hk)⟩
      · exact (((((((((((HFR.out.setCell HNX.out.2 _).setCell HNX.out.2 _).setCell HNX.out.2 _).setCell HNX.out.2 _).setCell HNX.out.2 _).setCell HNX.out.2 _).setCell HNX.out.2 _).setCell HNX.out.2 _).setCell HNX.out.2 _).setCell HNX.out.2 _).setCell HNX.out.2 _)
  by_cases hk2 : (p.hd ts).l = kIf
  · have HR0 : Hid (insideF ts (exprF ts f) p n = choiceF ts (exprF ts f) p n) := hide (by unfold insideF; rw [if_neg hk1, if_pos hk2])
    have q1 := str_yes hk2
    simp only [kIf] at q1
    clear hk1 hk2
    go_enter Try.func139, Try.ntmps139
    go_wp2_with fail
    refine (here_any _ _ b ts p (h.two _ _) HW.out.next HT.out.1).mono ?_
    rintro e w3 ⟨rfl, hb3⟩
    obtain ⟨hN3, hR3, hF3⟩ := two_after HXL.out hb3
    have hP3 := (h.two _ _).below hb3
    clear hb3 h
    have hN3' := hN3
    obtain ⟨⟨d0, d1, d2, d3, d4, d5, d6, d7, d8, d9, d10⟩, dF⟩ := row11 hN3
    clear hN3 hN3'
    have HR3 := hide hR3
    clear hR3
    go_wp2_with fail
    refine (choice_any HT.out HE.out w3 _ b p n hP3 HW.out hd).mono ?_
    rintro e w4 ⟨hr, hf4⟩
    have hR4 := (hf4.block _ (.inr (.inr rfl))).trans HR3.out
    have HFR := hide (hF3.trans (hf4.mono fun k hk => .inl hk))
    have HNX := hide (two_not HXL.out)
    clear hf4 hF3 hP3 HR3 d0 d1 d2 d3 d4 d5 d6 d7 d8 d9 d10 dF
    cases hy : choiceF ts (exprF ts f) p n with
    | error k =>
      rw [hy] at hr
      obtain ⟨m, p3, rfl, hp3, hk1, hk2, hk3⟩ := hr
      have HR : Hid (insideF ts (exprF ts f) p n = .error k) := hide (by rw [HR0.out]; exact hy)
      have HK := hide hk1
      have HK3 := hide hk3
      have HP := hide hp3
      clear hk1 hk3 hp3 hy HR0 HE HW HT
      obtain ⟨⟨r0, r1, r2, r3, r4, r5, r6, r7, r8, r9, r10⟩, rF⟩ := row11 hR4
      clear hR4
      have hN : two X w.heap.size w.heap.size := .inr (.inl rfl)
      have hN1 : two X w.heap.size (w.heap.size + 1) := .inr (.inr rfl)
      generalize w.heap.size = N at *
      go_wp2
      refine bodyPost_ret (v := .tuple #[m.val, .bool false]) (by simp [results, Try.results139, go_sem, *]) rfl ?_
      refine ⟨?_, ?_⟩
      · rw [HR.out]
        exact ⟨_, _, rfl, Par.less (((((((((((HP.out.poke hN1).poke hN1).poke hN1).poke hN1).poke hN1).poke hN1).poke hN1).poke hN1).poke hN1).poke hN1).poke hN1) (fun k hk => .inl hk), HK.out, hk2, HK3.out⟩
      · exact (((((((((((HFR.out.setCell HNX.out.2 _).setCell HNX.out.2 _).setCell HNX.out.2 _).setCell HNX.out.2 _).setCell HNX.out.2 _).setCell HNX.out.2 _).setCell HNX.out.2 _).setCell HNX.out.2 _).setCell HNX.out.2 _).setCell HNX.out.2 _).setCell HNX.out.2 _)
    | ok mp =>
      obtain ⟨m, p3⟩ := mp
      rw [hy] at hr
      obtain ⟨rfl, hp3⟩ := hr
      have HR : Hid (insideF ts (exprF ts f) p n = .ok (m, p3)) := hide (by rw [HR0.out]; exact hy)
      have HP := hide hp3
      clear hp3 hy HR0 HE HW HT
      obtain ⟨⟨r0, r1, r2, r3, r4, r5, r6, r7, r8, r9, r10⟩, rF⟩ := row11 hR4
      clear hR4
      have hN : two X w.heap.size w.heap.size := .inr (.inl rfl)
      have hN1 : two X w.heap.size (w.heap.size + 1) := .inr (.inr rfl)
      generalize w.heap.size = N at *
      go_wp2
      refine bodyPost_ret (v := .tuple #[m.val, .bool true]) (by simp [results, Try.results139, go_sem, *]) rfl ?_
      refine ⟨?_, ?_⟩
      · rw [HR.out]
        exact ⟨rfl, Par.less (((((((((((HP.out.poke hN1).poke hN1).poke hN1).poke hN1).poke hN1).poke hN1).poke hN1).poke hN1).poke hN1).poke hN1).poke hN1) (fun k hk => .inl hk)⟩
      · exact (((((((((((HFR.out.setCell HNX.out.2 _).setCell HNX.out.2 _).setCell HNX.out.2 _).setCell HNX.out.2 _).setCell HNX.out.2 _).setCell HNX.out.2 _).setCell HNX.out.2 _).setCell HNX.out.2 _).setCell HNX.out.2 _).setCell HNX.out.2 _).setCell HNX.out.2 _)
  · have HR0 : Hid (insideF ts (exprF ts f) p n = infixF ts (exprF ts f) p n) := hide (by unfold insideF; rw [if_neg hk1, if_neg hk2])
    have q1 := str_no hk1
    have q2 := str_no hk2
    simp only [kNot] at q1
    simp only [kIf] at q2
    clear hk1 hk2
    go_enter Try.func139, Try.ntmps139
    go_wp2_with fail
    refine (here_any _ _ b ts p (h.two _ _) HW.out.next HT.out.1).mono ?_
    rintro e w3 ⟨rfl, hb3⟩
    obtain ⟨hN3, hR3, hF3⟩ := two_after HXL.out hb3
    have hP3 := (h.two _ _).below hb3
    clear hb3 h
    have hN3' := hN3
    obtain ⟨⟨d0, d1, d2, d3, d4, d5, d6, d7, d8, d9, d10⟩, dF⟩ := row11 hN3
    clear hN3 hN3'
    have HR3 := hide hR3
    clear hR3
    go_wp2_with fail
    refine (infix_any HT.out HE.out w3 _ b p n hP3 HW.out hd hdl).mono ?_
    rintro e w4 ⟨hr, hf4⟩
    have hR4 := (hf4.block _ (.inr (.inr rfl))).trans HR3.out
    have HFR := hide (hF3.trans (hf4.mono fun k hk => .inl hk))
    have HNX := hide (two_not HXL.out)
    clear hf4 hF3 hP3 HR3 d0 d1 d2 d3 d4 d5 d6 d7 d8 d9 d10 dF
    cases hy : infixF ts (exprF ts f) p n with
    | error k =>
      rw [hy] at hr
      obtain ⟨m, p3, rfl, hp3, hk1, hk2, hk3⟩ := hr
      have HR : Hid (insideF ts (exprF ts f) p n = .error k) := hide (by rw [HR0.out]; exact hy)
      have HK := hide hk1
      have HK3 := hide hk3
      have HP := hide hp3
      clear hk1 hk3 hp3 hy HR0 HE HW HT
      obtain ⟨⟨r0, r1, r2, r3, r4, r5, r6, r7, r8, r9, r10⟩, rF⟩ := row11 hR4
      clear hR4
      have hN : two X w.heap.size w.heap.size := .inr (.inl rfl)
      have hN1 : two X w.heap.size (w.heap.size + 1) := .inr (.inr rfl)
      generalize w.heap.size = N at *
      go_wp2
      refine bodyPost_ret (v := .tuple #[m.val, .bool false]) (by simp [results, Try.results139, go_sem, *]) rfl ?_
      refine ⟨?_, ?_⟩
      · rw [HR.out]
        exact ⟨_, _, rfl, Par.less (((((((((((HP.out.poke hN1).poke hN1).poke hN1).poke hN1).poke hN1).poke hN1).poke hN1).poke hN1).poke hN1).poke hN1).poke hN1) (fun k hk => .inl hk), HK.out, hk2, HK3.out⟩
      · exact (((((((((((HFR.out.setCell HNX.out.2 _).setCell HNX.out.2 _).setCell HNX.out.2 _).setCell HNX.out.2 _).setCell HNX.out.2 _).setCell HNX.out.2 _).setCell HNX.out.2 _).setCell HNX.out.2 _).setCell HNX.out.2 _).setCell HNX.out.2 _).setCell HNX.out.2 _)
    | ok mp =>
      obtain ⟨m, p3⟩ := mp
      rw [hy] at hr
      obtain ⟨rfl, hp3⟩ := hr
      have HR : Hid (insideF ts (exprF ts f) p n = .ok (m, p3)) := hide (by rw [HR0.out]; exact hy)
      have HP := hide hp3
      clear hp3 hy HR0 HE HW HT
      obtain ⟨⟨r0, r1, r2, r3, r4, r5, r6, r7, r8, r9, r10⟩, rF⟩ := row11 hR4
      clear hR4
      have hN : two X w.heap.size w.heap.size := .inr (.inl rfl)
      have hN1 : two X w.heap.size (w.heap.size + 1) := .inr (.inr rfl)
      generalize w.heap.size = N at *
      go_wp2
      refine bodyPost_ret (v := .tuple #[m.val, .bool true]) (by simp [results, Try.results139, go_sem, *]) rfl ?_
      refine ⟨?_, ?_⟩
      · rw [HR.out]
        exact ⟨rfl, Par.less (((((((((((HP.out.poke hN1).poke hN1).poke hN1).poke hN1).poke hN1).poke hN1).poke hN1).poke hN1).poke hN1).poke hN1).poke hN1) (fun k hk => .inl hk)⟩
      · exact (((((((((((HFR.out.setCell HNX.out.2 _).setCell HNX.out.2 _).setCell HNX.out.2 _).setCell HNX.out.2 _).setCell HNX.out.2 _).setCell HNX.out.2 _).setCell HNX.out.2 _).setCell HNX.out.2 _).setCell HNX.out.2 _).setCell HNX.out.2 _).setCell HNX.out.2 _)
def setsFrom : List Value → Nat → List Value → List Value
  | xs, _, [] => xs
  | xs, o, v :: vs => setsFrom (xs.set o v) (o + 1) vs
theorem setsFrom_eq : ∀ (vs xs : List Value) (o : Nat), o + vs.length ≤ xs.length → setsFrom xs o vs = xs.take o ++ vs ++ xs.drop (o + vs.length) := by
  intro vs
  induction vs with
  | nil => intro xs o _; simp [setsFrom]
  | cons v vs ih =>
    intro xs o h
    simp only [List.length_cons] at h
    rw [setsFrom, ih _ _ (by simp; omega)]
    have e1 : (xs.set o v).take (o + 1) = xs.take o ++ [v] := by
      rw [List.take_succ_eq_append_getElem (by simp; omega), List.take_set]
      simp
      rw [List.set_eq_of_length_le (by simp; exact Nat.min_le_left _ _)]
    have e2 : (xs.set o v).drop (o + 1 + vs.length) = xs.drop (o + 1 + vs.length) := by
      rw [List.drop_set, if_pos (by omega)]
    rw [e1, e2, List.length_cons]
    have e3 : o + 1 + vs.length = o + (vs.length + 1) := by omega
    rw [e3]
    simp
theorem ownsRow_sets {base e size n g cap : Nat} : ∀ (vs : List Value) (o : Nat) (w : World) (xs : List Value), w.ownsRow base e size (.slice (some ⟨g, 0, none⟩) n cap) n xs →
    (w.setCells g o vs).ownsRow base e size (.slice (some ⟨g, 0, none⟩) n cap) n (setsFrom xs o vs) ∧ w.grownBy (w.setCells g o vs) (some g) := by
  intro vs
  induction vs with
  | nil => intro o w xs h; exact ⟨h, ⟨rfl, rfl, rfl, Nat.le_refl _, fun _ _ _ => rfl⟩⟩
  | cons v vs ih =>
    intro o w xs h
    obtain ⟨h1, h2⟩ := h.stored o v
    obtain ⟨h3, h4⟩ := ih (o + 1) _ _ h1
    refine ⟨h3, ⟨h4.os.trans h2.os, h4.tape.trans h2.tape, h4.output.trans h2.output, Nat.le_trans h2.size h4.size, fun k hk hne => (h4.block k (Nat.lt_of_lt_of_le hk h2.size) hne).trans (h2.block k hk hne)⟩⟩
theorem ParV.setNode {w : World} {X : Nat → Prop} {b : Nat} {ts : List Tk} {p : PS} {vt vd : Value} {g cap : Nat} (h : ParV w X b ts p vt vd (.slice (some ⟨g, 0, none⟩) p.nodes.length cap)) {k : Nat} (hk : k < p.nodes.length) (n : Nd) :
    ParV (w.setCells g (k * 11) n.cells) X b ts { p with nodes := p.nodes.set k n } vt vd (.slice (some ⟨g, 0, none⟩) p.nodes.length cap) ∧ Fr X w (w.setCells g (k * 11) n.cells) := by
  obtain ⟨h1, h2⟩ := ownsRow_sets n.cells (k * 11) w _ h.nodes
  have hlen : (ndCells p.nodes).length = p.nodes.length * 11 := h.nodes.1
  have e : setsFrom (ndCells p.nodes) (k * 11) n.cells = ndCells (p.nodes.set k n) := by
    rw [setsFrom_eq _ _ _ (by rw [hlen, nd_len]; omega), nd_len]
    exact (flat_set Nd.cells 11 nd_len n p.nodes k hk).symm
  rw [e] at h1
  have hb : some b ≠ some g := fun e => h.nb (by simp [Value.ownBlock, Option.some.inj e])
  refine ⟨⟨(h2.block b h.lt hb).trans h.at_b, h.toks.kept h2 (.inr fun e => h.tn g e rfl), h.decls.kept h2 (.inr fun e => h.dn g e rfl), ?_, h.tb, h.db, h.nb, h.td, h.tn, h.dn, fun k hk => Nat.lt_of_lt_of_le (h.xlt k hk) h2.size, h.xb, h.xd, h.xn, h.xt⟩, ?_⟩
  · simpa using h1
  · exact ⟨h2.os, h2.tape, h2.output, h2.size, fun j hj => h2.block j (h.xlt j hj) (fun e => h.xn g rfl (by rw [← Option.some.inj e]; exact hj))⟩
theorem row11_all {w : World} {N : Nat} {a0 a1 a2 a3 a4 a5 a6 a7 a8 a9 a10 b0 b1 b2 b3 b4 b5 b6 b7 b8 b9 b10 : Value} {t : TypeId} (h0 : w.heap[N]? = some (.cells #[a0, a1, a2, a3, a4, a5, a6, a7, a8, a9, a10] t)) :
    (((((((((((w.setCell ⟨N, 0, none⟩ b0).setCell ⟨N, 1, none⟩ b1).setCell ⟨N, 2, none⟩ b2).setCell ⟨N, 3, none⟩ b3).setCell ⟨N, 4, none⟩ b4).setCell ⟨N, 5, none⟩ b5).setCell ⟨N, 6, none⟩ b6).setCell ⟨N, 7, none⟩ b7).setCell ⟨N, 8, none⟩ b8).setCell ⟨N, 9, none⟩ b9).setCell ⟨N, 10, none⟩ b10).heap[N]? = some (.cells #[b0, b1, b2, b3, b4, b5, b6, b7, b8, b9, b10] t) := by
  have h1 := heap_setCell_same _ N 0 _ _ b0 h0
  have h2 := heap_setCell_same _ N 1 _ _ b1 h1
  have h3 := heap_setCell_same _ N 2 _ _ b2 h2
  have h4 := heap_setCell_same _ N 3 _ _ b3 h3
  have h5 := heap_setCell_same _ N 4 _ _ b4 h4
  have h6 := heap_setCell_same _ N 5 _ _ b5 h5
  have h7 := heap_setCell_same _ N 6 _ _ b6 h6
  have h8 := heap_setCell_same _ N 7 _ _ b7 h7
  have h9 := heap_setCell_same _ N 8 _ _ b8 h8
  have h10 := heap_setCell_same _ N 9 _ _ b9 h9
  have h11 := heap_setCell_same _ N 10 _ _ b10 h10
  rw [h11]; simp
def one (X : Nat → Prop) (N : Nat) : Nat → Prop := fun k => X k ∨ k = N
theorem Par.one {w : World} {X : Nat → Prop} {b : Nat} {ts : List Tk} {p : PS} (h : Par w X b ts p) (o : Obj) : Par (w.alloc o) (one X w.heap.size) b ts p :=
  h.more ((Below.refl _ _).alloc (Nat.le_refl _) _) (fun k hk => by
    rcases hk with h | h
    · exact .inl h
    · right; simp; omega)
set_option maxHeartbeats 3000000 in
set_option maxRecDepth 100000 in
theorem bracket_any {ts : List Tk} (ht : TsOk ts) {f : Nat} (hE : ExprC ts f) (w : World) (X : Nat → Prop) (b : Nat) (p : PS) (h : Par w X b ts p) (hw : p.Wf ts) (hd : p.depth + 1 + f = 16) (hk : (p.hd ts).l = [40]) :
    Calls Try.prog 136 #[.pointer (some ⟨b, 0, none⟩)] w fun e w' => ResN w' X b ts p.delays e (bracketF ts (exprF ts f) p) ∧ Fr X w w' := by
  have HXL := hide h.xlt
  have HE := hide hE
  have HW := hide hw
  have HT := hide ht
  have HK := hide hk
  have hwn := hw.nodes
  have hwx := hw.next
  have htl := ht.1
  have hdp : (p.depth : Int) < 16 := by omega
  have hdp0 : (0 : Int) ≤ (p.depth : Int) := by omega
  have HBW := hide (inBr_wf ht hw (by omega) (.inr (by rw [hk]; decide)))
  clear hE hw ht hk
  have c2 : w.cell? ⟨b, 2, none⟩ = some (.int .i64 (p.depth : Int)) := by obtain ⟨_, _, _, hp⟩ := h; exact hp.cell.2.2.1
  go_enter Try.func136, Try.ntmps136
  go_wp2_with fail
  refine (add_any w X b ts p ndZero h hwx htl (by omega)).mono ?_
  rintro e w1 ⟨rfl, hp1, hf1⟩
  obtain ⟨vt, vd, vn, hv⟩ := hp1
  have c5 := hv.cell.2.2.2.2.2
  have hlen1 : (p.add ts ndZero).nodes.length = p.nodes.length + 1 := by simp [PS.add]
  obtain ⟨g, cap, rfl, _, glt⟩ := hv.nodes.form (by omega)
  rw [hlen1] at c5
  have hka : p.nodes.length < (p.add ts ndZero).nodes.length := by omega
  have hcs := ndAt_cells hv.nodes hka
  obtain ⟨nd, hnd⟩ : ∃ nd, nd = (p.add ts ndZero).nodes.getD p.nodes.length ndZero := ⟨_, rfl⟩
  have hnd2 : (p.add ts ndZero).nodes[p.nodes.length]'hka = nd := by rw [hnd]; simp [hka]
  rw [hnd2] at hcs
  have x0 := hcs 0 (by omega)
  have x1 := hcs 1 (by omega)
  have x2 := hcs 2 (by omega)
  have x3 := hcs 3 (by omega)
  have x4 := hcs 4 (by omega)
  have x5 := hcs 5 (by omega)
  have x6 := hcs 6 (by omega)
  have x7 := hcs 7 (by omega)
  have x8 := hcs 8 (by omega)
  have x9 := hcs 9 (by omega)
  have x10 := hcs 10 (by omega)
  simp [Nd.cells] at x0 x1 x2 x3 x4 x5 x6 x7 x8 x9 x10
  have HP1 : Hid (Par w1 X b ts (p.add ts ndZero)) := hide ⟨_, _, _, hv⟩
  have HND := hide hnd
  clear hv hcs hnd2 hnd hlen1 hka c2
  have j1 : (0 : Int) ≤ (p.nodes.length : Int) := by omega
  have j2 : (p.nodes.length : Int) < (p.nodes.length : Int) + 1 := by omega
  go_wp2_with fail
  refine (step_any _ (one X w1.heap.size) b ts (p.add ts ndZero) (HP1.out.one _) hwx htl).mono ?_
  rintro e w2 ⟨rfl, hp2, hf2⟩
  have hF2 : Fr X w w2 := hf1.trans ((Fr.of_below ((Below.refl _ _).alloc (Nat.le_refl _) _) HP1.out.xlt).trans (hf2.mono fun k hk => .inl hk))
  have hN2 := (hf2.block _ (.inr rfl)).trans (heap_alloc_new w1 _)
  have HNX : Hid (¬ X w1.heap.size) := hide (fun hk => by have := HP1.out.xlt _ hk; omega)
  have hN : one X w1.heap.size w1.heap.size := .inr rfl
  clear hf1 hf2 HP1 x0 x1 x2 x3 x4 x5 x6 x7 x8 x9 x10 c5 glt j1 j2
  obtain ⟨vt2, vd2, vn2, hv2⟩ := hp2
  have c2 := hv2.cell.2.2.1
  have f2 := hv2.froz 2
  rw [adv_depth] at c2
  have ed : (p.add ts ndZero).depth = p.depth := rfl
  rw [ed] at c2
  have nb1 : b ≠ w1.heap.size := by rintro rfl; exact hv2.xb (.inr rfl)
  have nb2 := nb1.symm
  have hset := hv2.set (p' := inBr ts p) 2 (.int .i64 ((p.depth : Int) + 1)) (by simp [inBr]) (by simp [inBr]) (by simp [inBr])
  have HPI : Hid (Par (w2.setCell ⟨b, 2, none⟩ (.int .i64 ((p.depth : Int) + 1))) (one X w1.heap.size) b ts (inBr ts p)) := hide ⟨_, _, _, hset.1⟩
  have HF3 := hide (hF2.trans (hset.2.mono fun k hk => .inl hk))
  have HN2 := hide hN2
  obtain ⟨⟨d0, d1, d2, d3, d4, d5, d6, d7, d8, d9, d10⟩, dF⟩ := row11 hN2
  clear hset hv2 hF2 ed hN2
  generalize w1.heap.size = N at *
  go_wp2_with fail
  refine (inside_any HT.out HE.out _ (one X N) b (inBr ts p) nd HPI.out HBW.out.1 (by simp [inBr]; omega) (by have := HW.out.delays; simp [inBr, PS.add]; omega)).mono ?_
  rintro e w4 ⟨hr, hf4⟩
  have hN4 := (hf4.block _ hN).trans ((heap_setCell_other w2 ⟨b, 2, none⟩ N _ nb2).trans HN2.out)
  have hF4 : Fr X w w4 := HF3.out.trans (hf4.mono fun k hk => .inl hk)
  have HSTEP := hide (inside_ok HT.out (expr_ok HT.out f (p.depth + 1) (by omega)) HBW.out.1 (by simp [inBr]) (by have := HW.out.delays; simp [inBr, PS.add]; omega) nd)
  clear hf4 HF3 HN2 HPI d0 d1 d2 d3 d4 d5 d6 d7 d8 d9 d10 dF c2 f2
  obtain ⟨⟨d0, d1, d2, d3, d4, d5, d6, d7, d8, d9, d10⟩, dF⟩ := row11 hN4
  have HN4 := hide hN4
  clear hN4
  cases hy : insideF ts (exprF ts f) (inBr ts p) nd with
  | error k =>
    rw [hy] at hr
    obtain ⟨m, p3, rfl, hp3, hk1, hk2, hk3⟩ := hr
    have HR : Hid (bracketF ts (exprF ts f) p = .error k) := hide (by unfold bracketF; rw [← HND.out]; rw [show ({ (p.add ts ndZero).adv ts with depth := p.depth + 1 } : PS) = inBr ts p from rfl, hy])
    have HK1 := hide hk1
    have HK3 : Hid (p3.delays = p.delays) := hide (by rw [hk3]; simp [inBr, PS.add])
    have HP4 := hide hp3
    have HF4 := hide hF4
    clear hk1 hk3 hp3 hy hF4 HN4 HSTEP HE HT HW HBW HND
    go_wp2
    go_ret2
    refine ⟨?_, ?_⟩
    · rw [HR.out]
      exact ⟨0, _, rfl, Par.less (((((((((((HP4.out.poke hN).poke hN).poke hN).poke hN).poke hN).poke hN).poke hN).poke hN).poke hN).poke hN).poke hN) (fun k hk => .inl hk), HK1.out, hk2, HK3.out⟩
    · exact (((((((((((HF4.out.setCell HNX.out _).setCell HNX.out _).setCell HNX.out _).setCell HNX.out _).setCell HNX.out _).setCell HNX.out _).setCell HNX.out _).setCell HNX.out _).setCell HNX.out _).setCell HNX.out _).setCell HNX.out _)
  | ok mp =>
    obtain ⟨m, p3⟩ := mp
    rw [hy] at hr
    obtain ⟨rfl, hp3⟩ := hr
    have hst := HSTEP.out.1 _ _ hy
    have HBR : Hid (bracketF ts (exprF ts f) p = match PS.take ts { p3 with depth := p3.depth - 1, nodes := p3.nodes.set p.nodes.length m } [41] with
        | .error e => .error e
        | .ok p4 => .ok (p.nodes.length, p4)) := hide (by unfold bracketF; rw [← HND.out]; rw [show ({ (p.add ts ndZero).adv ts with depth := p.depth + 1 } : PS) = inBr ts p from rfl, hy]; rfl)
    have hdp3 : p3.depth = p.depth + 1 := by rw [hst.depth]; rfl
    have HDL3 : Hid (p3.delays = p.delays) := hide (by rw [hst.delays]; simp [inBr, PS.add])
    have hln : p.nodes.length < p3.nodes.length := by
      obtain ⟨l, hl⟩ := hst.nodes
      rw [hl, List.length_append]
      simp [inBr, PS.add]; omega
    have hnx3 := hst.next
    have hw3 := (hst.wf HBW.out.1).nodes
    have HP4 := hide hp3
    have HF4 := hide hF4
    obtain ⟨_, _, _, hv3⟩ := hp3
    have c2 := hv3.cell.2.2.1
    have f2 := hv3.froz 2
    rw [hdp3] at c2
    have c2' : w4.cell? ⟨b, 2, none⟩ = some (.int .i64 ((p.depth : Int) + 1)) := by rw [c2]; rfl
    clear hv3 hF4 hy hst c2 HSTEP HE HBW HND
    go_wp2_with fail
    obtain ⟨w5, hw5⟩ : ∃ w5, w5 = (((((((((((w4.setCell ⟨N, 0, none⟩ (.int .i64 (m.kind : Int))).setCell ⟨N, 1, none⟩ (.int .i64 (m.pos : Int))).setCell ⟨N, 2, none⟩ (.int .i64 (m.value : Int))).setCell ⟨N, 3, none⟩ (.string m.name)).setCell ⟨N, 4, none⟩ (.int .i64 m.decl)).setCell ⟨N, 5, none⟩ (.int .i64 (m.op : Int))).setCell ⟨N, 6, none⟩ (.int .i64 (m.a : Int))).setCell ⟨N, 7, none⟩ (.int .i64 (m.b : Int))).setCell ⟨N, 8, none⟩ (.int .i64 (m.c : Int))).setCell ⟨N, 9, none⟩ (.bool m.delayed)).setCell ⟨N, 10, none⟩ (.bool m.behind)).setCell ⟨b, 2, none⟩ (.int .i64 (p.depth : Int)) := ⟨_, rfl⟩
    have hN5 : w5.heap[N]? = some (.cells #[.int .i64 (m.kind : Int), .int .i64 (m.pos : Int), .int .i64 (m.value : Int), .string m.name, .int .i64 m.decl, .int .i64 (m.op : Int), .int .i64 (m.a : Int), .int .i64 (m.b : Int), .int .i64 (m.c : Int), .bool m.delayed, .bool m.behind] 171) := by
      rw [hw5]; exact (heap_setCell_other _ ⟨b, 2, none⟩ N _ nb2).trans (row11_all HN4.out)
    have hPF : (∃ vt vd vn, ParV w5 (one X N) b ts { p3 with depth := p3.depth - 1 } vt vd vn) ∧ Fr X w w5 := by
      have hpk : Par (((((((((((w4.setCell ⟨N, 0, none⟩ (.int .i64 (m.kind : Int))).setCell ⟨N, 1, none⟩ (.int .i64 (m.pos : Int))).setCell ⟨N, 2, none⟩ (.int .i64 (m.value : Int))).setCell ⟨N, 3, none⟩ (.string m.name)).setCell ⟨N, 4, none⟩ (.int .i64 m.decl)).setCell ⟨N, 5, none⟩ (.int .i64 (m.op : Int))).setCell ⟨N, 6, none⟩ (.int .i64 (m.a : Int))).setCell ⟨N, 7, none⟩ (.int .i64 (m.b : Int))).setCell ⟨N, 8, none⟩ (.int .i64 (m.c : Int))).setCell ⟨N, 9, none⟩ (.bool m.delayed)).setCell ⟨N, 10, none⟩ (.bool m.behind)) (one X N) b ts p3 := (((((((((((HP4.out.poke hN).poke hN).poke hN).poke hN).poke hN).poke hN).poke hN).poke hN).poke hN).poke hN).poke hN)
      obtain ⟨vt5, vd5, vn5, hv5⟩ := hpk
      have hset := hv5.set (p' := { p3 with depth := p3.depth - 1 }) 2 (.int .i64 (p.depth : Int)) rfl rfl (by simp [hdp3])
      rw [hw5]
      refine ⟨⟨_, _, _, hset.1⟩, ?_⟩
      have hfr : Fr X w (((((((((((w4.setCell ⟨N, 0, none⟩ (.int .i64 (m.kind : Int))).setCell ⟨N, 1, none⟩ (.int .i64 (m.pos : Int))).setCell ⟨N, 2, none⟩ (.int .i64 (m.value : Int))).setCell ⟨N, 3, none⟩ (.string m.name)).setCell ⟨N, 4, none⟩ (.int .i64 m.decl)).setCell ⟨N, 5, none⟩ (.int .i64 (m.op : Int))).setCell ⟨N, 6, none⟩ (.int .i64 (m.a : Int))).setCell ⟨N, 7, none⟩ (.int .i64 (m.b : Int))).setCell ⟨N, 8, none⟩ (.int .i64 (m.c : Int))).setCell ⟨N, 9, none⟩ (.bool m.delayed)).setCell ⟨N, 10, none⟩ (.bool m.behind)) := (((((((((((HF4.out.setCell HNX.out _).setCell HNX.out _).setCell HNX.out _).setCell HNX.out _).setCell HNX.out _).setCell HNX.out _).setCell HNX.out _).setCell HNX.out _).setCell HNX.out _).setCell HNX.out _).setCell HNX.out _)
      exact hfr.trans (hset.2.mono fun k hk => .inl hk)
    rw [← hw5]
    clear hw5 HN4 HP4 HF4 c2' f2 d0 d1 d2 d3 d4 d5 d6 d7 d8 d9 d10 dF
    obtain ⟨⟨vt5, vd5, vn5, hv5⟩, hF5⟩ := hPF
    have c5 := hv5.cell.2.2.2.2.2
    have hlen5 : ({ p3 with depth := p3.depth - 1 } : PS).nodes.length = p3.nodes.length := rfl
    obtain ⟨g5, cap5, rfl, _, glt5⟩ := hv5.nodes.form (by rw [hlen5]; omega)
    rw [hlen5] at c5
    have hys : ∀ j, j < 11 → w5.cell? ⟨g5, p.nodes.length * 11 + j, none⟩ = (p3.nodes[p.nodes.length]'hln).cells[j]? := ndAt_cells (l := p3.nodes) hv5.nodes hln
    generalize p3.nodes[p.nodes.length]'hln = old at hys
    have yF : ∀ i, w5.frozen? ⟨g5, i, none⟩ = false := fun i => hv5.nodes.frozenAt i
    have ng1 : g5 ≠ N := by rintro rfl; exact hv5.xn _ rfl (.inr rfl)
    have ng2 := ng1.symm
    have ng3 : g5 ≠ b := by rintro rfl; exact hv5.nb rfl
    have ng4 := ng3.symm
    have y0 := hys 0 (by omega)
    have y1 := hys 1 (by omega)
    have y2 := hys 2 (by omega)
    have y3 := hys 3 (by omega)
    have y4 := hys 4 (by omega)
    have y5 := hys 5 (by omega)
    have y6 := hys 6 (by omega)
    have y7 := hys 7 (by omega)
    have y8 := hys 8 (by omega)
    have y9 := hys 9 (by omega)
    have y10 := hys 10 (by omega)
    simp [Nd.cells] at y0 y1 y2 y3 y4 y5 y6 y7 y8 y9 y10
    obtain ⟨⟨d0, d1, d2, d3, d4, d5, d6, d7, d8, d9, d10⟩, dF⟩ := row11 hN5
    have hsn := hv5.setNode (k := p.nodes.length) (by rw [hlen5]; omega) m
    simp only [World.setCells, Nd.cells, Nat.add_assoc, Nat.reduceAdd] at hsn
    have HSN := hide hsn
    have HF5 := hide hF5
    have j1 : (0 : Int) ≤ (p.nodes.length : Int) := by omega
    have j2 : (p.nodes.length : Int) < (p3.nodes.length : Int) := by omega
    clear hsn hv5 hys hN5 hF5 hlen5 h
    go_big_region
    have hnx : ({ p3 with depth := p3.depth - 1, nodes := p3.nodes.set p.nodes.length m } : PS).next < ts.length := hnx3
    clear y0 y1 y2 y3 y4 y5 y6 y7 y8 y9 y10 d0 d1 d2 d3 d4 d5 d6 d7 d8 d9 d10 dF yF c5
    go_wp2_with fail
    refine (take_any _ (one X N) b ts { p3 with depth := p3.depth - 1, nodes := p3.nodes.set p.nodes.length m } [41] (Par.below ⟨_, _, _, HSN.out.1⟩ ((Below.refl _ _).drew)) hnx htl).mono ?_
    rintro e w6 ⟨hr, hf6⟩
    have HF6 : Hid (Fr X w w6) := hide ((HF5.out.trans (HSN.out.2.mono fun k hk => .inl hk)).trans ((Fr.of_below ((Below.refl _ _).drew) (fun k hk => by have := HXL.out k hk; have := (HF5.out.trans (HSN.out.2.mono fun k hk => .inl hk)).size; omega)).trans (hf6.mono fun k hk => .inl hk)))
    clear hf6 HSN HF5
    cases hz : PS.take ts { p3 with depth := p3.depth - 1, nodes := p3.nodes.set p.nodes.length m } [41] with
    | error k =>
      rw [hz] at hr
      obtain ⟨rfl, p4, hp4, hk1, hk2, hk3⟩ := hr
      have HR : Hid (bracketF ts (exprF ts f) p = .error k) := hide (by rw [HBR.out, hz])
      have HP := hide hp4
      have HK1 := hide hk1
      have HK3 : Hid (p4.delays = p.delays) := hide (by rw [hk3]; exact HDL3.out)
      clear hz hp4 hk1 hk3 HBR
      go_wp2
      go_ret2
      refine ⟨?_, HF6.out⟩
      rw [HR.out]
      exact ⟨p.nodes.length, p4, rfl, Par.less HP.out (fun k hk => .inl hk), HK1.out, hk2, HK3.out⟩
    | ok p4 =>
      rw [hz] at hr
      obtain ⟨rfl, hp4⟩ := hr
      have HR : Hid (bracketF ts (exprF ts f) p = .ok (p.nodes.length, p4)) := hide (by rw [HBR.out, hz])
      have HP := hide hp4
      clear hz hp4 HBR
      go_wp2
      go_ret2
      refine ⟨?_, HF6.out⟩
      rw [HR.out]
      exact ⟨rfl, Par.less HP.out (fun k hk => .inl hk)⟩
end Go.Proofs.Ytmndgoapkmhglab
