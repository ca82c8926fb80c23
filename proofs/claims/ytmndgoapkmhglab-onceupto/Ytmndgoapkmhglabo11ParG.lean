import Derived.Test.Ytmndgoapkmhglabo02BoxC
import Derived.Test.Ytmndgoapkmhglabo10ParD
namespace Go.Proofs.Ytmndgoapkmhglab
open Go.RowKit
attribute [local go_sem ↓] Go.wp_at_zero Go.wp_at_succ
attribute [local go_sem] Try.fieldTok0 Try.fieldTok1 Try.fieldTok2
def ResD (w' : World) (X : Nat → Prop) (b : Nat) (ts : List Tk) (dl : Nat) (e : Ending) : Except Nat (Nd × PS) → Prop
  | .ok (n, p') => e = .returned (.tuple #[n.val, .bool true]) ∧ Par w' X b ts p'
  | .error k => ∃ (n : Nd) (p' : PS), e = .returned (.tuple #[n.val, .bool false]) ∧ Par w' X b ts p' ∧ p'.next = k ∧ k < ts.length ∧ p'.delays = dl
def ExprC (ts : List Tk) (f : Nat) : Prop :=
  ∀ (w : World) (X : Nat → Prop) (b : Nat) (p : PS), Par w X b ts p → p.Wf ts → p.depth + f = 16 →
    Calls Try.prog 131 #[.pointer (some ⟨b, 0, none⟩)] w fun e w' => ResN w' X b ts p.delays e (exprF ts f p) ∧ Fr X w w'
theorem row11 {w : World} {N : Nat} {a0 a1 a2 a3 a4 a5 a6 a7 a8 a9 a10 : Value} {t : TypeId} (h : w.heap[N]? = some (.cells #[a0, a1, a2, a3, a4, a5, a6, a7, a8, a9, a10] t)) :
    (w.cell? ⟨N, 0, none⟩ = some a0 ∧ w.cell? ⟨N, 1, none⟩ = some a1 ∧ w.cell? ⟨N, 2, none⟩ = some a2 ∧ w.cell? ⟨N, 3, none⟩ = some a3 ∧ w.cell? ⟨N, 4, none⟩ = some a4 ∧ w.cell? ⟨N, 5, none⟩ = some a5 ∧
    w.cell? ⟨N, 6, none⟩ = some a6 ∧ w.cell? ⟨N, 7, none⟩ = some a7 ∧ w.cell? ⟨N, 8, none⟩ = some a8 ∧ w.cell? ⟨N, 9, none⟩ = some a9 ∧ w.cell? ⟨N, 10, none⟩ = some a10) ∧ (∀ i, w.frozen? ⟨N, i, none⟩ = false) := by
  refine ⟨⟨?_, ?_, ?_, ?_, ?_, ?_, ?_, ?_, ?_, ?_, ?_⟩, fun i => frozen_of_row w N i _ _ h⟩ <;> (rw [cell_of_row w N _ _ _ _ h]; rfl)
def two (X : Nat → Prop) (N : Nat) : Nat → Prop := fun k => X k ∨ k = N ∨ k = N + 1
theorem two_blocks {w w' : World} {o1 o2 : Obj} {X : Nat → Prop} (hf : Fr (two X w.heap.size) ((w.alloc o1).alloc o2) w') :
    w'.heap[w.heap.size]? = some o1 ∧ w'.heap[w.heap.size + 1]? = some o2 := by
  refine ⟨(hf.block _ (.inr (.inl rfl))).trans ?_, (hf.block _ (.inr (.inr rfl))).trans ?_⟩
  · rw [Below.heap_alloc _ _ _ (by simp)]; exact heap_alloc_new w o1
  · have := heap_alloc_new (w.alloc o1) o2
    simpa using this
theorem Par.two {w : World} {X : Nat → Prop} {b : Nat} {ts : List Tk} {p : PS} (h : Par w X b ts p) (o1 o2 : Obj) : Par ((w.alloc o1).alloc o2) (two X w.heap.size) b ts p :=
  h.more (((Below.refl _ _).alloc (Nat.le_refl _) _).alloc (by simp) _) (fun k hk => by
    rcases hk with h | h | h
    · exact .inl h
    · right; simp; omega
    · right; simp; omega)
theorem fr_two {w w' : World} {X : Nat → Prop} {o1 o2 : Obj} (hX : ∀ k, X k → k < w.heap.size) (hf : Fr (two X w.heap.size) ((w.alloc o1).alloc o2) w') : Fr X w w' :=
  (Fr.of_below (((Below.refl w.heap.size w).alloc (Nat.le_refl _) o1).alloc (by simp) o2) hX).trans (hf.mono fun k hk => .inl hk)
theorem two_not {X : Nat → Prop} {N : Nat} (hX : ∀ k, X k → k < N) : ¬ X N ∧ ¬ X (N + 1) := ⟨fun h => by have := hX _ h; omega, fun h => by have := hX _ h; omega⟩
set_option maxHeartbeats 4000000 in
set_option maxRecDepth 100000 in
theorem not_any {ts : List Tk} (hl : ts.length ≤ 1501) {f : Nat} (hE : ExprC ts f) (w : World) (X : Nat → Prop) (b : Nat) (p : PS) (n : Nd) (h : Par w X b ts p) (hw : p.Wf ts) (hd : p.depth + f = 16) :
    Calls Try.prog 140 #[.pointer (some ⟨b, 0, none⟩), n.val] w fun e w' => ResD w' X b ts p.delays e (notF ts (exprF ts f) p n) ∧ Fr X w w' := by
  have HXL := hide h.xlt
  have HE := hide hE
  have HW := hide hw
  clear hE hw
  go_enter Try.func140, Try.ntmps140
  go_wp2_with fail
  refine (step_any _ (two X w.heap.size) b ts p (h.two _ _) HW.out.next hl).mono ?_
  rintro e w2 ⟨rfl, hp2, hf2⟩
  go_wp2_with fail
  refine (HE.out w2 _ b (p.adv ts) hp2 (adv_wf HW.out) (by simp; exact hd)).mono ?_
  rintro e w3 ⟨hr, hf3⟩
  have hf := hf2.trans hf3
  obtain ⟨hb1, hb2⟩ := two_blocks hf
  have HFR := hide (fr_two HXL.out hf)
  clear hf hf2 hf3 hp2
  obtain ⟨⟨d0, d1, d2, d3, d4, d5, d6, d7, d8, d9, d10⟩, dF⟩ := row11 hb1
  obtain ⟨⟨r0, r1, r2, r3, r4, r5, r6, r7, r8, r9, r10⟩, rF⟩ := row11 hb2
  clear hb1 hb2
  have HNX := hide (two_not HXL.out)
  generalize w.heap.size = N at *
  have hN : two X N N := .inr (.inl rfl)
  have hN1 : two X N (N + 1) := .inr (.inr rfl)
  cases hx : exprF ts f (p.adv ts) with
  | ok ap =>
    obtain ⟨a, p1⟩ := ap
    rw [hx] at hr
    obtain ⟨rfl, hp3⟩ := hr
    have HR : Hid (notF ts (exprF ts f) p n = .ok ({ n with kind := 3, a := a }, p1)) := hide (by unfold notF; rw [hx])
    have HP := hide hp3
    clear hx hp3 HE HW
    go_wp2
    refine bodyPost_ret (v := .tuple #[({ n with kind := 3, a := a } : Nd).val, .bool true]) (by simp [results, Try.results140, go_sem, *]) rfl ?_
    refine ⟨?_, ?_⟩
    · rw [HR.out]
      exact ⟨rfl, Par.less (((((((((((((HP.out.poke hN).poke hN).poke hN1).poke hN1).poke hN1).poke hN1).poke hN1).poke hN1).poke hN1).poke hN1).poke hN1).poke hN1).poke hN1) (fun k hk => .inl hk)⟩
    · exact (((((((((((((HFR.out.setCell HNX.out.1 _).setCell HNX.out.1 _).setCell HNX.out.2 _).setCell HNX.out.2 _).setCell HNX.out.2 _).setCell HNX.out.2 _).setCell HNX.out.2 _).setCell HNX.out.2 _).setCell HNX.out.2 _).setCell HNX.out.2 _).setCell HNX.out.2 _).setCell HNX.out.2 _).setCell HNX.out.2 _)
  | error k =>
    rw [hx] at hr
    obtain ⟨a, p1, rfl, hp3, hk1, hk2, hk3⟩ := hr
    have HR : Hid (notF ts (exprF ts f) p n = .error k) := hide (by unfold notF; rw [hx])
    have HP := hide hp3
    have HK := hide hk1
    have HK3 := hide hk3
    clear hx hp3 HE HW hk1 hk3
    go_wp2
    refine bodyPost_ret (v := .tuple #[({ n with kind := 3, a := a } : Nd).val, .bool false]) (by simp [results, Try.results140, go_sem, *]) rfl ?_
    refine ⟨?_, ?_⟩
    · rw [HR.out]
      exact ⟨_, p1, rfl, Par.less (((((((((((((HP.out.poke hN).poke hN).poke hN1).poke hN1).poke hN1).poke hN1).poke hN1).poke hN1).poke hN1).poke hN1).poke hN1).poke hN1).poke hN1) (fun k hk => .inl hk), HK.out, hk2, by rw [HK3.out]; simp⟩
    · exact (((((((((((((HFR.out.setCell HNX.out.1 _).setCell HNX.out.1 _).setCell HNX.out.2 _).setCell HNX.out.2 _).setCell HNX.out.2 _).setCell HNX.out.2 _).setCell HNX.out.2 _).setCell HNX.out.2 _).setCell HNX.out.2 _).setCell HNX.out.2 _).setCell HNX.out.2 _).setCell HNX.out.2 _).setCell HNX.out.2 _)
set_option maxHeartbeats 2000000 in
set_option maxRecDepth 100000 in
theorem choice_any {ts : List Tk} (ht : TsOk ts) {f : Nat} (hE : ExprC ts f) (w : World) (X : Nat → Prop) (b : Nat) (p : PS) (n : Nd) (h : Par w X b ts p) (hw : p.Wf ts) (hd : p.depth + f = 16) :
    Calls Try.prog 141 #[.pointer (some ⟨b, 0, none⟩), n.val] w fun e w' => ResD w' X b ts p.delays e (choiceF ts (exprF ts f) p n) ∧ Fr X w w' := by
  have HXL := hide h.xlt
  have HE := hide hE
  have HW := hide hw
  have HT := hide ht
  clear hE hw ht
  go_enter Try.func141, Try.ntmps141
  go_wp2_with fail
  refine (step_any _ (two X w.heap.size) b ts p (h.two _ _) HW.out.next HT.out.1).mono ?_
  rintro e w2 ⟨rfl, hp2, hf2⟩
  go_wp2_with fail
  refine (HE.out w2 _ b (p.adv ts) hp2 (adv_wf HW.out) (by simp; exact hd)).mono ?_
  rintro e w3 ⟨hr, hf3⟩
  have hf := hf2.trans hf3
  clear hf2 hf3 hp2
  cases hx : exprF ts f (p.adv ts) with
  | error k =>
    rw [hx] at hr
    obtain ⟨a, p3, rfl, hp3, hk1, hk2, hk3⟩ := hr
    have HR : Hid (choiceF ts (exprF ts f) p n = .error k) := hide (by unfold choiceF; rw [hx])
    rw [adv_delays] at hk3
    clear hx HE HW HT
    obtain ⟨hb1, hb2⟩ := two_blocks hf
    have HFR := hide (fr_two HXL.out hf)
    have HNX := hide (two_not HXL.out)
    obtain ⟨⟨d0, d1, d2, d3, d4, d5, d6, d7, d8, d9, d10⟩, dF⟩ := row11 hb1
    obtain ⟨⟨r0, r1, r2, r3, r4, r5, r6, r7, r8, r9, r10⟩, rF⟩ := row11 hb2
    clear hb1 hb2
    have hN : two X w.heap.size w.heap.size := .inr (.inl rfl)
    have hN1 : two X w.heap.size (w.heap.size + 1) := .inr (.inr rfl)
    generalize w.heap.size = N at *
    have HP := hide hp3
    have HK := hide hk1
    have HK3 := hide hk3
    clear hp3 hk1 hk3
    go_wp2
    refine bodyPost_ret (v := .tuple #[(n : Nd).val, .bool false]) (by simp [results, Try.results141, go_sem, *]) rfl ?_
    refine ⟨?_, ?_⟩
    · rw [HR.out]
      exact ⟨_, p3, rfl, Par.less (((((((((((HP.out.poke hN1).poke hN1).poke hN1).poke hN1).poke hN1).poke hN1).poke hN1).poke hN1).poke hN1).poke hN1).poke hN1) (fun k hk => .inl hk), HK.out, hk2, HK3.out⟩
    · exact (((((((((((HFR.out.setCell HNX.out.2 _).setCell HNX.out.2 _).setCell HNX.out.2 _).setCell HNX.out.2 _).setCell HNX.out.2 _).setCell HNX.out.2 _).setCell HNX.out.2 _).setCell HNX.out.2 _).setCell HNX.out.2 _).setCell HNX.out.2 _).setCell HNX.out.2 _)
  | ok ap =>
    obtain ⟨a, p1⟩ := ap
    rw [hx] at hr
    obtain ⟨rfl, hp1⟩ := hr
    have hs1 := ((expr_ok HT.out f p.depth hd (p.adv ts) (adv_wf HW.out) (by simp)).1 _ _ hx).1
    have hw1 := hs1.wf (adv_wf HW.out)
    have hdp1 : p1.depth = p.depth := by rw [hs1.depth]; simp
    have HL1 : Hid (p1.delays = p.delays) := hide (by rw [hs1.delays]; simp)
    have HX1 := hide hx
    have HW1 := hide hw1
    have HD1 := hide hdp1
    clear hx hs1 hw1 hdp1
    go_wp2_with fail
    refine (HE.out w3 _ b p1 hp1 HW1.out (by rw [HD1.out]; exact hd)).mono ?_
    rintro e w4 ⟨hr, hf4⟩
    have hf := hf.trans hf4
    clear hf4 hp1
    cases hx : exprF ts f p1 with
    | error k =>
      rw [hx] at hr
      obtain ⟨c, p3, rfl, hp3, hk1, hk2, hk3⟩ := hr
      have HR : Hid (choiceF ts (exprF ts f) p n = .error k) := hide (by unfold choiceF; rw [HX1.out]; simp only; rw [hx])
      rw [HL1.out] at hk3
      clear hx HE HW HT HX1 HW1 HD1
      obtain ⟨hb1, hb2⟩ := two_blocks hf
      have HFR := hide (fr_two HXL.out hf)
      have HNX := hide (two_not HXL.out)
      obtain ⟨⟨d0, d1, d2, d3, d4, d5, d6, d7, d8, d9, d10⟩, dF⟩ := row11 hb1
      obtain ⟨⟨r0, r1, r2, r3, r4, r5, r6, r7, r8, r9, r10⟩, rF⟩ := row11 hb2
      clear hb1 hb2
      have hN : two X w.heap.size w.heap.size := .inr (.inl rfl)
      have hN1 : two X w.heap.size (w.heap.size + 1) := .inr (.inr rfl)
      generalize w.heap.size = N at *
      have HP := hide hp3
      have HK := hide hk1
      have HK3 := hide hk3
      clear hp3 hk1 hk3
      go_wp2
      refine bodyPost_ret (v := .tuple #[(n : Nd).val, .bool false]) (by simp [results, Try.results141, go_sem, *]) rfl ?_
      refine ⟨?_, ?_⟩
      · rw [HR.out]
        exact ⟨_, p3, rfl, Par.less (((((((((((HP.out.poke hN1).poke hN1).poke hN1).poke hN1).poke hN1).poke hN1).poke hN1).poke hN1).poke hN1).poke hN1).poke hN1) (fun k hk => .inl hk), HK.out, hk2, HK3.out⟩
      · exact (((((((((((HFR.out.setCell HNX.out.2 _).setCell HNX.out.2 _).setCell HNX.out.2 _).setCell HNX.out.2 _).setCell HNX.out.2 _).setCell HNX.out.2 _).setCell HNX.out.2 _).setCell HNX.out.2 _).setCell HNX.out.2 _).setCell HNX.out.2 _).setCell HNX.out.2 _)
    | ok ap =>
      obtain ⟨b2, p2⟩ := ap
      rw [hx] at hr
      obtain ⟨rfl, hp2⟩ := hr
      have hs2 := ((expr_ok HT.out f p1.depth (by rw [HD1.out]; exact hd) p1 HW1.out rfl).1 _ _ hx).1
      have hw2 := hs2.wf HW1.out
      have hdp2 : p2.depth = p.depth := by rw [hs2.depth]; exact HD1.out
      have HL2 : Hid (p2.delays = p.delays) := hide (by rw [hs2.delays]; exact HL1.out)
      have HX2 := hide hx
      have HW2 := hide hw2
      have HD2 := hide hdp2
      clear hx hs2 hw2 hdp2
      go_wp2_with fail
      refine (HE.out w4 _ b p2 hp2 HW2.out (by rw [HD2.out]; exact hd)).mono ?_
      rintro e w5 ⟨hr, hf5⟩
      have hf := hf.trans hf5
      clear hf5 hp2
      cases hx : exprF ts f p2 with
      | error k =>
        rw [hx] at hr
        obtain ⟨c, p3, rfl, hp3, hk1, hk2, hk3⟩ := hr
        have HR : Hid (choiceF ts (exprF ts f) p n = .error k) := hide (by unfold choiceF; rw [HX1.out]; simp only; rw [HX2.out]; simp only; rw [hx])
        rw [HL2.out] at hk3
        clear hx HE HW HT HX1 HW1 HD1 HX2 HW2 HD2
        obtain ⟨hb1, hb2⟩ := two_blocks hf
        have HFR := hide (fr_two HXL.out hf)
        have HNX := hide (two_not HXL.out)
        obtain ⟨⟨d0, d1, d2, d3, d4, d5, d6, d7, d8, d9, d10⟩, dF⟩ := row11 hb1
        obtain ⟨⟨r0, r1, r2, r3, r4, r5, r6, r7, r8, r9, r10⟩, rF⟩ := row11 hb2
        clear hb1 hb2
        have hN : two X w.heap.size w.heap.size := .inr (.inl rfl)
        have hN1 : two X w.heap.size (w.heap.size + 1) := .inr (.inr rfl)
        generalize w.heap.size = N at *
        have HP := hide hp3
        have HK := hide hk1
        have HK3 := hide hk3
        clear hp3 hk1 hk3
        go_wp2
        refine bodyPost_ret (v := .tuple #[({ n with kind := 4, a := a, b := b2, c := c } : Nd).val, .bool false]) (by simp [results, Try.results141, go_sem, *]) rfl ?_
        refine ⟨?_, ?_⟩
        · rw [HR.out]
          exact ⟨_, p3, rfl, Par.less (((((((((((((((HP.out.poke hN).poke hN).poke hN).poke hN).poke hN1).poke hN1).poke hN1).poke hN1).poke hN1).poke hN1).poke hN1).poke hN1).poke hN1).poke hN1).poke hN1) (fun k hk => .inl hk), HK.out, hk2, HK3.out⟩
        · exact (((((((((((((((HFR.out.setCell HNX.out.1 _).setCell HNX.out.1 _).setCell HNX.out.1 _).setCell HNX.out.1 _).setCell HNX.out.2 _).setCell HNX.out.2 _).setCell HNX.out.2 _).setCell HNX.out.2 _).setCell HNX.out.2 _).setCell HNX.out.2 _).setCell HNX.out.2 _).setCell HNX.out.2 _).setCell HNX.out.2 _).setCell HNX.out.2 _).setCell HNX.out.2 _)
      | ok ap =>
        obtain ⟨c, p3⟩ := ap
        rw [hx] at hr
        obtain ⟨rfl, hp3⟩ := hr
        have HR : Hid (choiceF ts (exprF ts f) p n = .ok ({ n with kind := 4, a := a, b := b2, c := c }, p3)) := hide (by unfold choiceF; rw [HX1.out]; simp only; rw [HX2.out]; simp only; rw [hx])
        clear hx HE HW HT HX1 HW1 HD1 HX2 HW2 HD2
        obtain ⟨hb1, hb2⟩ := two_blocks hf
        have HFR := hide (fr_two HXL.out hf)
        have HNX := hide (two_not HXL.out)
        obtain ⟨⟨d0, d1, d2, d3, d4, d5, d6, d7, d8, d9, d10⟩, dF⟩ := row11 hb1
        obtain ⟨⟨r0, r1, r2, r3, r4, r5, r6, r7, r8, r9, r10⟩, rF⟩ := row11 hb2
        clear hb1 hb2
        have hN : two X w.heap.size w.heap.size := .inr (.inl rfl)
        have hN1 : two X w.heap.size (w.heap.size + 1) := .inr (.inr rfl)
        generalize w.heap.size = N at *
        have HP := hide hp3
        clear hp3
        go_wp2
        refine bodyPost_ret (v := .tuple #[({ n with kind := 4, a := a, b := b2, c := c } : Nd).val, .bool true]) (by simp [results, Try.results141, go_sem, *]) rfl ?_
        refine ⟨?_, ?_⟩
        · rw [HR.out]
          exact ⟨rfl, Par.less (((((((((((((((HP.out.poke hN).poke hN).poke hN).poke hN).poke hN1).poke hN1).poke hN1).poke hN1).poke hN1).poke hN1).poke hN1).poke hN1).poke hN1).poke hN1).poke hN1) (fun k hk => .inl hk)⟩
        · exact (((((((((((((((HFR.out.setCell HNX.out.1 _).setCell HNX.out.1 _).setCell HNX.out.1 _).setCell HNX.out.1 _).setCell HNX.out.2 _).setCell HNX.out.2 _).setCell HNX.out.2 _).setCell HNX.out.2 _).setCell HNX.out.2 _).setCell HNX.out.2 _).setCell HNX.out.2 _).setCell HNX.out.2 _).setCell HNX.out.2 _).setCell HNX.out.2 _).setCell HNX.out.2 _)
set_option maxHeartbeats 2000000 in
set_option maxRecDepth 100000 in
theorem delay_any {ts : List Tk} (ht : TsOk ts) {f : Nat} (hE : ExprC ts f) (w : World) (X : Nat → Prop) (b : Nat) (p : PS) (n : Nd) (h : Par w X b ts p) (hw : p.Wf ts) (hd : p.depth + f = 16) (hdl : p.delays + 1 ≤ p.depth) :
    Calls Try.prog 144 #[.pointer (some ⟨b, 0, none⟩), n.val] w fun e w' => ResD w' X b ts p.delays e (delayF (exprF ts f) p n) ∧ Fr X w w' := by
  have HE := hide hE
  have HT := hide ht
  have hd16 := hw.depth
  have HW1 : Hid (({ p with delays := p.delays + 1 } : PS).Wf ts) := hide ⟨hw.next, hw.nodes, hw.decls, hdl, hw.depth⟩
  clear hE hw ht
  obtain ⟨vt, vd, vn, hp⟩ := h
  have hb : b < w.heap.size := hp.lt
  have c3 := hp.cell.2.2.2.1
  have f3 := hp.froz 3
  obtain ⟨hs1, hs2⟩ := hp.set (p' := { p with delays := p.delays + 1 }) 3 (.int .i64 ((p.delays : Int) + 1)) rfl rfl (by simp)
  have HP0 := hide hs1
  have HF0 := hide hs2
  clear hp hs1 hs2
  go_enter Try.func144, Try.ntmps144
  go_wp2_with fail
  obtain ⟨w0, hw0⟩ : ∃ w0, w0 = w.setCell ⟨b, 3, none⟩ (.int .i64 ((p.delays : Int) + 1)) := ⟨_, rfl⟩
  have hsz : w.heap.size = w0.heap.size := by rw [hw0]; simp
  rw [← hw0] at HP0 HF0
  rw [← hw0, hsz]
  have HXL0 := hide HP0.out.xlt
  clear hw0 c3 f3 hb hsz
  refine (HE.out _ (two X w0.heap.size) b { p with delays := p.delays + 1 } (Par.two ⟨_, _, _, HP0.out⟩ _ _) HW1.out hd).mono ?_
  rintro e w3 ⟨hr, hf⟩
  cases hx : exprF ts f { p with delays := p.delays + 1 } with
  | ok ap =>
    obtain ⟨r, p3⟩ := ap
    rw [hx] at hr
    obtain ⟨rfl, hp3⟩ := hr
    have hs := ((expr_ok HT.out f p.depth hd _ HW1.out rfl).1 _ _ hx).1
    have HDL : Hid (p3.delays = p.delays + 1) := hide hs.delays
    have HR : Hid (delayF (exprF ts f) p n = .ok ({ n with kind := 5, b := r }, { p3 with delays := p3.delays - 1 })) := hide (by unfold delayF; rw [hx])
    clear hx hs HE HT HW1
    obtain ⟨vt3, vd3, vn3, hv3⟩ := hp3
    have c3 := hv3.cell.2.2.2.1
    have f3 := hv3.froz 3
    have nb1 : b ≠ w0.heap.size := by rintro rfl; exact hv3.xb (.inr (.inl rfl))
    have nb2 : b ≠ w0.heap.size + 1 := by rintro rfl; exact hv3.xb (.inr (.inr rfl))
    have nb3 := nb1.symm
    have nb4 := nb2.symm
    have c3' : w3.cell? ⟨b, 3, none⟩ = some (.int .i64 ((p.delays : Int) + 1)) := by rw [c3, HDL.out]; rfl
    have hset := hv3.set (p' := { p3 with delays := p3.delays - 1 }) 3 (.int .i64 (p.delays : Int)) rfl rfl (by simp [HDL.out])
    have HP : Hid (Par (w3.setCell ⟨b, 3, none⟩ (.int .i64 (p.delays : Int))) (two X w0.heap.size) b ts { p3 with delays := p3.delays - 1 }) := hide ⟨_, _, _, hset.1⟩
    have HFS := hide hset.2
    clear hset hv3 c3
    obtain ⟨hb1, hb2⟩ := two_blocks hf
    have HFR := hide ((HF0.out.trans (fr_two HXL0.out hf)).trans (HFS.out.mono fun k hk => .inl hk))
    have HNX := hide (two_not HXL0.out)
    obtain ⟨⟨d0, d1, d2, d3, d4, d5, d6, d7, d8, d9, d10⟩, dF⟩ := row11 hb1
    obtain ⟨⟨r0, r1, r2, r3, r4, r5, r6, r7, r8, r9, r10⟩, rF⟩ := row11 hb2
    clear hb1 hb2 HFS hf
    have hN : two X w0.heap.size w0.heap.size := .inr (.inl rfl)
    have hN1 : two X w0.heap.size (w0.heap.size + 1) := .inr (.inr rfl)
    generalize w0.heap.size = N at *
    go_wp2
    refine bodyPost_ret (v := .tuple #[({ n with kind := 5, b := r } : Nd).val, .bool true]) (by simp [results, Try.results144, go_sem, *]) rfl ?_
    refine ⟨?_, ?_⟩
    · rw [HR.out]
      exact ⟨rfl, Par.less (((((((((((((HP.out.poke hN).poke hN).poke hN1).poke hN1).poke hN1).poke hN1).poke hN1).poke hN1).poke hN1).poke hN1).poke hN1).poke hN1).poke hN1) (fun k hk => .inl hk)⟩
    · exact (((((((((((((HFR.out.setCell HNX.out.1 _).setCell HNX.out.1 _).setCell HNX.out.2 _).setCell HNX.out.2 _).setCell HNX.out.2 _).setCell HNX.out.2 _).setCell HNX.out.2 _).setCell HNX.out.2 _).setCell HNX.out.2 _).setCell HNX.out.2 _).setCell HNX.out.2 _).setCell HNX.out.2 _).setCell HNX.out.2 _)
  | error k =>
    rw [hx] at hr
    obtain ⟨r, p3, rfl, hp3, hk1, hk2, hk3⟩ := hr
    have HDL : Hid (p3.delays = p.delays + 1) := hide hk3
    have HR : Hid (delayF (exprF ts f) p n = .error k) := hide (by unfold delayF; rw [hx])
    have HK := hide hk1
    have HK3 := hide hk3
    clear hx HE HT HW1 hk1 hk3
    obtain ⟨vt3, vd3, vn3, hv3⟩ := hp3
    have c3 := hv3.cell.2.2.2.1
    have f3 := hv3.froz 3
    have nb1 : b ≠ w0.heap.size := by rintro rfl; exact hv3.xb (.inr (.inl rfl))
    have nb2 : b ≠ w0.heap.size + 1 := by rintro rfl; exact hv3.xb (.inr (.inr rfl))
    have nb3 := nb1.symm
    have nb4 := nb2.symm
    have c3' : w3.cell? ⟨b, 3, none⟩ = some (.int .i64 ((p.delays : Int) + 1)) := by rw [c3, HDL.out]; rfl
    have hset := hv3.set (p' := { p3 with delays := p3.delays - 1 }) 3 (.int .i64 (p.delays : Int)) rfl rfl (by simp [HDL.out])
    have HP : Hid (Par (w3.setCell ⟨b, 3, none⟩ (.int .i64 (p.delays : Int))) (two X w0.heap.size) b ts { p3 with delays := p3.delays - 1 }) := hide ⟨_, _, _, hset.1⟩
    have HFS := hide hset.2
    clear hset hv3 c3
    obtain ⟨hb1, hb2⟩ := two_blocks hf
    have HFR := hide ((HF0.out.trans (fr_two HXL0.out hf)).trans (HFS.out.mono fun k hk => .inl hk))
    have HNX := hide (two_not HXL0.out)
    obtain ⟨⟨d0, d1, d2, d3, d4, d5, d6, d7, d8, d9, d10⟩, dF⟩ := row11 hb1
    obtain ⟨⟨r0, r1, r2, r3, r4, r5, r6, r7, r8, r9, r10⟩, rF⟩ := row11 hb2
    clear hb1 hb2 HFS hf
    have hN : two X w0.heap.size w0.heap.size := .inr (.inl rfl)
    have hN1 : two X w0.heap.size (w0.heap.size + 1) := .inr (.inr rfl)
    generalize w0.heap.size = N at *
    go_wp2
    refine bodyPost_ret (v := .tuple #[({ n with kind := 5, b := r } : Nd).val, .bool false]) (by simp [results, Try.results144, go_sem, *]) rfl ?_
    refine ⟨?_, ?_⟩
    · rw [HR.out]
      exact ⟨_, _, rfl, Par.less (((((((((((((HP.out.poke hN).poke hN).poke hN1).poke hN1).poke hN1).poke hN1).poke hN1).poke hN1).poke hN1).poke hN1).poke hN1).poke hN1).poke hN1) (fun k hk => .inl hk), HK.out, hk2, by simp [HK3.out]⟩
    · exact (((((((((((((HFR.out.setCell HNX.out.1 _).setCell HNX.out.1 _).setCell HNX.out.2 _).setCell HNX.out.2 _).setCell HNX.out.2 _).setCell HNX.out.2 _).setCell HNX.out.2 _).setCell HNX.out.2 _).setCell HNX.out.2 _).setCell HNX.out.2 _).setCell HNX.out.2 _).setCell HNX.out.2 _).setCell HNX.out.2 _)
end Go.Proofs.Ytmndgoapkmhglab
