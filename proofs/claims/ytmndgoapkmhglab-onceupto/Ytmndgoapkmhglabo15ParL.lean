import Derived.Test.Ytmndgoapkmhglabo14ParJ
namespace Go.Proofs.Ytmndgoapkmhglab
open Go.RowKit
attribute [local go_sem ↓] Go.wp_at_zero Go.wp_at_succ
attribute [local go_sem] Try.fieldTok0 Try.fieldTok1 Try.fieldTok2
set_option maxHeartbeats 1000000 in
set_option maxRecDepth 100000 in
theorem bracket_deep {ts : List Tk} (w : World) (X : Nat → Prop) (b : Nat) (p : PS) (h : Par w X b ts p) (hd : p.depth = 16) :
    Calls Try.prog 136 #[.pointer (some ⟨b, 0, none⟩)] w fun e w' => e = .returned (.tuple #[.int .i64 0, .bool false]) ∧ w = w' := by
  have c2 : w.cell? ⟨b, 2, none⟩ = some (.int .i64 16) := by obtain ⟨_, _, _, hp⟩ := h; rw [hp.cell.2.2.1, hd]; rfl
  clear h hd
  go_enter Try.func136, Try.ntmps136
  go_wp2
  go_ret2
  exact ⟨rfl, rfl⟩
def BrC (ts : List Tk) (p : PS) (br : Except Nat (Nat × PS)) : Prop :=
  ∀ (w : World) (X : Nat → Prop) (b : Nat), Par w X b ts p → Calls Try.prog 136 #[.pointer (some ⟨b, 0, none⟩)] w fun e w' => ResN w' X b ts p.delays e br ∧ Fr X w w'
set_option maxHeartbeats 2000000 in
set_option maxRecDepth 100000 in
theorem atom_any {ts : List Tk} (ht : TsOk ts) (hdg : TsDig ts) (w : World) (X : Nat → Prop) (b : Nat) (p : PS) (h : Par w X b ts p) (hw : p.Wf ts) (br : Except Nat (Nat × PS)) (hbr : (p.hd ts).l = [40] → BrC ts p br) :
    Calls Try.prog 131 #[.pointer (some ⟨b, 0, none⟩)] w fun e w' => ResN w' X b ts p.delays e (atomF ts p br) ∧ Fr X w w' := by
  by_cases h1 : (p.hd ts).l = [40]
  · have HR : Hid (atomF ts p br = br) := hide (by unfold atomF; rw [if_pos h1])
    have HBR := hide (hbr h1)
    have q1 := str_yes h1
    clear h1 hbr
    go_enter Try.func131, Try.ntmps131
    go_wp2_with fail
    refine (here_any _ _ b ts p h hw.next ht.1).mono ?_
    rintro e w1 ⟨rfl, hb1⟩
    have hP1 := fun o => (h.below hb1).below (((Below.refl w1.heap.size w1).alloc (Nat.le_refl _) o))
    have hF1 := fun o => Fr.of_below (X := X) (hb1.alloc hb1.size o) h.xlt
    have HP1 := hide hP1
    have HF1 := hide hF1
    clear hb1 hP1 hF1
    go_wp2_with fail
    refine (HBR.out _ X b (HP1.out _)).mono ?_
    rintro e w2 ⟨hr, hf2⟩
    cases hy : br with
    | error k =>
      rw [hy] at hr
      obtain ⟨v, p', rfl, hp', hk1, hk2, hk3⟩ := hr
      have HP := hide hp'
      have HK1 := hide hk1
      have HK3 := hide hk3
      have HY := hide hy
      clear hp' hk1 hk3 hy
      go_wp2_with fail
      go_ret2
      refine ⟨?_, (HF1.out _).trans hf2⟩
      rw [HR.out, HY.out]
      exact ⟨v, p', rfl, HP.out, HK1.out, hk2, HK3.out⟩
    | ok rp =>
      obtain ⟨r, p'⟩ := rp
      rw [hy] at hr
      obtain ⟨rfl, hp'⟩ := hr
      have HP := hide hp'
      have HY := hide hy
      clear hp' hy
      go_wp2_with fail
      go_ret2
      refine ⟨?_, (HF1.out _).trans hf2⟩
      rw [HR.out, HY.out]
      exact ⟨rfl, HP.out⟩
  have q1 := str_no h1
  clear hbr
  by_cases h2 : (p.hd ts).l = kTrue
  · have HR : Hid (atomF ts p br = .ok (leafF ts p { ndZero with kind := 1, value := 1 })) := hide (by unfold atomF; rw [if_neg h1, if_pos h2])
    have q2 := str_yes h2
    simp only [kTrue] at q2
    clear h1 h2 q1
    go_enter Try.func131, Try.ntmps131
    go_wp2_with fail
    refine (here_any _ _ b ts p h hw.next ht.1).mono ?_
    rintro e w1 ⟨rfl, hb1⟩
    have hP1 := fun o => (h.below hb1).below (((Below.refl w1.heap.size w1).alloc (Nat.le_refl _) o))
    have hF1 := fun o => Fr.of_below (X := X) (hb1.alloc hb1.size o) h.xlt
    have HP1 := hide hP1
    have HF1 := hide hF1
    clear hb1 hP1 hF1
    go_wp2_with fail
    refine (leaf_any _ X b ts p { ndZero with kind := 1, value := 1 } (HP1.out _) hw.next ht.1 (by have := hw.nodes; have := hw.next; have := ht.1; omega)).mono ?_
    rintro e w2 ⟨rfl, hp2, hf2⟩
    go_wp2_with fail
    go_ret2
    refine ⟨?_, (HF1.out _).trans hf2⟩
    rw [HR.out]
    exact ⟨rfl, hp2⟩
  have q2 := str_no h2
  simp only [kTrue] at q2
  by_cases h3 : (p.hd ts).l = kFalse
  · have HR : Hid (atomF ts p br = .ok (leafF ts p { ndZero with kind := 1 })) := hide (by unfold atomF; rw [if_neg h1, if_neg h2, if_pos h3])
    have q3 := str_yes h3
    simp only [kFalse] at q3
    clear h1 h2 h3 q1 q2
    go_enter Try.func131, Try.ntmps131
    go_wp2_with fail
    refine (here_any _ _ b ts p h hw.next ht.1).mono ?_
    rintro e w1 ⟨rfl, hb1⟩
    have hP1 := fun o => (h.below hb1).below (((Below.refl w1.heap.size w1).alloc (Nat.le_refl _) o))
    have hF1 := fun o => Fr.of_below (X := X) (hb1.alloc hb1.size o) h.xlt
    have HP1 := hide hP1
    have HF1 := hide hF1
    clear hb1 hP1 hF1
    go_wp2_with fail
    refine (leaf_any _ X b ts p { ndZero with kind := 1 } (HP1.out _) hw.next ht.1 (by have := hw.nodes; have := hw.next; have := ht.1; omega)).mono ?_
    rintro e w2 ⟨rfl, hp2, hf2⟩
    go_wp2_with fail
    go_ret2
    refine ⟨?_, (HF1.out _).trans hf2⟩
    rw [HR.out]
    exact ⟨rfl, hp2⟩
  have q3 := str_no h3
  simp only [kFalse] at q3
  by_cases h4 : (p.hd ts).kind = 3
  · have HR : Hid (atomF ts p br = .ok (leafF ts p { ndZero with kind := 0, value := valOf (p.hd ts).text.data.toList })) := hide (by unfold atomF; rw [if_neg h1, if_neg h2, if_neg h3, if_pos h4]; rfl)
    obtain ⟨hd1, hd2⟩ : (p.hd ts).text.size ≤ 18 ∧ ∀ c ∈ (p.hd ts).text.data.toList, 48 ≤ c.toNat ∧ c.toNat ≤ 57 := hdg _ hw.next h4
    have q4 : (((p.hd ts).kind : Int) == 3) = true := by rw [h4]; rfl
    clear h1 h2 h3 h4
    go_enter Try.func131, Try.ntmps131
    go_wp2_with fail
    refine (here_any _ _ b ts p h hw.next ht.1).mono ?_
    rintro e w1 ⟨rfl, hb1⟩
    have hP1 := fun o => (h.below hb1).below (((Below.refl w1.heap.size w1).alloc (Nat.le_refl _) o))
    have hF1 := fun o => Fr.of_below (X := X) (hb1.alloc hb1.size o) h.xlt
    have HP1 := hide hP1
    have HF1 := hide hF1
    clear hb1 hP1 hF1
    go_wp2_with fail
    refine (valueOf_any _ _ hd1 hd2).mono ?_
    rintro e w2 ⟨rfl, rfl⟩
    go_wp2_with fail
    refine (leaf_any _ X b ts p { ndZero with kind := 0, value := valOf (p.hd ts).text.data.toList } (HP1.out _) hw.next ht.1 (by have := hw.nodes; have := hw.next; have := ht.1; omega)).mono ?_
    rintro e w2 ⟨rfl, hp2, hf2⟩
    go_wp2_with fail
    go_ret2
    refine ⟨?_, (HF1.out _).trans hf2⟩
    rw [HR.out]
    exact ⟨rfl, hp2⟩
  have q4 : (((p.hd ts).kind : Int) == 3) = false := by rw [beq_eq_false_iff_ne]; omega
  by_cases h5 : (p.hd ts).kind = 1
  · have HR : Hid (atomF ts p br = .ok (leafF ts p { ndZero with kind := 2, name := (p.hd ts).text })) := hide (by unfold atomF; rw [if_neg h1, if_neg h2, if_neg h3, if_neg h4, if_pos h5])
    have q5 : (((p.hd ts).kind : Int) == 1) = true := by rw [h5]; rfl
    clear h1 h2 h3 h4 h5
    go_enter Try.func131, Try.ntmps131
    go_wp2_with fail
    refine (here_any _ _ b ts p h hw.next ht.1).mono ?_
    rintro e w1 ⟨rfl, hb1⟩
    have hP1 := fun o => (h.below hb1).below (((Below.refl w1.heap.size w1).alloc (Nat.le_refl _) o))
    have hF1 := fun o => Fr.of_below (X := X) (hb1.alloc hb1.size o) h.xlt
    have HP1 := hide hP1
    have HF1 := hide hF1
    clear hb1 hP1 hF1
    go_wp2_with fail
    refine (leaf_any _ X b ts p { ndZero with kind := 2, name := (p.hd ts).text } (HP1.out _) hw.next ht.1 (by have := hw.nodes; have := hw.next; have := ht.1; omega)).mono ?_
    rintro e w2 ⟨rfl, hp2, hf2⟩
    go_wp2_with fail
    go_ret2
    refine ⟨?_, (HF1.out _).trans hf2⟩
    rw [HR.out]
    exact ⟨rfl, hp2⟩
  · have HR : Hid (atomF ts p br = .error p.next) := hide (by unfold atomF; rw [if_neg h1, if_neg h2, if_neg h3, if_neg h4, if_neg h5])
    have q5 : (((p.hd ts).kind : Int) == 1) = false := by rw [beq_eq_false_iff_ne]; omega
    clear h1 h2 h3 h4 h5
    go_enter Try.func131, Try.ntmps131
    go_wp2_with fail
    refine (here_any _ _ b ts p h hw.next ht.1).mono ?_
    rintro e w1 ⟨rfl, hb1⟩
    have hP1 := fun o => (h.below hb1).below (((Below.refl w1.heap.size w1).alloc (Nat.le_refl _) o))
    have hF1 := fun o => Fr.of_below (X := X) (hb1.alloc hb1.size o) h.xlt
    have HP1 := hide hP1
    have HF1 := hide hF1
    clear hb1 hP1 hF1
    go_wp2_with fail
    go_ret2
    refine ⟨?_, HF1.out _⟩
    rw [HR.out]
    exact ⟨0, p, rfl, HP1.out _, rfl, hw.next, rfl⟩
theorem expr_any {ts : List Tk} (ht : TsOk ts) (hdg : TsDig ts) : ∀ f, ExprC ts f := by
  intro f
  induction f with
  | zero =>
    intro w X b p h hw hd
    refine atom_any ht hdg w X b p h hw (.error p.next) (fun _ => ?_)
    intro w X b h
    refine (bracket_deep w X b p h (by omega)).mono ?_
    rintro e w' ⟨rfl, rfl⟩
    exact ⟨⟨0, p, rfl, h, rfl, hw.next, rfl⟩, Fr.refl _ _⟩
  | succ f ih =>
    intro w X b p h hw hd
    refine atom_any ht hdg w X b p h hw _ (fun hk => ?_)
    intro w X b h
    exact bracket_any ht ih w X b p h hw (by omega) hk
theorem row3 {w : World} {N : Nat} {a0 a1 a2 : Value} {t : TypeId} (h : w.heap[N]? = some (.cells #[a0, a1, a2] t)) :
    w.cell? ⟨N, 0, none⟩ = some a0 ∧ w.cell? ⟨N, 1, none⟩ = some a1 ∧ w.cell? ⟨N, 2, none⟩ = some a2 := by
  refine ⟨?_, ?_, ?_⟩ <;> (rw [cell_of_row w N _ _ _ _ h]; rfl)
set_option maxHeartbeats 1000000 in
set_option maxRecDepth 100000 in
theorem input_any {ts : List Tk} (ht : TsOk ts) (w : World) (X : Nat → Prop) (b : Nat) (p : PS) (h : Par w X b ts p) (hw : p.Wf ts) :
    Calls Try.prog 108 #[.pointer (some ⟨b, 0, none⟩)] w fun e w' =>
      Res w' X b ts p.delays e (fun _ => .bool true) (fun e => e = .returned (.bool false)) (inputF ts p) ∧ Fr X w w' := by
  have hw1 := adv_wf hw
  have hw2 := adv_wf hw1
  have hdl : ((p.adv ts).adv ts).decls.length ≤ 1501 := by have := hw2.decls; have := hw2.next; have := ht.1; omega
  by_cases hk : ((p.adv ts).hd ts).kind = 1
  · have HR : Hid (inputF ts p = PS.take ts (((p.adv ts).adv ts).declare ⟨0, 0, ((p.adv ts).hd ts).text, ((p.adv ts).hd ts).pos, 0, 0, 0⟩) [59]) := hide (by unfold inputF; rw [if_pos hk])
    have q1 : ((((p.adv ts).hd ts).kind : Int) != 1) = false := by rw [hk]; rfl
    clear hk
    go_enter Try.func108, Try.ntmps108
    go_wp2_with fail
    refine (step_any _ X b ts p h hw.next ht.1).mono ?_
    rintro e w1 ⟨rfl, hp1, hf1⟩
    go_wp2_with fail
    refine (here_any _ _ b ts (p.adv ts) hp1 hw1.next ht.1).mono ?_
    rintro e w2 ⟨rfl, hb2⟩
    have hP2 := hp1.below hb2
    have hF2 : Fr X w w2 := hf1.trans (hp1.fr hb2)
    clear hb2 hf1 hp1
    go_wp2_with fail
    refine (step_any _ (one X w2.heap.size) b ts (p.adv ts) (hP2.one _) hw1.next ht.1).mono ?_
    rintro e w3 ⟨rfl, hp3, hf3⟩
    have hN3 := (hf3.block _ (.inr rfl)).trans (heap_alloc_new w2 _)
    have hF3 : Fr X w w3 := hF2.trans ((Fr.of_below ((Below.refl _ _).alloc (Nat.le_refl _) _) hP2.xlt).trans (hf3.mono fun k hk => .inl hk))
    obtain ⟨d0, d1, d2⟩ := row3 hN3
    clear hf3 hF2 hP2 hN3
    go_wp2_with fail
    refine (declare_any _ _ b ts ((p.adv ts).adv ts) ⟨0, 0, ((p.adv ts).hd ts).text, ((p.adv ts).hd ts).pos, 0, 0, 0⟩ hp3 hdl rfl).mono ?_
    rintro e w4 ⟨rfl, hp4, hf4⟩
    have hF4 := hF3.trans (hf4.mono fun k hk => .inl hk)
    clear hF3 hf4 d0 d1 d2 hp3
    go_wp2_with fail
    refine (take_any _ _ b ts _ [59] hp4 hw2.next ht.1).mono ?_
    rintro e w5 ⟨hr, hf5⟩
    have HF5 := hide (hF4.trans (hf5.mono fun k hk => .inl hk))
    clear hF4 hf5
    cases hy : PS.take ts (((p.adv ts).adv ts).declare ⟨0, 0, ((p.adv ts).hd ts).text, ((p.adv ts).hd ts).pos, 0, 0, 0⟩) [59] with
    | error k =>
      rw [hy] at hr
      obtain ⟨rfl, p', hp', hk1, hk2, hk3⟩ := hr
      have HP := hide hp'
      have HY := hide hy
      have HK1 := hide hk1
      have HK3 := hide hk3
      clear hp' hy hk1 hk3
      go_wp2_with fail
      go_ret
      refine ⟨?_, HF5.out⟩
      rw [HR.out, HY.out]
      exact ⟨rfl, p', Par.less HP.out (fun k hk => .inl hk), HK1.out, hk2, by rw [HK3.out]; simp [PS.declare]⟩
    | ok p' =>
      rw [hy] at hr
      obtain ⟨rfl, hp'⟩ := hr
      have HP := hide hp'
      have HY := hide hy
      clear hp' hy
      go_wp2_with fail
      go_ret
      refine ⟨?_, HF5.out⟩
      rw [HR.out, HY.out]
      exact ⟨rfl, Par.less HP.out (fun k hk => .inl hk)⟩
  · have HR : Hid (inputF ts p = .error (p.adv ts).next) := hide (by unfold inputF; rw [if_neg hk])
    have q1 : ((((p.adv ts).hd ts).kind : Int) != 1) = true := by rw [bne_iff_ne]; omega
    clear hk
    go_enter Try.func108, Try.ntmps108
    go_wp2_with fail
    refine (step_any _ X b ts p h hw.next ht.1).mono ?_
    rintro e w1 ⟨rfl, hp1, hf1⟩
    go_wp2_with fail
    refine (here_any _ _ b ts (p.adv ts) hp1 hw1.next ht.1).mono ?_
    rintro e w2 ⟨rfl, hb2⟩
    have hP2 := hp1.below hb2
    have hF2 : Fr X w w2 := hf1.trans (hp1.fr hb2)
    clear hb2 hf1 hp1
    go_wp2_with fail
    go_ret
    refine ⟨?_, hF2.trans (Fr.of_below ((Below.refl _ _).alloc (Nat.le_refl _) _) hP2.xlt)⟩
    rw [HR.out]
    exact ⟨rfl, p.adv ts, hP2.below ((Below.refl _ _).alloc (Nat.le_refl _) _), rfl, hw1.next, by simp⟩
end Go.Proofs.Ytmndgoapkmhglab
