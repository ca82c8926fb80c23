import Derived.Test.YtbmhafagdchjfaaParJ
namespace Go.Proofs.Ytbmhafagdchjfaa
open Go.RowKit
attribute [local go_sem ↓] Go.wp_at_zero Go.wp_at_succ
attribute [local go_sem] Try.fieldTok0 Try.fieldTok1 Try.fieldTok2

set_option maxHeartbeats 1000000 in
set_option maxRecDepth 100000 in
theorem bracket_deep {ts : List Tk} (w : World) (X : Nat → Prop) (b : Nat) (p : PS) (h : Par w X b ts p) (hd : p.depth = 16) :
    Calls Try.prog 92 #[.pointer (some ⟨b, 0, none⟩)] w fun e w' => e = .returned (.tuple #[.int .i64 0, .bool false]) ∧ w = w' := by
  have c2 : w.cell? ⟨b, 2, none⟩ = some (.int .i64 16) := by obtain ⟨_, _, _, hp⟩ := h; rw [hp.cell.2.2.1, hd]; rfl
  clear h hd
  go_enter Try.func92, Try.ntmps92
  go_wp2
  go_ret2
  exact ⟨rfl, rfl⟩

/-- what expr does but for the brackets. -/
def BrC (ts : List Tk) (p : PS) (br : Except Nat (Nat × PS)) : Prop :=
  ∀ (w : World) (X : Nat → Prop) (b : Nat), Par w X b ts p → Calls Try.prog 92 #[.pointer (some ⟨b, 0, none⟩)] w fun e w' => ResN w' X b ts p.delays e br ∧ Fr X w w'

set_option maxHeartbeats 2000000 in
set_option maxRecDepth 100000 in
theorem atom_any {ts : List Tk} (ht : TsOk ts) (hdg : TsDig ts) (w : World) (X : Nat → Prop) (b : Nat) (p : PS) (h : Par w X b ts p) (hw : p.Wf ts) (br : Except Nat (Nat × PS)) (hbr : (p.hd ts).l = [40] → BrC ts p br) :
    Calls Try.prog 87 #[.pointer (some ⟨b, 0, none⟩)] w fun e w' => ResN w' X b ts p.delays e (atomF ts p br) ∧ Fr X w w' := by
  by_cases h1 : (p.hd ts).l = [40]
  · have HR : Hid (atomF ts p br = br) := hide (by unfold atomF; rw [if_pos h1])
    have HBR := hide (hbr h1)
    have q1 := str_yes h1
    clear h1 hbr
    go_enter Try.func87, Try.ntmps87
    go_wp2_with fail
    refine (here_any _ _ b ts p h hw.next ht.1).mono ?_
    rintro e w1 ⟨rfl, hb1⟩
    have hP1 := fun o => (h.below hb1).below (((Below.refl w1.heap.size w1).alloc (Nat.le_refl _) o))
    have hF1 := fun o => Fr.of_below (X := X) (hb1.alloc hb1.size o) h.xlt
    have HP1 := hide hP1
    have HF1 := hide hF1
    clear hb1 hP1 hF1
    go_wp2_with fail
    refine (HBR.out _ X b (HP1.out _)).mono ?_
    rintro e w2 ⟨hr, hf2⟩
    cases hy : br with
    | error k =>
      rw [hy] at hr
      obtain ⟨v, p', rfl, hp', hk1, hk2, hk3⟩ := hr
      have HP := hide hp'
      have HK1 := hide hk1
      have HK3 := hide hk3
      have HY := hide hy
      clear hp' hk1 hk3 hy
      go_wp2_with fail
      go_ret2
      refine ⟨?_, (HF1.out _).trans hf2⟩
      rw [HR.out, HY.out]
      exact ⟨v, p', rfl, HP.out, HK1.out, hk2, HK3.out⟩
    | ok rp =>
      obtain ⟨r, p'⟩ := rp
      rw [hy] at hr
      obtain ⟨rfl, hp'⟩ := hr
      have HP := hide hp'
      have HY := hide hy
      clear hp' hy
      go_wp2_with fail
      go_ret2
      refine ⟨?_, (HF1.out _).trans hf2⟩
      rw [HR.out, HY.out]
      exact ⟨rfl, HP.out⟩
  have q1 := str_no h1
  clear hbr
  by_cases h2 : (p.hd ts).l = kTrue
  · have HR : Hid (atomF ts p br = .ok (leafF ts p { ndZero with kind := 1, value := 1 })) := hide (by unfold atomF; rw [if_neg h1, if_pos h2])
    have q2 := str_yes h2
    simp only [kTrue] at q2
    clear h1 h2 q1
    go_enter Try.func87, Try.ntmps87
    go_wp2_with fail
    refine (here_any _ _ b ts p h hw.next ht.1).mono ?_
    rintro e w1 ⟨rfl, hb1⟩
    have hP1 := fun o => (h.below hb1).below (((Below.refl w1.heap.size w1).alloc (Nat.le_refl _) o))
    have hF1 := fun o => Fr.of_below (X := X) (hb1.alloc hb1.size o) h.xlt
    have HP1 := hide hP1
    have HF1 := hide hF1
    clear hb1 hP1 hF1
    go_wp2_with fail
    refine (leaf_any _ X b ts p { ndZero with kind := 1, value := 1 } (HP1.out _) hw.next ht.1 (by have := hw.nodes; have := hw.next; have := ht.1; omega)).mono ?_
    rintro e w2 ⟨rfl, hp2, hf2⟩
    go_wp2_with fail
    go_ret2
    refine ⟨?_, (HF1.out _).trans hf2⟩
    rw [HR.out]
    exact ⟨rfl, hp2⟩
  have q2 := str_no h2
  simp only [kTrue] at q2
  by_cases h3 : (p.hd ts).l = kFalse
  · have HR : Hid (atomF ts p br = .ok (leafF ts p { ndZero with kind := 1 })) := hide (by unfold atomF; rw [if_neg h1, if_neg h2, if_pos h3])
    have q3 := str_yes h3
    simp only [kFalse] at q3
    clear h1 h2 h3 q1 q2
    go_enter Try.func87, Try.ntmps87
    go_wp2_with fail
    refine (here_any _ _ b ts p h hw.next ht.1).mono ?_
    rintro e w1 ⟨rfl, hb1⟩
    have hP1 := fun o => (h.below hb1).below (((Below.refl w1.heap.size w1).alloc (Nat.le_refl _) o))
    have hF1 := fun o => Fr.of_below (X := X) (hb1.alloc hb1.size o) h.xlt
    have HP1 := hide hP1
    have HF1 := hide hF1
    clear hb1 hP1 hF1
    go_wp2_with fail
    refine (leaf_any _ X b ts p { ndZero with kind := 1 } (HP1.out _) hw.next ht.1 (by have := hw.nodes; have := hw.next; have := ht.1; omega)).mono ?_
    rintro e w2 ⟨rfl, hp2, hf2⟩
    go_wp2_with fail
    go_ret2
    refine ⟨?_, (HF1.out _).trans hf2⟩
    rw [HR.out]
    exact ⟨rfl, hp2⟩
  have q3 := str_no h3
  simp only [kFalse] at q3
  by_cases h4 : (p.hd ts).kind = 3
  · have HR : Hid (atomF ts p br = .ok (leafF ts p { ndZero with kind := 0, value := valOf (p.hd ts).text.data.toList })) := hide (by unfold atomF; rw [if_neg h1, if_neg h2, if_neg h3, if_pos h4]; rfl)
    obtain ⟨hd1, hd2⟩ : (p.hd ts).text.size ≤ 18 ∧ ∀ c ∈ (p.hd ts).text.data.toList, 48 ≤ c.toNat ∧ c.toNat ≤ 57 := hdg _ hw.next h4
    have q4 : (((p.hd ts).kind : Int) == 3) = true := by rw [h4]; rfl
    clear h1 h2 h3 h4
    go_enter Try.func87, Try.ntmps87
    go_wp2_with fail
    refine (here_any _ _ b ts p h hw.next ht.1).mono ?_
    rintro e w1 ⟨rfl, hb1⟩
    have hP1 := fun o => (h.below hb1).below (((Below.refl w1.heap.size w1).alloc (Nat.le_refl _) o))
    have hF1 := fun o => Fr.of_below (X := X) (hb1.alloc hb1.size o) h.xlt
    have HP1 := hide hP1
    have HF1 := hide hF1
    clear hb1 hP1 hF1
    go_wp2_with fail
    refine (valueOf_any _ _ hd1 hd2).mono ?_
    rintro e w2 ⟨rfl, rfl⟩
    go_wp2_with fail
    refine (leaf_any _ X b ts p { ndZero with kind := 0, value := valOf (p.hd ts).text.data.toList } (HP1.out _) hw.next ht.1 (by have := hw.nodes; have := hw.next; have := ht.1; omega)).mono ?_
    rintro e w2 ⟨rfl, hp2, hf2⟩
    go_wp2_with fail
    go_ret2
    refine ⟨?_, (HF1.out _).trans hf2⟩
    rw [HR.out]
    exact ⟨rfl, hp2⟩
  have q4 : (((p.hd ts).kind : Int) == 3) = false := by rw [beq_eq_false_iff_ne]; omega
  by_cases h5 : (p.hd ts).kind = 1
  · have HR : Hid (atomF ts p br = .ok (leafF ts p { ndZero with kind := 2, name := (p.hd ts).text })) := hide (by unfold atomF; rw [if_neg h1, if_neg h2, if_neg h3, if_neg h4, if_pos h5])
    have q5 : (((p.hd ts).kind : Int) == 1) = true := by rw [h5]; rfl
    clear h1 h2 h3 h4 h5
    go_enter Try.func87, Try.ntmps87
    go_wp2_with fail
    refine (here_any _ _ b ts p h hw.next ht.1).mono ?_
    rintro e w1 ⟨rfl, hb1⟩
    have hP1 := fun o => (h.below hb1).below (((Below.refl w1.heap.size w1).alloc (Nat.le_refl _) o))
    have hF1 := fun o => Fr.of_below (X := X) (hb1.alloc hb1.size o) h.xlt
    have HP1 := hide hP1
    have HF1 := hide hF1
    clear hb1 hP1 hF1
    go_wp2_with fail
    refine (leaf_any _ X b ts p { ndZero with kind := 2, name := (p.hd ts).text } (HP1.out _) hw.next ht.1 (by have := hw.nodes; have := hw.next; have := ht.1; omega)).mono ?_
    rintro e w2 ⟨rfl, hp2, hf2⟩
    go_wp2_with fail
    go_ret2
    refine ⟨?_, (HF1.out _).trans hf2⟩
    rw [HR.out]
    exact ⟨rfl, hp2⟩
  · have HR : Hid (atomF ts p br = .error p.next) := hide (by unfold atomF; rw [if_neg h1, if_neg h2, if_neg h3, if_neg h4, if_neg h5])
    have q5 : (((p.hd ts).kind : Int) == 1) = false := by rw [beq_eq_false_iff_ne]; omega
    clear h1 h2 h3 h4 h5
    go_enter Try.func87, Try.ntmps87
    go_wp2_with fail
    refine (here_any _ _ b ts p h hw.next ht.1).mono ?_
    rintro e w1 ⟨rfl, hb1⟩
    have hP1 := fun o => (h.below hb1).below (((Below.refl w1.heap.size w1).alloc (Nat.le_refl _) o))
    have hF1 := fun o => Fr.of_below (X := X) (hb1.alloc hb1.size o) h.xlt
    have HP1 := hide hP1
    have HF1 := hide hF1
    clear hb1 hP1 hF1
    go_wp2_with fail
    go_ret2
    refine ⟨?_, HF1.out _⟩
    rw [HR.out]
    exact ⟨0, p, rfl, HP1.out _, rfl, hw.next, rfl⟩

theorem expr_any {ts : List Tk} (ht : TsOk ts) (hdg : TsDig ts) : ∀ f, ExprC ts f := by
  intro f
  induction f with
  | zero =>
    intro w X b p h hw hd
    refine atom_any ht hdg w X b p h hw (.error p.next) (fun _ => ?_)
    intro w X b h
    refine (bracket_deep w X b p h (by omega)).mono ?_
    rintro e w' ⟨rfl, rfl⟩
    exact ⟨⟨0, p, rfl, h, rfl, hw.next, rfl⟩, Fr.refl _ _⟩
  | succ f ih =>
    intro w X b p h hw hd
    refine atom_any ht hdg w X b p h hw _ (fun hk => ?_)
    intro w X b h
    exact bracket_any ht ih w X b p h hw (by omega) hk

end Go.Proofs.Ytbmhafagdchjfaa
