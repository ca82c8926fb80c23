import Derived.Deep.LoopGhost
import Derived.Test.Ytmndgoapkmhglabc05Bytes
import Derived.Test.Ytmndgoapkmhglabc20ParJ
namespace Go.Proofs.Ytmndgoapkmhglab
open Go.RowKit
attribute [local go_sem ↓] Go.wp_at_zero Go.wp_at_succ
attribute [local go_sem] Try.fieldTok0 Try.fieldTok1 Try.fieldTok2
set_option maxHeartbeats 1000000 in
set_option maxRecDepth 100000 in
theorem bracket_deep {ts : List Tk} (w : World) (X : Nat → Prop) (b : Nat) (p : PS) (h : Par w X b ts p) (hd : p.depth = 16) :
    Calls Try.prog 136 #[.pointer (some ⟨b, 0, none⟩)] w fun e w' => e = .returned (.tuple #[.int .i64 0, .bool false]) ∧ w = w' := by
  have c2 : w.cell? ⟨b, 2, none⟩ = some (.int .i64 16) := by obtain ⟨_, _, _, hp⟩ := h; rw [hp.cell.2.2.1, hd]; rfl
  clear h hd
  go_enter Try.func136, Try.ntmps136
  go_wp2
  go_ret2
  exact ⟨rfl, rfl⟩
def BrC (ts : List Tk) (p : PS) (br : Except Nat (Nat × PS)) : Prop :=
  ∀ (w : World) (X : Nat → Prop) (b : Nat), Par w X b ts p → Calls Try.prog 136 #[.pointer (some ⟨b, 0, none⟩)] w fun e w' => ResN w' X b ts p.delays e br ∧ Fr X w w'
set_option maxHeartbeats 2000000 in
set_option maxRecDepth 100000 in
theorem atom_any {ts : List Tk} (ht : TsOk ts) (hdg : TsDig ts) (w : World) (X : Nat → Prop) (b : Nat) (p : PS) (h : Par w X b ts p) (hw : p.Wf ts) (br : Except Nat (Nat × PS)) (hbr : (p.hd ts).l = [40] → BrC ts p br) :
    Calls Try.prog 131 #[.pointer (some ⟨b, 0, none⟩)] w fun e w' => ResN w' X b ts p.delays e (atomF ts p br) ∧ Fr X w w' := by
  by_cases h1 : (p.hd ts).l = [40]
  · have HR : Hid (atomF ts p br = br) := hide (by unfold atomF; rw [if_pos h1])
    have HBR := hide (hbr h1)
    have q1 := str_yes h1
    clear h1 hbr
    go_enter Try.func131, Try.ntmps131
    go_wp2_with fail
    refine (here_any _ _ b ts p h hw.next ht.1).mono ?_
    rintro e w1 ⟨rfl, hb1⟩
    have hP1 := fun o => (h.below hb1).below (((Below.refl w1.heap.size w1).alloc (Nat.le_refl _) o))
    have hF1 := fun o => Fr.of_below (X := X) (hb1.alloc hb1.size o) h.xlt
    have HP1 := hide hP1
    have HF1 := hide hF1
    clear hb1 hP1 hF1
    go_wp2_with fail
    refine (HBR.out _ X b (HP1.out _)).mono ?_
    rintro e w2 ⟨hr, hf2⟩
    cases hy : br with
    | error k =>
      rw [hy] at hr
      obtain ⟨v, p', rfl, hp', hk1, hk2, hk3⟩ := hr
      have HP := hide hp'
      have HK1 := hide hk1
      have HK3 := hide hk3
      have HY := hide hy
      clear hp' hk1 hk3 hy
      go_wp2_with fail
      go_ret2
      refine ⟨?_, (HF1.out _).trans hf2⟩
      rw [HR.out, HY.out]
      exact ⟨v, p', rfl, HP.out, HK1.out, hk2, HK3.out⟩
    | ok rp =>
      obtain ⟨r, p'⟩ := rp
      rw [hy] at hr
      obtain ⟨rfl, hp'⟩ := hr
      have HP := hide hp'
      have HY := hide hy
      clear hp' hy
      go_wp2_with fail
      go_ret2
      refine ⟨?_, (HF1.out _).trans hf2⟩
      rw [HR.out, HY.out]
      exact ⟨rfl, HP.out⟩
  have q1 := str_no h1
  clear hbr
  by_cases h2 : (p.hd ts).l = kTrue
  · have HR : Hid (atomF ts p br = .ok (leafF ts p { ndZero with kind := 1, value := 1 })) := hide (by unfold atomF; rw [if_neg h1, if_pos h2])
    have q2 := str_yes h2
    simp only [kTrue] at q2
    clear h1 h2 q1
    go_enter Try.func131, Try.ntmps131
    go_wp2_with fail
    refine (here_any _ _ b ts p h hw.next ht.1).mono ?_
    rintro e w1 ⟨rfl, hb1⟩
    have hP1 := fun o => (h.below hb1).below (((Below.refl w1.heap.size w1).alloc (Nat.le_refl _) o))
    have hF1 := fun o => Fr.of_below (X := X) (hb1.alloc hb1.size o) h.xlt
    have HP1 := hide hP1
    have HF1 := hide hF1
    clear hb1 hP1 hF1
    go_wp2_with fail
    refine (leaf_any _ X b ts p { ndZero with kind := 1, value := 1 } (HP1.out _) hw.next ht.1 (by have := hw.nodes; have := hw.next; have := ht.1; omega)).mono ?_
    rintro e w2 ⟨rfl, hp2, hf2⟩
    go_wp2_with fail
    go_ret2
    refine ⟨?_, (HF1.out _).trans hf2⟩
    rw [HR.out]
    exact ⟨rfl, hp2⟩
  have q2 := str_no h2
  simp only [kTrue] at q2
  by_cases h3 : (p.hd ts).l = kFalse
  · have HR : Hid (atomF ts p br = .ok (leafF ts p { ndZero with kind := 1 })) := hide (by unfold atomF; rw [if_neg h1, if_neg h2, if_pos h3])
    have q3 := str_yes h3
    simp only [kFalse] at q3
    clear h1 h2 h3 q1 q2
    go_enter Try.func131, Try.ntmps131
    go_wp2_with fail
    refine (here_any _ _ b ts p h hw.next ht.1).mono ?_
    rintro e w1 ⟨rfl, hb1⟩
    have hP1 := fun o => (h.below hb1).below (((Below.refl w1.heap.size w1).alloc (Nat.le_refl _) o))
    have hF1 := fun o => Fr.of_below (X := X) (hb1.alloc hb1.size o) h.xlt
    have HP1 := hide hP1
    have HF1 := hide hF1
    clear hb1 hP1 hF1
    go_wp2_with fail
    refine (leaf_any _ X b ts p { ndZero with kind := 1 } (HP1.out _) hw.next ht.1 (by have := hw.nodes; have := hw.next; have := ht.1; omega)).mono ?_
    rintro e w2 ⟨rfl, hp2, hf2⟩
    go_wp2_with fail
    go_ret2
    refine ⟨?_, (HF1.out _).trans hf2⟩
    rw [HR.out]
    exact ⟨rfl, hp2⟩
  have q3 := str_no h3
  simp only [kFalse] at q3
  by_cases h4 : (p.hd ts).kind = 3
  · have HR : Hid (atomF ts p br = .ok (leafF ts p { ndZero with kind := 0, value := valOf (p.hd ts).text.data.toList })) := hide (by unfold atomF; rw [if_neg h1, if_neg h2, if_neg h3, if_pos h4]; rfl)
    obtain ⟨hd1, hd2⟩ : (p.hd ts).text.size ≤ 18 ∧ ∀ c ∈ (p.hd ts).text.data.toList, 48 ≤ c.toNat ∧ c.toNat ≤ 57 := hdg _ hw.next h4
    have q4 : (((p.hd ts).kind : Int) == 3) = true := by rw [h4]; rfl
    clear h1 h2 h3 h4
    go_enter Try.func131, Try.ntmps131
    go_wp2_with fail
    refine (here_any _ _ b ts p h hw.next ht.1).mono ?_
    rintro e w1 ⟨rfl, hb1⟩
    have hP1 := fun o => (h.below hb1).below (((Below.refl w1.heap.size w1).alloc (Nat.le_refl _) o))
    have hF1 := fun o => Fr.of_below (X := X) (hb1.alloc hb1.size o) h.xlt
    have HP1 := hide hP1
    have HF1 := hide hF1
    clear hb1 hP1 hF1
    go_wp2_with fail
    refine (valueOf_any _ _ hd1 hd2).mono ?_
    rintro e w2 ⟨rfl, rfl⟩
    go_wp2_with fail
    refine (leaf_any _ X b ts p { ndZero with kind := 0, value := valOf (p.hd ts).text.data.toList } (HP1.out _) hw.next ht.1 (by have := hw.nodes; have := hw.next; have := ht.1; omega)).mono ?_
    rintro e w2 ⟨rfl, hp2, hf2⟩
    go_wp2_with fail
    go_ret2
    refine ⟨?_, (HF1.out _).trans hf2⟩
    rw [HR.out]
    exact ⟨rfl, hp2⟩
  have q4 : (((p.hd ts).kind : Int) == 3) = false := by rw [beq_eq_false_iff_ne]; omega
  by_cases h5 : (p.hd ts).kind = 1
  · have HR : Hid (atomF ts p br = .ok (leafF ts p { ndZero with kind := 2, name := (p.hd ts).text })) := hide (by unfold atomF; rw [if_neg h1, if_neg h2, if_neg h3, if_neg h4, if_pos h5])
    have q5 : (((p.hd ts).kind : Int) == 1) = true := by rw [h5]; rfl
    clear h1 h2 h3 h4 h5
    go_enter Try.func131, Try.ntmps131
    go_wp2_with fail
    refine (here_any _ _ b ts p h hw.next ht.1).mono ?_
    rintro e w1 ⟨rfl, hb1⟩
    have hP1 := fun o => (h.below hb1).below (((Below.refl w1.heap.size w1).alloc (Nat.le_refl _) o))
    have hF1 := fun o => Fr.of_below (X := X) (hb1.alloc hb1.size o) h.xlt
    have HP1 := hide hP1
    have HF1 := hide hF1
    clear hb1 hP1 hF1
    go_wp2_with fail
    refine (leaf_any _ X b ts p { ndZero with kind := 2, name := (p.hd ts).text } (HP1.out _) hw.next ht.1 (by have := hw.nodes; have := hw.next; have := ht.1; omega)).mono ?_
    rintro e w2 ⟨rfl, hp2, hf2⟩
    go_wp2_with fail
    go_ret2
    refine ⟨?_, (HF1.out _).trans hf2⟩
    rw [HR.out]
    exact ⟨rfl, hp2⟩
  · have HR : Hid (atomF ts p br = .error p.next) := hide (by unfold atomF; rw [if_neg h1, if_neg h2, if_neg h3, if_neg h4, if_neg h5])
    have q5 : (((p.hd ts).kind : Int) == 1) = false := by rw [beq_eq_false_iff_ne]; omega
    clear h1 h2 h3 h4 h5
    go_enter Try.func131, Try.ntmps131
    go_wp2_with fail
    refine (here_any _ _ b ts p h hw.next ht.1).mono ?_
    rintro e w1 ⟨rfl, hb1⟩
    have hP1 := fun o => (h.below hb1).below (((Below.refl w1.heap.size w1).alloc (Nat.le_refl _) o))
    have hF1 := fun o => Fr.of_below (X := X) (hb1.alloc hb1.size o) h.xlt
    have HP1 := hide hP1
    have HF1 := hide hF1
    clear hb1 hP1 hF1
    go_wp2_with fail
    go_ret2
    refine ⟨?_, HF1.out _⟩
    rw [HR.out]
    exact ⟨0, p, rfl, HP1.out _, rfl, hw.next, rfl⟩
theorem expr_any {ts : List Tk} (ht : TsOk ts) (hdg : TsDig ts) : ∀ f, ExprC ts f := by
  intro f
  induction f with
  | zero =>
    intro w X b p h hw hd
    refine atom_any ht hdg w X b p h hw (.error p.next) (fun _ => ?_)
    intro w X b h
    refine (bracket_deep w X b p h (by omega)).mono ?_
    rintro e w' ⟨rfl, rfl⟩
    exact ⟨⟨0, p, rfl, h, rfl, hw.next, rfl⟩, Fr.refl _ _⟩
  | succ f ih =>
    intro w X b p h hw hd
    refine atom_any ht hdg w X b p h hw _ (fun hk => ?_)
    intro w X b h
    exact bracket_any ht ih w X b p h hw (by omega) hk
theorem row3 {w : World} {N : Nat} {a0 a1 a2 : Value} {t : TypeId} (h : w.heap[N]? = some (.cells #[a0, a1, a2] t)) :
    w.cell? ⟨N, 0, none⟩ = some a0 ∧ w.cell? ⟨N, 1, none⟩ = some a1 ∧ w.cell? ⟨N, 2, none⟩ = some a2 := by
  refine ⟨?_, ?_, ?_⟩ <;> (rw [cell_of_row w N _ _ _ _ h]; rfl)
set_option maxHeartbeats 1000000 in
set_option maxRecDepth 100000 in
theorem input_any {ts : List Tk} (ht : TsOk ts) (w : World) (X : Nat → Prop) (b : Nat) (p : PS) (h : Par w X b ts p) (hw : p.Wf ts) :
    Calls Try.prog 108 #[.pointer (some ⟨b, 0, none⟩)] w fun e w' =>
      Res w' X b ts p.delays e (fun _ => .bool true) (fun e => e = .returned (.bool false)) (inputF ts p) ∧ Fr X w w' := by
  have hw1 := adv_wf hw
  have hw2 := adv_wf hw1
  have hdl : ((p.adv ts).adv ts).decls.length ≤ 1501 := by have := hw2.decls; have := hw2.next; have := ht.1; omega
  by_cases hk : ((p.adv ts).hd ts).kind = 1
  · have HR : Hid (inputF ts p = PS.take ts (((p.adv ts).adv ts).declare ⟨0, 0, ((p.adv ts).hd ts).text, ((p.adv ts).hd ts).pos, 0, 0, 0⟩) [59]) := hide (by unfold inputF; rw [if_pos hk])
    have q1 : ((((p.adv ts).hd ts).kind : Int) != 1) = false := by rw [hk]; rfl
    clear hk
    go_enter Try.func108, Try.ntmps108
    go_wp2_with fail
    refine (step_any _ X b ts p h hw.next ht.1).mono ?_
    rintro e w1 ⟨rfl, hp1, hf1⟩
    go_wp2_with fail
    refine (here_any _ _ b ts (p.adv ts) hp1 hw1.next ht.1).mono ?_
    rintro e w2 ⟨rfl, hb2⟩
    have hP2 := hp1.below hb2
    have hF2 : Fr X w w2 := hf1.trans (hp1.fr hb2)
    clear hb2 hf1 hp1
    go_wp2_with fail
    refine (step_any _ (one X w2.heap.size) b ts (p.adv ts) (hP2.one _) hw1.next ht.1).mono ?_
    rintro e w3 ⟨rfl, hp3, hf3⟩
    have hN3 := (hf3.block _ (.inr rfl)).trans (heap_alloc_new w2 _)
    have hF3 : Fr X w w3 := hF2.trans ((Fr.of_below ((Below.refl _ _).alloc (Nat.le_refl _) _) hP2.xlt).trans (hf3.mono fun k hk => .inl hk))
    obtain ⟨d0, d1, d2⟩ := row3 hN3
    clear hf3 hF2 hP2 hN3
    go_wp2_with fail
    refine (declare_any _ _ b ts ((p.adv ts).adv ts) ⟨0, 0, ((p.adv ts).hd ts).text, ((p.adv ts).hd ts).pos, 0, 0, 0⟩ hp3 hdl rfl).mono ?_
    rintro e w4 ⟨rfl, hp4, hf4⟩
    have hF4 := hF3.trans (hf4.mono fun k hk => .inl hk)
    clear hF3 hf4 d0 d1 d2 hp3
    go_wp2_with fail
    refine (take_any _ _ b ts _ [59] hp4 hw2.next ht.1).mono ?_
    rintro e w5 ⟨hr, hf5⟩
    have HF5 := hide (hF4.trans (hf5.mono fun k hk => .inl hk))
    clear hF4 hf5
    cases hy : PS.take ts (((p.adv ts).adv ts).declare ⟨0, 0, ((p.adv ts).hd ts).text, ((p.adv ts).hd ts).pos, 0, 0, 0⟩) [59] with
    | error k =>
      rw [hy] at hr
      obtain ⟨rfl, p', hp', hk1, hk2, hk3⟩ := hr
      have HP := hide hp'
      have HY := hide hy
      have HK1 := hide hk1
      have HK3 := hide hk3
      clear hp' hy hk1 hk3
      go_wp2_with fail
      go_ret
      refine ⟨?_, HF5.out⟩
      rw [HR.out, HY.out]
      exact ⟨rfl, p', Par.less HP.out (fun k hk => .inl hk), HK1.out, hk2, by rw [HK3.out]; simp [PS.declare]⟩
    | ok p' =>
      rw [hy] at hr
      obtain ⟨rfl, hp'⟩ := hr
      have HP := hide hp'
      have HY := hide hy
      clear hp' hy
      go_wp2_with fail
      go_ret
      refine ⟨?_, HF5.out⟩
      rw [HR.out, HY.out]
      exact ⟨rfl, Par.less HP.out (fun k hk => .inl hk)⟩
  · have HR : Hid (inputF ts p = .error (p.adv ts).next) := hide (by unfold inputF; rw [if_neg hk])
    have q1 : ((((p.adv ts).hd ts).kind : Int) != 1) = true := by rw [bne_iff_ne]; omega
    clear hk
    go_enter Try.func108, Try.ntmps108
    go_wp2_with fail
    refine (step_any _ X b ts p h hw.next ht.1).mono ?_
    rintro e w1 ⟨rfl, hp1, hf1⟩
    go_wp2_with fail
    refine (here_any _ _ b ts (p.adv ts) hp1 hw1.next ht.1).mono ?_
    rintro e w2 ⟨rfl, hb2⟩
    have hP2 := hp1.below hb2
    have hF2 : Fr X w w2 := hf1.trans (hp1.fr hb2)
    clear hb2 hf1 hp1
    go_wp2_with fail
    go_ret
    refine ⟨?_, hF2.trans (Fr.of_below ((Below.refl _ _).alloc (Nat.le_refl _) _) hP2.xlt)⟩
    rw [HR.out]
    exact ⟨rfl, p.adv ts, hP2.below ((Below.refl _ _).alloc (Nat.le_refl _) _), rfl, hw1.next, by simp⟩
theorem place_ok {ts : List Tk} (ht : TsOk ts) {p p' : PS} {r : Nat} (h : p.Wf ts) (he : placeF ts p = .ok (r, p')) : Step ts p p' ∧ p' = p.adv ts ∧ r < 4 := by
  unfold placeF at he
  split at he
  · rename_i hh
    cases he
    exact ⟨adv_step ht h (.inl (by rw [hh.1]; decide)), rfl, hh.2⟩
  · cases he
set_option maxHeartbeats 2000000 in
set_option maxRecDepth 100000 in
theorem equation_any {ts : List Tk} (ht : TsOk ts) (hdg : TsDig ts) (w : World) (X : Nat → Prop) (b kind : Nat) (p : PS) (h : Par w X b ts p) (hw : p.Wf ts) (hd0 : p.depth = 0) :
    Calls Try.prog 109 #[.pointer (some ⟨b, 0, none⟩), .int .i64 (kind : Int)] w fun e w' =>
      Res w' X b ts p.delays e (fun _ => .bool true) (fun e => e = .returned (.bool false)) (equationF ts kind p) ∧ Fr X w w' := by
  have hw1 := adv_wf hw
  have hw2 := adv_wf hw1
  have HD0 := hide hd0
  clear hd0
  by_cases hk : ((p.adv ts).hd ts).kind = 1
  · have HR0 : Hid (∀ R, (match PS.take ts ((p.adv ts).adv ts) kAt with
        | .error e => .error e
        | .ok p1 => match placeF ts p1 with
          | .error e => .error e
          | .ok (pl, p2) => match PS.take ts p2 [61] with
            | .error e => .error e
            | .ok p3 => match exprF ts 16 p3 with
              | .error e => .error e
              | .ok (r, p4) => PS.take ts (p4.declare ⟨kind, 0, ((p.adv ts).hd ts).text, ((p.adv ts).hd ts).pos, pl, r, p4.nodes.length⟩) [59]) = R → equationF ts kind p = R) := hide (by intro R hR; unfold equationF; rw [if_pos hk]; exact hR)
    have q1 : ((((p.adv ts).hd ts).kind : Int) != 1) = false := by rw [hk]; rfl
    clear hk
    go_enter Try.func109, Try.ntmps109
    go_wp2_with fail
    refine (step_any _ X b ts p h hw.next ht.1).mono ?_
    rintro e w1 ⟨rfl, hp1, hf1⟩
    go_wp2_with fail
    refine (here_any _ _ b ts (p.adv ts) hp1 hw1.next ht.1).mono ?_
    rintro e w2 ⟨rfl, hb2⟩
    have hP2 := hp1.below hb2
    have hF2 : Fr X w w2 := hf1.trans (hp1.fr hb2)
    clear hb2 hf1 hp1
    go_wp2_with fail
    refine (step_any _ (one X w2.heap.size) b ts (p.adv ts) (hP2.one _) hw1.next ht.1).mono ?_
    rintro e w3 ⟨rfl, hp3, hf3⟩
    have hN3 := (hf3.block _ (.inr rfl)).trans (heap_alloc_new w2 _)
    have hF3 : Fr X w w3 := hF2.trans ((Fr.of_below ((Below.refl _ _).alloc (Nat.le_refl _) _) hP2.xlt).trans (hf3.mono fun k hk => .inl hk))
    clear hf3 hF2 hP2
    have HN3 := hide hN3
    clear hN3
    go_wp2_with fail
    refine (take_any _ _ b ts _ kAt hp3 hw2.next ht.1).mono ?_
    rintro e w4 ⟨hr, hf4⟩
    have HF := hide (hF3.trans (hf4.mono fun k hk => .inl hk))
    have HN4 := hide ((hf4.block _ (.inr rfl)).trans HN3.out)
    clear hF3 hf4 hp3 HN3
    cases hy : PS.take ts ((p.adv ts).adv ts) kAt with
    | error k =>
      rw [hy] at hr
      obtain ⟨rfl, p', hp', hk1, hk2, hk3⟩ := hr
      have HR : Hid (equationF ts kind p = .error k) := hide (HR0.out _ (by rw [hy]))
      clear hy
      have HP := hide hp'
      have HK1 := hide hk1
      have HK3 := hide hk3
      clear hp' hk1 hk3
      go_wp2_with fail
      go_ret
      refine ⟨?_, HF.out⟩
      rw [HR.out]
      exact ⟨rfl, p', Par.less HP.out (fun k hk => .inl hk), HK1.out, hk2, by rw [HK3.out]; simp⟩
    | ok p3 =>
      rw [hy] at hr
      obtain ⟨rfl, hp4⟩ := hr
      have hs3 := (take_ok ht hw2 (by decide) hy).2
      have hw3 := hs3.wf hw2
      have hdl3 : p3.delays = p.delays := by rw [hs3.delays]; simp
      have hde3 : p3.depth = p.depth := by rw [hs3.depth]; simp
      have HY3 := hide hy
      have HDL3 := hide hdl3
      have HDE3 := hide hde3
      clear hy hs3 hdl3 hde3
      go_wp2_with fail
      refine (place_any _ _ b ts p3 hp4 hw3.next ht.1 hdg).mono ?_
      rintro e w5 ⟨hr, hf5⟩
      have HF := hide (HF.out.trans (hf5.mono fun k hk => .inl hk))
      have HN5 := hide ((hf5.block _ (.inr rfl)).trans HN4.out)
      clear hf5 hp4 HN4
      cases hy : placeF ts p3 with
      | error k =>
        rw [hy] at hr
        obtain ⟨v, p', rfl, hp', hk1, hk2, hk3⟩ := hr
        have HR : Hid (equationF ts kind p = .error k) := hide (HR0.out _ (by rw [HY3.out]; simp only; rw [hy]))
        clear hy
        have HP := hide hp'
        have HK1 := hide hk1
        have HK3 := hide hk3
        clear hp' hk1 hk3
        go_wp2_with fail
        go_ret
        refine ⟨?_, HF.out⟩
        rw [HR.out]
        exact ⟨rfl, p', Par.less HP.out (fun k hk => .inl hk), HK1.out, hk2, by rw [HK3.out]; exact HDL3.out⟩
      | ok pp =>
        obtain ⟨pl, p4⟩ := pp
        rw [hy] at hr
        obtain ⟨rfl, hp5⟩ := hr
        have hs4 := (place_ok ht hw3 hy).1
        have hw4 := hs4.wf hw3
        have HDL4 : Hid (p4.delays = p.delays) := hide (by rw [hs4.delays]; exact HDL3.out)
        have HDE4 : Hid (p4.depth = p.depth) := hide (by rw [hs4.depth]; exact HDE3.out)
        have HY4 := hide hy
        clear hy hs4
        go_wp2_with fail
        refine (take_any _ _ b ts p4 [61] hp5 hw4.next ht.1).mono ?_
        rintro e w6 ⟨hr, hf6⟩
        have HF := hide (HF.out.trans (hf6.mono fun k hk => .inl hk))
        have HN6 := hide ((hf6.block _ (.inr rfl)).trans HN5.out)
        clear hf6 hp5 HN5
        cases hy : PS.take ts p4 [61] with
        | error k =>
          rw [hy] at hr
          obtain ⟨rfl, p', hp', hk1, hk2, hk3⟩ := hr
          have HR : Hid (equationF ts kind p = .error k) := hide (HR0.out _ (by rw [HY3.out]; simp only; rw [HY4.out]; simp only; rw [hy]))
          clear hy
          have HP := hide hp'
          have HK1 := hide hk1
          have HK3 := hide hk3
          clear hp' hk1 hk3
          go_wp2_with fail
          go_ret
          refine ⟨?_, HF.out⟩
          rw [HR.out]
          exact ⟨rfl, p', Par.less HP.out (fun k hk => .inl hk), HK1.out, hk2, by rw [HK3.out]; exact HDL4.out⟩
        | ok p5 =>
          rw [hy] at hr
          obtain ⟨rfl, hp6⟩ := hr
          have hs5 := (take_ok ht hw4 (by decide) hy).2
          have hw5 := hs5.wf hw4
          have HDL5 : Hid (p5.delays = p.delays) := hide (by rw [hs5.delays]; exact HDL4.out)
          have HDE5 : Hid (p5.depth = 0) := hide (by rw [hs5.depth, HDE4.out]; exact HD0.out)
          have HY5 := hide hy
          clear hy hs5
          go_wp2_with fail
          refine (expr_any ht hdg 16 _ _ b p5 hp6 hw5 (by rw [HDE5.out])).mono ?_
          rintro e w7 ⟨hr, hf7⟩
          have HF := hide (HF.out.trans (hf7.mono fun k hk => .inl hk))
          have HN7 := hide ((hf7.block _ (.inr rfl)).trans HN6.out)
          clear hf7 hp6 HN6
          cases hy : exprF ts 16 p5 with
          | error k =>
            rw [hy] at hr
            obtain ⟨v, p', rfl, hp', hk1, hk2, hk3⟩ := hr
            have HR : Hid (equationF ts kind p = .error k) := hide (HR0.out _ (by rw [HY3.out]; simp only; rw [HY4.out]; simp only; rw [HY5.out]; simp only; rw [hy]))
            clear hy
            have HP := hide hp'
            have HK1 := hide hk1
            have HK3 := hide hk3
            clear hp' hk1 hk3
            go_wp2_with fail
            go_ret
            refine ⟨?_, HF.out⟩
            rw [HR.out]
            exact ⟨rfl, p', Par.less HP.out (fun k hk => .inl hk), HK1.out, hk2, by rw [HK3.out]; exact HDL5.out⟩
          | ok rp =>
            obtain ⟨r, p6⟩ := rp
            rw [hy] at hr
            obtain ⟨rfl, hp7⟩ := hr
            have hs6 := ((expr_ok ht 16 0 (by omega) p5 hw5 HDE5.out).1 _ _ hy).1
            have hw6 := hs6.wf hw5
            have HDL6 : Hid (p6.delays = p.delays) := hide (by rw [hs6.delays]; exact HDL5.out)
            have HY6 := hide hy
            have hdl : p6.decls.length ≤ 1501 := by have := hw6.decls; have := hw6.next; have := ht.1; omega
            have c5 : ∃ vn, w7.cell? ⟨b, 5, none⟩ = some vn ∧ ∃ a cap, vn = .slice a p6.nodes.length cap := by
              obtain ⟨_, _, vn, hv⟩ := hp7
              obtain ⟨a, cap, ha, _⟩ := own_shape hv.nodes
              exact ⟨vn, hv.cell.2.2.2.2.2, a, cap, ha⟩
            obtain ⟨vn, c5, av, cap, rfl⟩ := c5
            obtain ⟨d0, d1, d2⟩ := row3 HN7.out
            clear hy hs6
            go_wp2_with fail
            refine (declare_any _ _ b ts p6 ⟨kind, 0, ((p.adv ts).hd ts).text, ((p.adv ts).hd ts).pos, pl, r, p6.nodes.length⟩ hp7 hdl rfl).mono ?_
            rintro e w8 ⟨rfl, hp8, hf8⟩
            have HF := hide (HF.out.trans (hf8.mono fun k hk => .inl hk))
            clear hf8 d0 d1 d2 hp7 c5 HN7
            go_wp2_with fail
            refine (take_any _ _ b ts _ [59] hp8 hw6.next ht.1).mono ?_
            rintro e w9 ⟨hr, hf9⟩
            have HF := hide (HF.out.trans (hf9.mono fun k hk => .inl hk))
            clear hf9
            cases hy : PS.take ts (p6.declare ⟨kind, 0, ((p.adv ts).hd ts).text, ((p.adv ts).hd ts).pos, pl, r, p6.nodes.length⟩) [59] with
            | error k =>
              rw [hy] at hr
              obtain ⟨rfl, p', hp', hk1, hk2, hk3⟩ := hr
              have HR : Hid (equationF ts kind p = .error k) := hide (HR0.out _ (by rw [HY3.out]; simp only; rw [HY4.out]; simp only; rw [HY5.out]; simp only; rw [HY6.out]; simp only; rw [hy]))
              clear hy
              have HP := hide hp'
              have HK1 := hide hk1
              have HK3 := hide hk3
              clear hp' hk1 hk3
              go_wp2_with fail
              go_ret
              refine ⟨?_, HF.out⟩
              rw [HR.out]
              exact ⟨rfl, p', Par.less HP.out (fun k hk => .inl hk), HK1.out, hk2, by rw [HK3.out]; simp only [PS.declare]; exact HDL6.out⟩
            | ok p' =>
              rw [hy] at hr
              obtain ⟨rfl, hp'⟩ := hr
              have HR : Hid (equationF ts kind p = .ok p') := hide (HR0.out _ (by rw [HY3.out]; simp only; rw [HY4.out]; simp only; rw [HY5.out]; simp only; rw [HY6.out]; simp only; rw [hy]))
              have HP := hide hp'
              clear hy hp'
              go_wp2_with fail
              go_ret
              refine ⟨?_, HF.out⟩
              rw [HR.out]
              exact ⟨rfl, Par.less HP.out (fun k hk => .inl hk)⟩
  · have HR : Hid (equationF ts kind p = .error (p.adv ts).next) := hide (by unfold equationF; rw [if_neg hk])
    have q1 : ((((p.adv ts).hd ts).kind : Int) != 1) = true := by rw [bne_iff_ne]; omega
    clear hk
    go_enter Try.func109, Try.ntmps109
    go_wp2_with fail
    refine (step_any _ X b ts p h hw.next ht.1).mono ?_
    rintro e w1 ⟨rfl, hp1, hf1⟩
    go_wp2_with fail
    refine (here_any _ _ b ts (p.adv ts) hp1 hw1.next ht.1).mono ?_
    rintro e w2 ⟨rfl, hb2⟩
    have hP2 := hp1.below hb2
    have hF2 : Fr X w w2 := hf1.trans (hp1.fr hb2)
    clear hb2 hf1 hp1
    go_wp2_with fail
    go_ret
    refine ⟨?_, hF2.trans (Fr.of_below ((Below.refl _ _).alloc (Nat.le_refl _) _) hP2.xlt)⟩
    rw [HR.out]
    exact ⟨rfl, p.adv ts, hP2.below ((Below.refl _ _).alloc (Nat.le_refl _) _), rfl, hw1.next, by simp⟩
set_option maxHeartbeats 1000000 in
set_option maxRecDepth 100000 in
theorem declaration_any {ts : List Tk} (ht : TsOk ts) (hdg : TsDig ts) (w : World) (X : Nat → Prop) (b : Nat) (p : PS) (h : Par w X b ts p) (hw : p.Wf ts) (hd0 : p.depth = 0) :
    Calls Try.prog 80 #[.pointer (some ⟨b, 0, none⟩)] w fun e w' =>
      Res w' X b ts p.delays e (fun _ => .bool true) (fun e => e = .returned (.bool false)) (declarationF ts p) ∧ Fr X w w' := by
  have HX := hide h.xlt
  have join : ∀ (R : Except Nat PS) (w1 w2 : World) (e : Ending), Hid (declarationF ts p = R) → Fr X w w1 → Res w2 X b ts p.delays e (fun _ => .bool true) (fun e => e = .returned (.bool false)) R ∧ Fr X w1 w2 →
      ∃ bb, e = .returned (.bool bb) ∧ (Res w2 X b ts p.delays e (fun _ => .bool true) (fun e => e = .returned (.bool false)) (declarationF ts p) ∧ Fr X w w2) := by
    intro R w1 w2 e hR hf hr
    rw [hR.out]
    obtain ⟨h1, h2⟩ := hr
    cases R with
    | ok p' => exact ⟨true, h1.1, h1, hf.trans h2⟩
    | error k => exact ⟨false, h1.1, h1, hf.trans h2⟩
  by_cases h1 : (p.hd ts).l = kIn
  · have HR : Hid (declarationF ts p = inputF ts p) := hide (by unfold declarationF; rw [if_pos h1])
    have q1 := str_yes h1
    simp only [kIn] at q1
    have HJ := hide (join (inputF ts p))
    clear h1 join
    go_enter Try.func80, Try.ntmps80
    go_wp2_with fail
    refine (here_any _ _ b ts p h hw.next ht.1).mono ?_
    rintro e w1 ⟨rfl, hb1⟩
    go_wp2_with fail
    refine (input_any ht w1 X b p (h.below hb1) hw).mono ?_
    intro e w2 hr
    obtain ⟨bb, rfl, hfin⟩ := HJ.out w1 w2 e HR (h.fr hb1) hr
    have HFIN := hide hfin
    clear hfin hr hb1
    go_wp2_with fail
    go_ret
    exact HFIN.out
  have q1 := str_no h1
  simp only [kIn] at q1
  by_cases h2 : (p.hd ts).l = kInt
  · have HR : Hid (declarationF ts p = equationF ts 1 p) := hide (by unfold declarationF; rw [if_neg h1, if_pos h2])
    have q2 := str_yes h2
    simp only [kInt] at q2
    have HJ := hide (join (equationF ts 1 p))
    clear h1 h2 q1 join
    go_enter Try.func80, Try.ntmps80
    go_wp2_with fail
    refine (here_any _ _ b ts p h hw.next ht.1).mono ?_
    rintro e w1 ⟨rfl, hb1⟩
    go_wp2_with fail
    refine (equation_any ht hdg w1 X b 1 p (h.below hb1) hw hd0).mono ?_
    intro e w2 hr
    obtain ⟨bb, rfl, hfin⟩ := HJ.out w1 w2 e HR (h.fr hb1) hr
    have HFIN := hide hfin
    clear hfin hr hb1
    go_wp2_with fail
    go_ret
    exact HFIN.out
  have q2 := str_no h2
  simp only [kInt] at q2
  by_cases h3 : (p.hd ts).l = kBool
  · have HR : Hid (declarationF ts p = equationF ts 2 p) := hide (by unfold declarationF; rw [if_neg h1, if_neg h2, if_pos h3])
    have q3 := str_yes h3
    simp only [kBool] at q3
    have HJ := hide (join (equationF ts 2 p))
    clear h1 h2 h3 q1 q2 join
    go_enter Try.func80, Try.ntmps80
    go_wp2_with fail
    refine (here_any _ _ b ts p h hw.next ht.1).mono ?_
    rintro e w1 ⟨rfl, hb1⟩
    go_wp2_with fail
    refine (equation_any ht hdg w1 X b 2 p (h.below hb1) hw hd0).mono ?_
    intro e w2 hr
    obtain ⟨bb, rfl, hfin⟩ := HJ.out w1 w2 e HR (h.fr hb1) hr
    have HFIN := hide hfin
    clear hfin hr hb1
    go_wp2_with fail
    go_ret
    exact HFIN.out
  · have HR : Hid (declarationF ts p = .error p.next) := hide (by unfold declarationF; rw [if_neg h1, if_neg h2, if_neg h3])
    have q3 := str_no h3
    simp only [kBool] at q3
    clear h1 h2 h3 join
    go_enter Try.func80, Try.ntmps80
    go_wp2_with fail
    refine (here_any _ _ b ts p h hw.next ht.1).mono ?_
    rintro e w1 ⟨rfl, hb1⟩
    go_wp2_with fail
    go_ret
    refine ⟨?_, h.fr hb1⟩
    rw [HR.out]
    exact ⟨rfl, p, h.below hb1, rfl, hw.next, rfl⟩
set_option maxHeartbeats 1000000 in
set_option maxRecDepth 100000 in
theorem find_any (w : World) (q o : Nat) (l : List Dc) (vd : Value) (name : ByteArray) (hc : w.cell? ⟨q, o, none⟩ = some vd) (hown : w.ownsRow 0 126 7 vd l.length (dcCells l)) (hl : l.length ≤ 1501) :
    Calls Try.prog 110 #[.pointer (some ⟨q, o, none⟩), .string name] w fun e w' => e = .returned (.int .i64 (findF l name)) ∧ Below w.heap.size w w' := by
  obtain ⟨av, cap, rfl, hsh⟩ := own_shape hown
  have HO := hide hown
  have HSH := hide hsh
  clear hown hsh
  go_enter Try.func110, Try.ntmps110
  go_wp2
  go_loopw [12] (fun i wr => ∃ k : Nat, k ≤ l.length ∧ i = .int .i64 k ∧ Below w.heap.size w wr ∧ ∀ j (hj : j < k) (hj2 : j < l.length), (l[j]'hj2).name.data.toList ≠ name.data.toList) (fun i _ => l.length - (intOf i).toNat)
  case atStart => exact ⟨0, Nat.zero_le _, rfl, Below.refl _ _, fun j hj => by omega⟩
  case round =>
    obtain ⟨k, hk, rfl, hbel, hne⟩ := hrel
    have HNE := hide hne
    clear hne
    by_cases hlt : k < l.length
    · obtain ⟨g, rfl, _, hg2⟩ := HSH.out (by omega)
      have hcs := dcAt_cells HO.out hlt
      obtain ⟨a, ha⟩ : ∃ a, a = l[k]'hlt := ⟨_, rfl⟩
      rw [← ha] at hcs
      have hcr : ∀ j, j < 7 → wr.cell? ⟨g, k * 7 + j, none⟩ = a.cells[j]? := fun j hj => (hbel.cell (p := ⟨g, k * 7 + j, none⟩) hg2).trans (hcs j hj)
      have x0 := hcr 0 (by omega)
      have x1 := hcr 1 (by omega)
      have x2 := hcr 2 (by omega)
      have x3 := hcr 3 (by omega)
      have x4 := hcr 4 (by omega)
      have x5 := hcr 5 (by omega)
      have x6 := hcr 6 (by omega)
      simp [Dc.cells] at x0 x1 x2 x3 x4 x5 x6
      have j1 : (0 : Int) ≤ (k : Int) := by omega
      have j2 : (k : Int) < (l.length : Int) := by omega
      have HA := hide ha
      clear hcs hcr ha
      by_cases he : a.name.data.toList = name.data.toList
      · have q1 : (a.name.toList == name.toList) = true := by rw [ByteArray.toList_eq, ByteArray.toList_eq]; simpa using he
        have HF : Hid (findF l name = (k : Int)) := hide (findF_hit l name k hlt (by rw [← HA.out]; exact he) (fun j hj => HNE.out j hj (by omega)))
        clear he
        go_wp2
        go_ret
        exact ⟨ret_intN HF.out.symm, hbel.alloc hbel.size _⟩
      · have q1 : (a.name.toList == name.toList) = false := by rw [ByteArray.toList_eq, ByteArray.toList_eq]; simpa using he
        have HE := hide he
        clear he
        go_wp2
        go_roundw
        case rel =>
          refine ⟨k + 1, by omega, by go_num, hbel.alloc hbel.size _, fun j hj hj2 => ?_⟩
          by_cases ej : j = k
          · subst ej; rw [← HA.out]; exact HE.out
          · exact HNE.out j (by omega) hj2
        case measure => simp [intOf]; omega
    · have HF : Hid (findF l name = -1) := hide (findF_miss l name (fun j hj => HNE.out j (by omega) hj))
      go_wp2
      go_ret
      exact ⟨ret_intN HF.out.symm, hbel⟩
def mixB (p : PS) (k : Nat) : PS := { p with nodes := (p.nodes.take k).map (bindF p.decls) ++ p.nodes.drop k }
theorem mixB_zero (p : PS) : mixB p 0 = p := by simp [mixB]
theorem mixB_len (p : PS) (k : Nat) (h : k ≤ p.nodes.length) : (mixB p k).nodes.length = p.nodes.length := by simp [mixB]; omega
theorem mixB_at (p : PS) (k : Nat) (h : k < p.nodes.length) : (mixB p k).nodes[k]? = some (p.nodes[k]'h) := by
  have hl : ((p.nodes.take k).map (bindF p.decls)).length = k := by simp; omega
  show ((p.nodes.take k).map (bindF p.decls) ++ p.nodes.drop k)[k]? = _
  rw [List.getElem?_append_right (by omega), hl, Nat.sub_self, List.getElem?_drop]
  simp [h]
theorem mixB_succ (p : PS) (k : Nat) (h : k < p.nodes.length) : mixB p (k + 1) = { mixB p k with nodes := (mixB p k).nodes.set k (bindF p.decls (p.nodes[k]'h)) } := by
  unfold mixB
  congr 1
  have hl : ((p.nodes.take k).map (bindF p.decls)).length = k := by simp; omega
  rw [List.set_append_right _ _ (by omega), hl, Nat.sub_self, List.take_succ_eq_append_getElem h, List.map_append, List.append_assoc, List.drop_eq_getElem_cons h]
  rfl
theorem ParV.setDecl {w : World} {X : Nat → Prop} {b : Nat} {ts : List Tk} {p : PS} {vt vd : Value} {g cap : Nat} (h : ParV w X b ts p vt vd (.slice (some ⟨g, 0, none⟩) p.nodes.length cap)) {k : Nat} (hk : k < p.nodes.length) (i : Int) :
    ParV (w.setCell ⟨g, k * 11 + 4, none⟩ (.int .i64 i)) X b ts { p with nodes := p.nodes.set k { (p.nodes[k]'hk) with decl := i } } vt vd (.slice (some ⟨g, 0, none⟩) p.nodes.length cap) ∧ Fr X w (w.setCell ⟨g, k * 11 + 4, none⟩ (.int .i64 i)) := by
  obtain ⟨h1, h2⟩ := h.nodes.stored (k * 11 + 4) (.int .i64 i)
  have hlen : (ndCells p.nodes).length = p.nodes.length * 11 := h.nodes.1
  have e : (ndCells p.nodes).set (k * 11 + 4) (.int .i64 i) = ndCells (p.nodes.set k { (p.nodes[k]'hk) with decl := i }) := by
    have e1 : ndCells (p.nodes.set k { (p.nodes[k]'hk) with decl := i }) = (ndCells p.nodes).take (k * 11) ++ ({ (p.nodes[k]'hk) with decl := i } : Nd).cells ++ (ndCells p.nodes).drop (k * 11 + 11) := flat_set Nd.cells 11 nd_len _ p.nodes k hk
    have e2 : ndCells p.nodes = (ndCells p.nodes).take (k * 11) ++ (p.nodes[k]'hk).cells ++ (ndCells p.nodes).drop (k * 11 + 11) := by
      have := flat_set Nd.cells 11 nd_len (p.nodes[k]'hk) p.nodes k hk
      rw [List.set_getElem_self] at this
      exact this
    have hl : ((ndCells p.nodes).take (k * 11)).length = k * 11 := by rw [List.length_take]; omega
    rw [e1]
    conv => lhs; rw [e2]
    rw [List.append_assoc, List.set_append_right _ _ (by omega), hl, show k * 11 + 4 - k * 11 = 4 from by omega, List.set_append_left _ _ (by rw [nd_len]; omega), List.append_assoc]
    rfl
  rw [e] at h1
  have hb : some b ≠ some g := fun e => h.nb (by simp [Value.ownBlock, Option.some.inj e])
  refine ⟨⟨(h2.block b h.lt hb).trans h.at_b, h.toks.kept h2 (.inr fun e => h.tn g e rfl), h.decls.kept h2 (.inr fun e => h.dn g e rfl), ?_, h.tb, h.db, h.nb, h.td, h.tn, h.dn, fun k hk => Nat.lt_of_lt_of_le (h.xlt k hk) h2.size, h.xb, h.xd, h.xn, h.xt⟩, ?_⟩
  · simpa using h1
  · exact ⟨h2.os, h2.tape, h2.output, h2.size, fun j hj => h2.block j (h.xlt j hj) (fun e => h.xn g rfl (by rw [← Option.some.inj e]; exact hj))⟩
theorem cell43 (g k : Nat) (w : World) (v : Value) : (w.setCell ⟨g, k * 11 + 4, none⟩ v).cell? ⟨g, k * 11 + 3, none⟩ = w.cell? ⟨g, k * 11 + 3, none⟩ :=
  World.cell?_setCell_other _ _ _ _ (by intro h; have := congrArg Addr.off h; simp at this)
set_option maxHeartbeats 2000000 in
set_option maxRecDepth 100000 in
theorem bind_any {ts : List Tk} (w : World) (X : Nat → Prop) (b : Nat) (p : PS) (h : Par w X b ts p) (hnl : p.nodes.length ≤ 1501) (hdl : p.decls.length ≤ 1501) :
    Calls Try.prog 81 #[.pointer (some ⟨b, 0, none⟩)] w fun e w' => e = .returned (.tuple #[]) ∧ Par w' X b ts { p with nodes := p.nodes.map (bindF p.decls) } ∧ Fr X w w' := by
  have HP0 := hide h
  obtain ⟨vt0, vd0, vn0, hv0⟩ := h
  have c5 := hv0.cell.2.2.2.2.2
  obtain ⟨av0, cap0, rfl, _⟩ := own_shape hv0.nodes
  clear hv0
  go_enter Try.func81, Try.ntmps81
  go_wp2
  clear c5
  go_loopw [9] (fun i wr => ∃ k : Nat, k ≤ p.nodes.length ∧ i = .int .i64 k ∧ Par wr X b ts (mixB p k) ∧ Fr X w wr) (fun i _ => p.nodes.length - (intOf i).toNat)
  case atStart => exact ⟨0, Nat.zero_le _, rfl, by rw [mixB_zero]; exact HP0.out, Fr.refl _ _⟩
  case round =>
    obtain ⟨k, hk, rfl, hpr, hfr⟩ := hrel
    by_cases hlt : k < p.nodes.length
    · obtain ⟨vt, vd, vn, hv⟩ := hpr
      have hml := mixB_len p k hk
      have hkm : k < (mixB p k).nodes.length := by omega
      have c5 := hv.cell.2.2.2.2.2
      have c4 := hv.cell.2.2.2.2.1
      have hdec := hv.decls
      have lb := hv.lt
      obtain ⟨g, cap, rfl, _, glt⟩ := hv.nodes.form (by omega)
      have nbg : g ≠ b := by rintro rfl; exact hv.nb rfl
      have nbg' := nbg.symm
      have c43 := cell43 g k
      have hcs := ndAt_cells hv.nodes hkm
      have yF : ∀ i, wr.frozen? ⟨g, i, none⟩ = false := fun i => hv.nodes.frozenAt i
      have hat : (mixB p k).nodes[k]'hkm = p.nodes[k]'hlt := by
        have := mixB_at p k hlt
        rw [List.getElem?_eq_getElem hkm] at this
        exact Option.some.inj this
      rw [hat] at hcs
      obtain ⟨a, ha⟩ : ∃ a, a = p.nodes[k]'hlt := ⟨_, rfl⟩
      rw [← ha] at hcs
      have x0 := hcs 0 (by omega)
      have x3 := hcs 3 (by omega)
      have x4 := hcs 4 (by omega)
      simp [Nd.cells] at x0 x3 x4
      rw [hml] at c5
      have j1 : (0 : Int) ≤ (k : Int) := by omega
      have j2 : (k : Int) < (p.nodes.length : Int) := by omega
      have HS := hide (mixB_succ p k hlt)
      have HV := hide hv
      have HA := hide ha
      have HAT := hide hat
      clear hv hcs ha hat
      by_cases hk2 : a.kind = 2
      · have q1 : ((a.kind : Int) == 2) = true := by rw [hk2]; rfl
        have HK2 := hide hk2
        clear hk2
        go_wp2_with fail
        go_region_held3 (fun w' => w'.cell? ⟨b, 5, none⟩ = some (.slice (some ⟨g, 0, none⟩) p.nodes.length cap) ∧ w'.cell? ⟨g, k * 11 + 3, none⟩ = some (.string a.name)) (go_keep)
          ((go_at_call 110; refine (find_any _ b 4 (mixB p k).decls vd a.name ?_ ?_ hdl).mono ?_; (simpa using c4); (exact hdec.drew); rintro e w' ⟨rfl, hbelF⟩; have kt := (hbelF.cell (p := ⟨g, k * 11 + 4, none⟩) (by simpa using glt)).trans x4; have kf := (hbelF.frozen (p := ⟨g, k * 11 + 4, none⟩) (by simpa using glt)).trans (yF _); have kb := (hbelF.cell (p := ⟨b, 5, none⟩) (by simpa using lb)).trans c5; have kn := (hbelF.cell (p := ⟨g, k * 11 + 3, none⟩) (by simpa using glt)).trans x3))
        rename_i hHeld
        clear hHeld
        have hv' : ParV w' X b ts (mixB p k) vt vd (.slice (some ⟨g, 0, none⟩) (mixB p k).nodes.length cap) := (HV.out.below ((Below.refl _ _).drew)).below hbelF
        have hset := hv'.setDecl hkm (findF (mixB p k).decls a.name)
        have HSET := hide hset
        have HBF := hide hbelF
        clear hv' hset hbelF kt kf kb kn c4 c5 x0 x3 x4 yF
        go_wp2
        go_roundw
        case rel =>
          refine ⟨k + 1, by omega, by go_num, ?_, ?_⟩
          · rw [HS.out]
            have e : bindF p.decls (p.nodes[k]'hlt) = { (mixB p k).nodes[k]'hkm with decl := findF (mixB p k).decls a.name } := by
              rw [HAT.out, ← HA.out]; unfold bindF; rw [if_pos HK2.out]; rfl
            rw [e]
            exact ⟨_, _, _, HSET.out.1⟩
          · exact (hfr.trans (Fr.of_below (((Below.refl _ _).drew).trans HBF.out) HV.out.xlt)).trans HSET.out.2
        case measure => simp [intOf]; omega
      · have q1 : ((a.kind : Int) == 2) = false := by rw [beq_eq_false_iff_ne]; omega
        have HK2 := hide hk2
        clear hk2
        go_wp2
        go_roundw
        case rel =>
          refine ⟨k + 1, by omega, by go_num, ?_, hfr⟩
          rw [HS.out]
          have e : bindF p.decls (p.nodes[k]'hlt) = (mixB p k).nodes[k]'hkm := by
            rw [HAT.out, ← HA.out]; unfold bindF; rw [if_neg HK2.out]
          rw [e, List.set_getElem_self]
          exact ⟨_, _, _, HV.out⟩
        case measure => simp [intOf]; omega
    · have ek : k = p.nodes.length := by omega
      have e : mixB p k = { p with nodes := p.nodes.map (bindF p.decls) } := by rw [ek]; simp [mixB]
      rw [e] at hpr
      have HPR := hide hpr
      have HFR := hide hfr
      clear hpr hfr e ek
      go_wp2
      go_end0
      exact ⟨rfl, HPR.out, HFR.out⟩
end Go.Proofs.Ytmndgoapkmhglab
