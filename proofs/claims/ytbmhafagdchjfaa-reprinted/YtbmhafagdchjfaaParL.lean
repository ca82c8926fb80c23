import Derived.Test.YtbmhafagdchjfaaParK
namespace Go.Proofs.Ytbmhafagdchjfaa
open Go.RowKit
attribute [local go_sem ↓] Go.wp_at_zero Go.wp_at_succ
attribute [local go_sem] Try.fieldTok0 Try.fieldTok1 Try.fieldTok2

theorem row3 {w : World} {N : Nat} {a0 a1 a2 : Value} {t : TypeId} (h : w.heap[N]? = some (.cells #[a0, a1, a2] t)) :
    w.cell? ⟨N, 0, none⟩ = some a0 ∧ w.cell? ⟨N, 1, none⟩ = some a1 ∧ w.cell? ⟨N, 2, none⟩ = some a2 := by
  refine ⟨?_, ?_, ?_⟩ <;> (rw [cell_of_row w N _ _ _ _ h]; rfl)

theorem one_not {X : Nat → Prop} {w : World} (hX : ∀ k, X k → k < w.heap.size) : ¬ X w.heap.size := fun h => by have := hX _ h; omega

set_option maxHeartbeats 1000000 in
set_option maxRecDepth 100000 in
theorem input_any {ts : List Tk} (ht : TsOk ts) (w : World) (X : Nat → Prop) (b : Nat) (p : PS) (h : Par w X b ts p) (hw : p.Wf ts) :
    Calls Try.prog 64 #[.pointer (some ⟨b, 0, none⟩)] w fun e w' =>
      Res w' X b ts p.delays e (fun _ => .bool true) (fun e => e = .returned (.bool false)) (inputF ts p) ∧ Fr X w w' := by
  have hw1 := adv_wf hw
  have hw2 := adv_wf hw1
  have hdl : ((p.adv ts).adv ts).decls.length ≤ 1501 := by have := hw2.decls; have := hw2.next; have := ht.1; omega
  by_cases hk : ((p.adv ts).hd ts).kind = 1
  · have HR : Hid (inputF ts p = PS.take ts (((p.adv ts).adv ts).declare ⟨0, 0, ((p.adv ts).hd ts).text, ((p.adv ts).hd ts).pos, 0, 0, 0⟩) [59]) := hide (by unfold inputF; rw [if_pos hk])
    have q1 : ((((p.adv ts).hd ts).kind : Int) != 1) = false := by rw [hk]; rfl
    clear hk
    go_enter Try.func64, Try.ntmps64
    go_wp2_with fail
    refine (step_any _ X b ts p h hw.next ht.1).mono ?_
    rintro e w1 ⟨rfl, hp1, hf1⟩
    go_wp2_with fail
    refine (here_any _ _ b ts (p.adv ts) hp1 hw1.next ht.1).mono ?_
    rintro e w2 ⟨rfl, hb2⟩
    have hP2 := hp1.below hb2
    have hF2 : Fr X w w2 := hf1.trans (hp1.fr hb2)
    clear hb2 hf1 hp1
    go_wp2_with fail
    refine (step_any _ (one X w2.heap.size) b ts (p.adv ts) (hP2.one _) hw1.next ht.1).mono ?_
    rintro e w3 ⟨rfl, hp3, hf3⟩
    have hN3 := (hf3.block _ (.inr rfl)).trans (heap_alloc_new w2 _)
    have hF3 : Fr X w w3 := hF2.trans ((Fr.of_below ((Below.refl _ _).alloc (Nat.le_refl _) _) hP2.xlt).trans (hf3.mono fun k hk => .inl hk))
    obtain ⟨d0, d1, d2⟩ := row3 hN3
    clear hf3 hF2 hP2 hN3
    go_wp2_with fail
    refine (declare_any _ _ b ts ((p.adv ts).adv ts) ⟨0, 0, ((p.adv ts).hd ts).text, ((p.adv ts).hd ts).pos, 0, 0, 0⟩ hp3 hdl rfl).mono ?_
    rintro e w4 ⟨rfl, hp4, hf4⟩
    have hF4 := hF3.trans (hf4.mono fun k hk => .inl hk)
    clear hF3 hf4 d0 d1 d2 hp3
    go_wp2_with fail
    refine (take_any _ _ b ts _ [59] hp4 hw2.next ht.1).mono ?_
    rintro e w5 ⟨hr, hf5⟩
    have HF5 := hide (hF4.trans (hf5.mono fun k hk => .inl hk))
    clear hF4 hf5
    cases hy : PS.take ts (((p.adv ts).adv ts).declare ⟨0, 0, ((p.adv ts).hd ts).text, ((p.adv ts).hd ts).pos, 0, 0, 0⟩) [59] with
    | error k =>
      rw [hy] at hr
      obtain ⟨rfl, p', hp', hk1, hk2, hk3⟩ := hr
      have HP := hide hp'
      have HY := hide hy
      have HK1 := hide hk1
      have HK3 := hide hk3
      clear hp' hy hk1 hk3
      go_wp2_with fail
      go_ret
      refine ⟨?_, HF5.out⟩
      rw [HR.out, HY.out]
      exact ⟨rfl, p', Par.less HP.out (fun k hk => .inl hk), HK1.out, hk2, by rw [HK3.out]; simp [PS.declare]⟩
    | ok p' =>
      rw [hy] at hr
      obtain ⟨rfl, hp'⟩ := hr
      have HP := hide hp'
      have HY := hide hy
      clear hp' hy
      go_wp2_with fail
      go_ret
      refine ⟨?_, HF5.out⟩
      rw [HR.out, HY.out]
      exact ⟨rfl, Par.less HP.out (fun k hk => .inl hk)⟩
  · have HR : Hid (inputF ts p = .error (p.adv ts).next) := hide (by unfold inputF; rw [if_neg hk])
    have q1 : ((((p.adv ts).hd ts).kind : Int) != 1) = true := by rw [bne_iff_ne]; omega
    clear hk
    go_enter Try.func64, Try.ntmps64
    go_wp2_with fail
    refine (step_any _ X b ts p h hw.next ht.1).mono ?_
    rintro e w1 ⟨rfl, hp1, hf1⟩
    go_wp2_with fail
    refine (here_any _ _ b ts (p.adv ts) hp1 hw1.next ht.1).mono ?_
    rintro e w2 ⟨rfl, hb2⟩
    have hP2 := hp1.below hb2
    have hF2 : Fr X w w2 := hf1.trans (hp1.fr hb2)
    clear hb2 hf1 hp1
    go_wp2_with fail
    go_ret
    refine ⟨?_, hF2.trans (Fr.of_below ((Below.refl _ _).alloc (Nat.le_refl _) _) hP2.xlt)⟩
    rw [HR.out]
    exact ⟨rfl, p.adv ts, hP2.below ((Below.refl _ _).alloc (Nat.le_refl _) _), rfl, hw1.next, by simp⟩

end Go.Proofs.Ytbmhafagdchjfaa
