import Derived.Test.YtmndgoapkmhglabB03ParA
namespace Go.Proofs.Ytmndgoapkmhglab
open Go.RowKit
attribute [local go_sem ↓] Go.wp_at_zero Go.wp_at_succ
attribute [local go_sem] Try.fieldTok0 Try.fieldTok1 Try.fieldTok2

set_option maxHeartbeats 1000000 in
set_option maxRecDepth 100000 in
theorem take_yes (w : World) (X : Nat → Prop) (b : Nat) (ts : List Tk) (p : PS) (l : List UInt8) (h : Par w X b ts p) (hn : p.next < ts.length) (hl : ts.length ≤ 1501) (he : (p.hd ts).l = l) :
    Calls Try.prog 129 #[.pointer (some ⟨b, 0, none⟩), .string ⟨l.toArray⟩] w fun e w' => e = .returned (.bool true) ∧ Par w' X b ts (p.adv ts) ∧ Fr X w w' := by
  have hX := h.xlt
  have q1 := str_yes he
  clear he
  go_enter Try.func129, Try.ntmps129
  go_wp2_with fail
  refine (here_any w X b ts p h hn hl).mono ?_
  rintro e w1 ⟨rfl, hb1⟩
  go_wp2_with fail
  refine (step_any w1 X b ts p (h.below hb1) hn hl).mono ?_
  rintro e w2 ⟨rfl, hp2, hb2⟩
  go_wp2_with fail
  go_ret
  exact ⟨rfl, hp2, (Fr.of_below hb1 hX).trans hb2⟩

set_option maxHeartbeats 1000000 in
set_option maxRecDepth 100000 in
theorem take_no (w : World) (X : Nat → Prop) (b : Nat) (ts : List Tk) (p : PS) (l : List UInt8) (h : Par w X b ts p) (hn : p.next < ts.length) (hl : ts.length ≤ 1501) (he : (p.hd ts).l ≠ l) :
    Calls Try.prog 129 #[.pointer (some ⟨b, 0, none⟩), .string ⟨l.toArray⟩] w fun e w' => e = .returned (.bool false) ∧ Par w' X b ts p ∧ Fr X w w' := by
  have hX := h.xlt
  have q1 := str_no he
  clear he
  go_enter Try.func129, Try.ntmps129
  go_wp2_with fail
  refine (here_any w X b ts p h hn hl).mono ?_
  rintro e w1 ⟨rfl, hb1⟩
  go_wp2_with fail
  go_ret
  exact ⟨rfl, h.below hb1, Fr.of_below hb1 hX⟩

theorem take_any (w : World) (X : Nat → Prop) (b : Nat) (ts : List Tk) (p : PS) (l : List UInt8) (h : Par w X b ts p) (hn : p.next < ts.length) (hl : ts.length ≤ 1501) :
    Calls Try.prog 129 #[.pointer (some ⟨b, 0, none⟩), .string ⟨l.toArray⟩] w fun e w' =>
      Res w' X b ts p.delays e (fun _ => .bool true) (fun e => e = .returned (.bool false)) (p.take ts l) ∧ Fr X w w' := by
  by_cases he : (p.hd ts).l = l
  · refine (take_yes w X b ts p l h hn hl he).mono ?_
    rintro e w' ⟨h1, h2, h3⟩
    refine ⟨?_, h3⟩
    unfold PS.take
    rw [if_pos he]
    exact ⟨h1, h2⟩
  · refine (take_no w X b ts p l h hn hl he).mono ?_
    rintro e w' ⟨h1, h2, h3⟩
    refine ⟨?_, h3⟩
    unfold PS.take
    rw [if_neg he]
    exact ⟨h1, p, h2, rfl, hn, rfl⟩

set_option maxHeartbeats 1000000 in
theorem valueOf_any (t : ByteArray) (w : World) (ht : t.size ≤ 18) (hd : ∀ c ∈ t.data.toList, 48 ≤ c.toNat ∧ c.toNat ≤ 57) :
    Calls Try.prog 135 #[.string t] w fun e w' => e = .returned (.int .i64 (valOf t.data.toList : Nat)) ∧ w = w' := by
  go_enter Try.func135, Try.ntmps135
  go_wp2
  go_loop [3, 4] (fun v i => ∃ k : Nat, k ≤ t.size ∧ i = .int .i64 k ∧ v = .int .i64 (valN t.data.toList k : Nat)) (fun _ i => t.size - (intOf i).toNat)
  case atStart => exact ⟨0, by omega, rfl, rfl⟩
  case round =>
    obtain ⟨k, hk, rfl, rfl⟩ := hrel
    by_cases hlt : k < t.size
    · have hl : k < t.data.toList.length := by rw [size_len]; exact hlt
      have hb := valN_17 t.data.toList hd k (by omega) (by omega)
      have HV : Hid (valN t.data.toList (k + 1) = valN t.data.toList k * 10 + ((t[k]'hlt).toNat - 48)) := hide (by rw [valN_succ _ k hl]; rfl)
      have h48 : 48 ≤ (t[k]'hlt).toNat ∧ (t[k]'hlt).toNat ≤ 57 := hd _ (List.getElem_mem (h := hl))
      obtain ⟨h48, h57⟩ := h48
      clear hd
      generalize valN t.data.toList k = V at *
      go_wp2
      go_round
      case rel => exact ⟨k + 1, by omega, by go_num, by rw [HV.out]; go_num⟩
      case measure => simp [intOf]; omega
    · go_wp2
      go_ret
      exact ⟨ret_intN (by rw [← valN_all, size_len, show k = t.size by omega]), rfl⟩

set_option maxHeartbeats 1000000 in
theorem isLiteral_any (n : Nd) (w : World) :
    Calls Try.prog 143 #[n.val] w fun e w' => e = .returned (.bool (isLit n)) ∧ Below w.heap.size w w' := by
  by_cases h0 : n.kind = 0
  · have HF : Hid (isLit n = true) := hide (by simp [isLit, h0])
    have q0 : ((n.kind : Int) == 0) = true := by rw [h0]; rfl
    clear h0
    go_enter Try.func143, Try.ntmps143
    go_wp2
    go_ret
    exact ⟨by rw [HF.out]; rfl, (Below.refl _ _).alloc (Nat.le_refl _) _⟩
  · have q0 : ((n.kind : Int) == 0) = false := by rw [beq_eq_false_iff_ne]; omega
    by_cases h1 : n.kind = 1
    · have HF : Hid (isLit n = true) := hide (by simp [isLit, h1])
      have q1 : ((n.kind : Int) == 1) = true := by rw [h1]; rfl
      clear h0 h1
      go_enter Try.func143, Try.ntmps143
      go_wp2
      go_ret
      exact ⟨by rw [HF.out]; rfl, (Below.refl _ _).alloc (Nat.le_refl _) _⟩
    · have HF : Hid (isLit n = false) := hide (by simp [isLit, h0, h1])
      have q1 : ((n.kind : Int) == 1) = false := by rw [beq_eq_false_iff_ne]; omega
      clear h0 h1
      go_enter Try.func143, Try.ntmps143
      go_wp2
      go_ret
      exact ⟨by rw [HF.out]; rfl, (Below.refl _ _).alloc (Nat.le_refl _) _⟩

/-- what the program's table of signs answers. -/
def opVal (o : Option Nat) : Value := match o with
  | some k => .tuple #[.int .i64 (k : Int), .bool true]
  | none => .tuple #[.int .i64 0, .bool false]

set_option maxHeartbeats 2000000 in
theorem operation_any (t : ByteArray) (w : World) :
    Calls Try.prog 145 #[.string t] w fun e w' => e = .returned (opVal (opOf t.data.toList)) ∧ w = w' := by
  have hc : t.data.toList = [43] ∨ t.data.toList = [45] ∨ t.data.toList = [42] ∨ t.data.toList = [47] ∨ t.data.toList = [60] ∨ t.data.toList = [61] ∨ t.data.toList = [38] ∨ t.data.toList = [124] ∨
      (t.data.toList ≠ [43] ∧ t.data.toList ≠ [45] ∧ t.data.toList ≠ [42] ∧ t.data.toList ≠ [47] ∧ t.data.toList ≠ [60] ∧ t.data.toList ≠ [61] ∧ t.data.toList ≠ [38] ∧ t.data.toList ≠ [124]) := by
    simp only [Ne]
    generalize t.data.toList = l
    by_cases h1 : l = [43]
    · exact .inl h1
    by_cases h2 : l = [45]
    · exact .inr (.inl h2)
    by_cases h3 : l = [42]
    · exact .inr (.inr (.inl h3))
    by_cases h4 : l = [47]
    · exact .inr (.inr (.inr (.inl h4)))
    by_cases h5 : l = [60]
    · exact .inr (.inr (.inr (.inr (.inl h5))))
    by_cases h6 : l = [61]
    · exact .inr (.inr (.inr (.inr (.inr (.inl h6)))))
    by_cases h7 : l = [38]
    · exact .inr (.inr (.inr (.inr (.inr (.inr (.inl h7))))))
    by_cases h8 : l = [124]
    · exact .inr (.inr (.inr (.inr (.inr (.inr (.inr (.inl h8)))))))
    exact .inr (.inr (.inr (.inr (.inr (.inr (.inr (.inr ⟨h1, h2, h3, h4, h5, h6, h7, h8⟩)))))))
  rcases hc with h | h | h | h | h | h | h | h | ⟨h1, h2, h3, h4, h5, h6, h7, h8⟩
  all_goals try (
    have HF := hide (congrArg opOf h)
    have et := str_yes h
    clear h
    go_enter Try.func145, Try.ntmps145
    go_wp2
    go_ret2
    exact ⟨by rw [HF.out]; rfl, rfl⟩)
  have HF : Hid (opOf t.data.toList = none) := hide (by unfold opOf; rw [if_neg h1, if_neg h2, if_neg h3, if_neg h4, if_neg h5, if_neg h6, if_neg h7, if_neg h8])
  have q1 := str_no h1
  have q2 := str_no h2
  have q3 := str_no h3
  have q4 := str_no h4
  have q5 := str_no h5
  have q6 := str_no h6
  have q7 := str_no h7
  have q8 := str_no h8
  clear h1 h2 h3 h4 h5 h6 h7 h8
  go_enter Try.func145, Try.ntmps145
  go_wp2
  go_ret2
  exact ⟨by rw [HF.out]; rfl, rfl⟩

end Go.Proofs.Ytmndgoapkmhglab
