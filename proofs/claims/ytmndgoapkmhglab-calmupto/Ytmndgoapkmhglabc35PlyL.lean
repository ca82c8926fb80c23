import Derived.Test.Ytmndgoapkmhglabc22JudC
import Derived.Test.Ytmndgoapkmhglabc32OpenL
namespace Go.Proofs.Ytmndgoapkmhglab
open Go.RowKit
attribute [local go_sem ↓] Go.wp_at_zero Go.wp_at_succ
def pickN (c : Int) (m : Nat) : Nat := (if c < 0 then -(c + 1) else c).toNat % m
theorem pickN_lt (c : Int) {m : Nat} (h : 0 < m) : pickN c m < m := Nat.mod_lt _ h
theorem i64_wrap (x : Int) (h : -9223372036854775808 ≤ x) (h2 : x ≤ 9223372036854775807) : IntKind.i64.wrap x = x := by
  rw [IntKind.wrap_i64]
  omega
set_option maxHeartbeats 1000000 in
theorem pick_any (c : Int) (m : Nat) (w : World) (hc : -9223372036854775808 ≤ c) (hc' : c ≤ 9223372036854775807) (hm : 0 < m) (hm' : m ≤ 1000001) :
    Calls Try.prog 18 #[.int .i64 c, .int .i64 (m : Int)] w fun e w' => e = .returned (.int .i64 (pickN c m : Nat)) ∧ w = w' := by
  have hm0 : ((m : Int) == 0) = false := by rw [beq_eq_false_iff_ne]; omega
  have hm1 : (m : Int) ≠ 0 := by omega
  by_cases h : c < 0
  · have HP : Hid (((pickN c m : Nat) : Int) = (-(c + 1)) % (m : Int)) := hide (by
      unfold pickN; rw [if_pos h, Int.natCast_emod, Int.toNat_of_nonneg (by omega)])
    have e1 : IntKind.i64.wrap (c + 1) = c + 1 := i64_wrap _ (by omega) (by omega)
    have e2 : IntKind.i64.wrap (-(c + 1)) = -(c + 1) := i64_wrap _ (by omega) (by omega)
    go_enter Try.func18, Try.ntmps18
    go_wp2
    go_ret
    exact ⟨by rw [HP.out, ← Int.tmod_eq_emod_of_nonneg (by omega), Int.neg_tmod]; rfl, rfl⟩
  · have HP : Hid (((pickN c m : Nat) : Int) = c % (m : Int)) := hide (by
      unfold pickN; rw [if_neg h, Int.natCast_emod, Int.toNat_of_nonneg (by omega)])
    go_enter Try.func18, Try.ntmps18
    go_wp2
    go_ret
    exact ⟨by rw [HP.out]; rfl, rfl⟩
end Go.Proofs.Ytmndgoapkmhglab
namespace Go.Proofs.Ytmndgoapkmhglab
open Go.RowKit
theorem numL_at : ∀ (l : List UInt8) (k v : Nat), numL k l = some v → k ≤ v ∧ ∃ c, l[v - k]? = some c ∧ W 2 c = true := by
  intro l
  induction l with
  | nil => intro k v h; cases h
  | cons c r ih =>
    intro k v h
    unfold numL at h
    split at h
    · rename_i hc
      cases h
      refine ⟨by omega, ?_⟩
      rw [Nat.add_sub_cancel_left]
      have key : ∀ (r : List UInt8) (c : UInt8), W 2 c = true → ∃ d, (c :: r)[(r.takeWhile (W 2)).length]? = some d ∧ W 2 d = true := by
        intro r
        induction r with
        | nil => intro c hc; exact ⟨c, rfl, hc⟩
        | cons d r ih =>
          intro c hc
          rw [List.takeWhile_cons]
          split
          · rename_i hd; rw [List.length_cons, List.getElem?_cons_succ]; exact ih d hd
          · exact ⟨c, rfl, hc⟩
      exact key r c hc
    · obtain ⟨h1, d, h2, h3⟩ := ih (k + 1) v h
      exact ⟨by omega, d, by rw [show v - k = (v - (k + 1)) + 1 by omega, List.getElem?_cons_succ]; exact h2, h3⟩
theorem mkL_at : ∀ n f k (l : List UInt8), l.length = n → ∀ m ∈ mkL f k l, k ≤ m ∧ ∃ c, l[m - k]? = some c ∧ W 2 c = true := by
  intro n
  induction n using Nat.strongRecOn with
  | _ n ih =>
    intro f k l hn m hm
    cases f with
    | zero => simp [mkL] at hm
    | succ f =>
      cases l with
      | nil => simp [mkL] at hm
      | cons c r =>
        simp only [List.length_cons] at hn
        simp only [mkL] at hm
        have hl := take_drop_len (W 1) r
        have hsp : ∀ j, (r.dropWhile (W 1))[j]? = (c :: r)[j + (1 + (r.takeWhile (W 1)).length)]? := fun j => by
          rw [show j + (1 + (r.takeWhile (W 1)).length) = ((r.takeWhile (W 1)).length + j) + 1 by omega, List.getElem?_cons_succ, ← takeWhile_drop, List.getElem?_drop]
        split at hm
        · rcases List.mem_append.1 hm with hm | hm
          · split at hm
            · cases hv : numL (k + 1 + (r.takeWhile (W 1)).length) (r.dropWhile (W 1)) with
              | none => rw [hv] at hm; simp at hm
              | some v =>
                rw [hv] at hm
                simp at hm
                subst hm
                obtain ⟨h1, d, h2, h3⟩ := numL_at _ _ _ hv
                rw [hsp] at h2
                exact ⟨by omega, d, by rw [← h2]; congr 1; omega, h3⟩
            · simp at hm
          · obtain ⟨h1, d, h2, h3⟩ := ih _ (by omega) f _ _ rfl m hm
            rw [hsp] at h2
            exact ⟨by omega, d, by rw [← h2]; congr 1; omega, h3⟩
        · obtain ⟨h1, d, h2, h3⟩ := ih _ (by omega) f _ _ rfl m hm
          exact ⟨by omega, d, by rw [show m - k = (m - (k + 1)) + 1 by omega, List.getElem?_cons_succ]; exact h2, h3⟩
theorem marks_in (s : ByteArray) : ∀ m ∈ marksF s, m < s.size ∧ 48 ≤ byt s m ∧ byt s m ≤ 57 := by
  intro m hm
  obtain ⟨_, c, h1, h2⟩ := mkL_at _ _ _ _ rfl m hm
  have hl := size_list s
  rw [Nat.sub_zero] at h1
  have hlt : m < s.data.toList.length := by
    rcases Nat.lt_or_ge m s.data.toList.length with h | h
    · exact h
    · rw [List.getElem?_eq_none h] at h1; cases h1
  have hb : byt s m = c.toNat := by unfold byt; rw [List.getD_eq_getElem?_getD, h1]; rfl
  exact ⟨by omega, by rw [hb]; exact cls_two (W_cls h2)⟩
def seatsF (s : ByteArray) : List Nat := (marksF s).map fun m => byt s m - 48
theorem mkL_len : ∀ f k (l : List UInt8), (mkL f k l).length ≤ f := by
  intro f
  induction f with
  | zero => intro k l; simp [mkL]
  | succ f ih =>
    intro k l
    cases l with
    | nil => simp [mkL]
    | cons c r =>
      simp only [mkL]
      have h1 := ih (k + 1) r
      have h2 := ih (k + 1 + (r.takeWhile (W 1)).length) (r.dropWhile (W 1))
      split
      · rw [List.length_append]
        have : ((if c :: r.takeWhile (W 1) = kAt then (numL (k + 1 + (r.takeWhile (W 1)).length) (r.dropWhile (W 1))).toList else [])).length ≤ 1 := by
          split
          · cases numL (k + 1 + (r.takeWhile (W 1)).length) (r.dropWhile (W 1)) <;> simp
          · simp
        omega
      · omega
end Go.Proofs.Ytmndgoapkmhglab
namespace Go.Proofs.Ytmndgoapkmhglab
open Go.RowKit
attribute [local go_sem ↓] Go.wp_at_zero Go.wp_at_succ

end Go.Proofs.Ytmndgoapkmhglab
namespace Go.Proofs.Ytmndgoapkmhglab
open Go.RowKit
structure OneM (E : Nat → Nat) (R : Nat → Bool) (n t : Nat) : Prop where
  is : t = 0 ∨ ∃ q, q < n ∧ R q = true ∧ t = E q + 1
  ge : ∀ q, q < n → R q = true → E q + 1 ≤ t
theorem OneM.zero (E : Nat → Nat) (R : Nat → Bool) : OneM E R 0 0 := ⟨.inl rfl, fun q h => by omega⟩
theorem OneM.keep {E : Nat → Nat} {R : Nat → Bool} {n t : Nat} (h : OneM E R n t) (hn : ¬ (R n = true ∧ t < E n + 1)) : OneM E R (n + 1) t := by
  refine ⟨h.is.imp id (fun ⟨q, h1, h2, h3⟩ => ⟨q, by omega, h2, h3⟩), fun q hq hR => ?_⟩
  rcases Nat.lt_succ_iff_lt_or_eq.1 hq with h' | rfl
  · exact h.ge q h' hR
  · exact Nat.le_of_not_lt fun e => hn ⟨hR, e⟩
theorem OneM.more {E : Nat → Nat} {R : Nat → Bool} {n t : Nat} (h : OneM E R n t) (hR : R n = true) (ht : t < E n + 1) : OneM E R (n + 1) (E n + 1) := by
  refine ⟨.inr ⟨n, Nat.lt_succ_self _, hR, rfl⟩, fun q hq hq2 => ?_⟩
  rcases Nat.lt_succ_iff_lt_or_eq.1 hq with h' | rfl
  · have := h.ge q h' hq2; omega
  · exact Nat.le_refl _
structure LgI (M : Mx) (r k : Nat) (E : Nat → Nat) (t : Nat) : Prop where
  up : ∀ q, q < 4 → aheadF M q (E q) = true
  lo : ∀ q, q < 4 → ∀ m, m ≤ (if q < k then r + 1 else r) → aheadF M q m = true → m ≤ E q
  mu : ∃ q, q < 4 ∧ aheadF M q t = true
  ml : ∀ q, q < 4 → E q ≤ t
theorem LgI.start (M : Mx) : LgI M 0 0 (fun _ => 0) 0 := ⟨fun _ _ => rfl, fun q _ m hm _ => by simpa using hm, ⟨0, by omega, rfl⟩, fun _ _ => Nat.le_refl _⟩
theorem LgI.step {M : Mx} {r k : Nat} {E : Nat → Nat} {t x : Nat} (h : LgI M r k E t) (hk : k < 4) (hx : OneM E (M k) 4 x) : LgI M r (k + 1) (fun q => if q = k then x else E q) (if t < x then x else t) := by
  have hax : aheadF M k x = true := by
    rcases hx.is with rfl | ⟨q, h1, h2, rfl⟩
    · rfl
    · unfold aheadF
      rw [List.any_eq_true]
      exact ⟨q, List.mem_range.2 h1, by rw [Bool.and_eq_true]; exact ⟨h2, h.up q h1⟩⟩
  refine ⟨fun q hq => ?_, fun q hq m hm ha => ?_, ?_, fun q hq => ?_⟩
  · by_cases e : q = k
    · subst e; simpa using hax
    · simpa [e] using h.up q hq
  · by_cases e : q = k
    · subst e
      simp only [if_true]
      cases m with
      | zero => exact Nat.zero_le _
      | succ m =>
        unfold aheadF at ha
        rw [List.any_eq_true] at ha
        obtain ⟨p, hp, ha⟩ := ha
        rw [Bool.and_eq_true] at ha
        have hp4 := List.mem_range.1 hp
        have h1 := h.lo p hp4 m (by split <;> (rw [if_pos (by omega)] at hm; omega)) ha.2
        have h2 := hx.ge p hp4 ha.1
        omega
    · simp only [e, if_false]
      exact h.lo q hq m (by by_cases hqk : q < k
                            · rw [if_pos hqk]; rw [if_pos (by omega)] at hm; exact hm
                            · rw [if_neg hqk]; rw [if_neg (by omega)] at hm; exact hm) ha
  · by_cases e : t < x
    · rw [if_pos e]; exact ⟨k, hk, hax⟩
    · rw [if_neg e]; exact h.mu
  · by_cases e : q = k
    · simp only [e, if_true]; split <;> omega
    · simp only [e, if_false]; have := h.ml q hq; split <;> omega
theorem LgI.round {M : Mx} {r : Nat} {E : Nat → Nat} {t : Nat} (h : LgI M r 4 E t) : LgI M (r + 1) 0 E t :=
  ⟨h.up, fun q hq m hm ha => h.lo q hq m (by rw [if_pos hq]; simpa using hm) ha, h.mu, h.ml⟩
theorem dUp_is (M : Mx) : ∀ n, ∃ q, q < 4 ∧ aheadF M q (dUp M n) = true := by
  intro n
  induction n with
  | zero => exact ⟨0, by omega, rfl⟩
  | succ n ih =>
    unfold dUp
    split
    · rename_i h
      rw [List.any_eq_true] at h
      obtain ⟨q, hq, ha⟩ := h
      exact ⟨q, List.mem_range.1 hq, ha⟩
    · exact ih
theorem LgI.done {M : Mx} {E : Nat → Nat} {t : Nat} (h : LgI M 4 0 E t) (hA : ∀ q n, q < 4 → aheadF M q n = true → n ≤ 3) : t = dUp M 3 := by
  obtain ⟨q, hq, ha⟩ := h.mu
  have h1 := dUp_ge M hq 3 t (hA q t hq ha) ha
  obtain ⟨p, hp, hd⟩ := dUp_is M 3
  have h2 := h.lo p hp (dUp M 3) (by have := dUp_le M 3; simp; omega) hd
  have h3 := h.ml p hp
  omega
theorem ahead_three {ts : List Tk} {L : List Dl} (hlp : lpR ts L = none) (hpl : ∀ x ∈ eqL L, placeD ts x < 4) : ∀ q n, q < 4 → aheadF (waitM ts L) q n = true → n ≤ 3 := by
  intro q n hq ha
  cases n with
  | zero => omega
  | succ n =>
    have h1 := ahead_used hlp hpl ha hq
    have h2 : (usedR ts L).length ≤ 4 := by
      have := List.length_filter_le (usedB ts L) (List.range 4)
      rw [List.length_range] at this
      exact this
    omega
end Go.Proofs.Ytmndgoapkmhglab
