import Derived.Test.YtghomdecppfonaaM08JudC
import Derived.Test.YtghomdecppfonaaM28StrC
import Derived.Test.YtghomdecppfonaaM40SvE
/- the statements' own helpers: same of relaykeep. -/
namespace Go.Proofs.Ytghomdecppfonaa
open Go.RowKit
attribute [local go_sem ↓] Go.wp_at_zero Go.wp_at_succ

set_option maxHeartbeats 1000000 in
theorem ksame_any (w : World) (va vb : Value) (xs ys : List Int) (ha : RowAt w va xs) (hb : RowAt w vb ys) :
    Calls Try.prog 24 #[va, vb] w fun e w' => e = .returned (.bool (xs == ys)) ∧ Below w.heap.size w w' := by
  obtain ⟨A, C, rfl, hm, hc⟩ := ha
  obtain ⟨A', C', rfl, hm', hc'⟩ := hb
  by_cases hl : xs.length = ys.length
  · have q1 : ((xs.length : Int) != (ys.length : Int)) = false := by rw [hl]; simp
    have HA := hide hc
    have HB := hide hc'
    have HL := hide hl
    clear hc hc' hl
    go_enter Try.func24, Try.ntmps24
    go_wp2
    go_loopw [5] (fun vi wr => ∃ m : Nat, m ≤ xs.length ∧ vi = .int .i64 m ∧ Below w.heap.size w wr ∧ ∀ j, j < m → (hx : j < xs.length) → (hy : j < ys.length) → xs[j] = ys[j]) (fun vi _ => xs.length - (intOf vi).toNat)
    case atStart => exact ⟨0, Nat.zero_le _, rfl, Below.refl _ _, fun j hj => by omega⟩
    case round =>
      obtain ⟨m, hm, rfl, hbx, hrec⟩ := hrel
      have HRC := hide hrec
      clear hrec
      by_cases hml : m < xs.length
      · obtain ⟨b, o, rfl, hb, hr⟩ := HA.out (by omega)
        obtain ⟨b', o', rfl, hb', hr'⟩ := HB.out (by have := HL.out; omega)
        have hmy : m < ys.length := by have := HL.out; omega
        have x1 := (hbx.cell (p := ⟨b, o + m, none⟩) hb).trans (hr m hml)
        have x2 := (hbx.cell (p := ⟨b', o' + m, none⟩) hb').trans (hr' m hmy)
        have j3 : (0 : Int) ≤ (m : Int) := by omega
        have j4 : (m : Int) < (xs.length : Int) := by omega
        have j5 : (m : Int) < (ys.length : Int) := by omega
        by_cases he : xs[m] = ys[m]
        · have HN : Hid (∀ j, j < m + 1 → (hx : j < xs.length) → (hy : j < ys.length) → xs[j] = ys[j]) := hide (fun j hj hx hy => by
            by_cases e : j = m
            · subst e; exact he
            · exact HRC.out j (by omega) hx hy)
          have q2 : (xs[m] != ys[m]) = false := by rw [he]; simp
          generalize xs[m] = u at x1 q2
          generalize ys[m] = v at x2 q2
          clear hr hr' he
          go_wp2_with fail
          go_quiet (fail)
          go_wp2
          go_roundw
          case rel => exact ⟨m + 1, by omega, by go_num, by first | exact hbx | exact below_drewN hbx _, HN.out⟩
          case measure => simp [intOf]; omega
        · have HN := hide (row_ne hml hmy he)
          have q2 : (xs[m] != ys[m]) = true := by rw [bne_iff_ne]; exact he
          generalize xs[m] = u at x1 q2
          generalize ys[m] = v at x2 q2
          clear hr hr' he
          go_wp2_with fail
          go_quiet (fail)
          go_wp2
          go_ret
          exact ⟨by rw [HN.out]; rfl, by first | exact hbx | exact below_drewN hbx _⟩
      · have em : m = xs.length := by omega
        subst em
        have HN := hide (row_eq HL.out (fun j hx hy => HRC.out j hx hx hy))
        have z1 : ¬ (xs.length : Int) < (xs.length : Int) := by omega
        clear HRC
        go_wp2
        go_ret
        exact ⟨by rw [HN.out]; rfl, hbx⟩
  · have q1 : ((xs.length : Int) != (ys.length : Int)) = true := by rw [bne_iff_ne]; omega
    have HN : Hid ((xs == ys) = false) := hide (by rw [beq_eq_false_iff_ne]; rintro rfl; exact hl rfl)
    clear hc hc' hl
    go_enter Try.func24, Try.ntmps24
    go_wp2
    go_ret
    exact ⟨by rw [HN.out]; rfl, Below.refl _ _⟩

end Go.Proofs.Ytghomdecppfonaa

namespace Go.Proofs.Ytghomdecppfonaa
open Go.RowKit
attribute [local go_sem ↓] Go.wp_at_zero Go.wp_at_succ

/-- which of m things a raw number speaks of. -/
def pickN (c : Int) (m : Nat) : Nat := (if c < 0 then -(c + 1) else c).toNat % m
theorem pickN_lt (c : Int) {m : Nat} (h : 0 < m) : pickN c m < m := Nat.mod_lt _ h

theorem i64_wrap (x : Int) (h : -9223372036854775808 ≤ x) (h2 : x ≤ 9223372036854775807) : IntKind.i64.wrap x = x := by
  rw [IntKind.wrap_i64]
  omega

set_option maxHeartbeats 1000000 in
theorem pick_any (c : Int) (m : Nat) (w : World) (hc : -9223372036854775808 ≤ c) (hc' : c ≤ 9223372036854775807) (hm : 0 < m) (hm' : m ≤ 1000000) :
    Calls Try.prog 20 #[.int .i64 c, .int .i64 (m : Int)] w fun e w' => e = .returned (.int .i64 (pickN c m : Nat)) ∧ w = w' := by
  have hm0 : ((m : Int) == 0) = false := by rw [beq_eq_false_iff_ne]; omega
  have hm1 : (m : Int) ≠ 0 := by omega
  by_cases h : c < 0
  · have HP : Hid (((pickN c m : Nat) : Int) = (-(c + 1)) % (m : Int)) := hide (by
      unfold pickN; rw [if_pos h, Int.natCast_emod, Int.toNat_of_nonneg (by omega)])
    have e1 : IntKind.i64.wrap (c + 1) = c + 1 := i64_wrap _ (by omega) (by omega)
    have e2 : IntKind.i64.wrap (-(c + 1)) = -(c + 1) := i64_wrap _ (by omega) (by omega)
    go_enter Try.func20, Try.ntmps20
    go_wp2
    go_ret
    exact ⟨by rw [HP.out, ← Int.tmod_eq_emod_of_nonneg (by omega), Int.neg_tmod]; rfl, rfl⟩
  · have HP : Hid (((pickN c m : Nat) : Int) = c % (m : Int)) := hide (by
      unfold pickN; rw [if_neg h, Int.natCast_emod, Int.toNat_of_nonneg (by omega)])
    go_enter Try.func20, Try.ntmps20
    go_wp2
    go_ret
    exact ⟨by rw [HP.out]; rfl, rfl⟩

end Go.Proofs.Ytghomdecppfonaa

/- Plain mathematics: the streams hang on what has come in so far. -/
namespace Go.Proofs.Ytghomdecppfonaa

theorem evT_upto (ts : List Tk) {V V' : List UInt8 → Nat → Int} : ∀ (t : Ast) (i n : Nat), (∀ w n', n' ≤ n → V w n' = V' w n') → evT ts V t i n = evT ts V' t i n :=
  fun t i n h => evT_congr ts t i n (fun j _ => h _ n (Nat.le_refl _)) (fun w n' hn => h w n' (by omega))

theorem solF_ins (ts : List Tk) (L : List Dl) {ins ins' : List (List Int)} {K : Nat} (h : ∀ i k, k ≤ K → elemF ins i k = elemF ins' i k) : ∀ f j n, n ≤ K → solF ts L ins f j n = solF ts L ins' f j n := by
  intro f
  induction f with
  | zero => intro j n _; rfl
  | succ f ih =>
    intro j n hn
    simp only [solF, bodyV]
    cases (eqL L)[j]? with
    | none => rfl
    | some x =>
      refine evT_upto ts x.t _ n fun w n' hn' => ?_
      unfold valV
      cases inIx ts L w with
      | some i => exact h i n' (by omega)
      | none =>
        cases eqIx ts L w with
        | none => rfl
        | some l => exact ih l n' (by omega)

/-- what comes in later turns nothing. -/
theorem sol_ins (ts : List Tk) (L : List Dl) {ins ins' : List (List Int)} {j n : Nat} (h : ∀ i k, k ≤ n → elemF ins i k = elemF ins' i k) : sol ts L ins j n = sol ts L ins' j n :=
  solF_ins ts L h _ j n (Nat.le_refl _)

theorem elem_cut (ins : List (List Int)) (m i k : Nat) (h : k < m) : elemF (ins.map fun l => l.take m) i k = elemF ins i k := by
  unfold elemF
  simp only [List.getD_eq_getElem?_getD, List.getElem?_map]
  cases ins[i]? with
  | none => rfl
  | some l => simp only [Option.map_some, Option.getD_some]; rw [List.getElem?_take, if_pos h]

end Go.Proofs.Ytghomdecppfonaa
