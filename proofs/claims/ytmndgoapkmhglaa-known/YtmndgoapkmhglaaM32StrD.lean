import Derived.Test.YtmndgoapkmhglaaM06JudA
import Derived.Test.YtmndgoapkmhglaaM10Wide
import Derived.Test.YtmndgoapkmhglaaM21StrE
import Derived.Test.YtmndgoapkmhglaaM24HeldT
import Derived.Test.YtmndgoapkmhglaaM25OpenL
import Derived.Test.YtmndgoapkmhglaaM31GoodT
/- Streams of the program. -/
namespace Go.Proofs.Ytmndgoapkmhglaa
open Go.RowKit
attribute [local go_sem ↓] Go.wp_at_zero Go.wp_at_succ

set_option maxHeartbeats 1000000 in
set_option maxRecDepth 100000 in
theorem streams_any (s : ByteArray) (hs : s.size ≤ maxLen) (w : World) (vX : Value) (ins : List (List Int)) (hX : LsAt w vX ins) (n : Int) :
    Calls Try.prog 24 #[.string s, vX, .int .i64 n] w fun e w' => ∃ v, e = .returned (.tuple #[v, .int .i64 (strR s n : Int)]) ∧ StrQ s ins n w.heap.size w' v ∧ Below w.heap.size w w' := by
  have HX := hide hX
  clear hX
  go_enter Try.func24, Try.ntmps24
  go_wp2_with fail
  refine (text_any s w hs (good_parse s)).mono ?_
  rintro e w1 ⟨⟨vd, vn, rfl, hr⟩, hb1⟩
  rcases hr with ⟨h0, rfl, rfl⟩ | ⟨h0, p, hp, ⟨a1, n1, c1, rfl⟩, ⟨a2, n2, c2, rfl⟩, hod, hon, hdn⟩
  · have q1 : (((textF s).1 : Int) != 0) = true := by rw [bne_iff_ne]; omega
    have HSR : Hid (strR s n = (textF s).1) := hide (by unfold strR; rw [if_pos h0])
    have H0 := hide h0
    clear h0
    go_wp2
    go_ret2
    exact ⟨_, by rw [HSR.out]; rfl, by unfold StrQ; rw [HSR.out, if_neg H0.out]; exact ⟨_, _, rfl⟩, hb1.alloc hb1.size _⟩
  · have q1 : (((textF s).1 : Int) != 0) = false := by rw [h0]; rfl
    by_cases hn : n < 0 ∨ 200 < n
    · have HSR : Hid (strR s n = 10) := hide (by unfold strR; rw [if_neg (by simpa using h0), if_pos hn])
      have hc : n < 0 ∨ (¬ n < 0 ∧ 200 < n) := by omega
      have HB1 := hide hb1
      clear hn h0 hod hon hdn hp hb1
      rcases hc with z1 | ⟨z1, z2⟩
      all_goals
        go_wp2
        go_ret2
        exact ⟨_, by rw [HSR.out]; rfl, by unfold StrQ; rw [HSR.out]; exact ⟨_, _, rfl⟩, HB1.out.alloc HB1.out.size _⟩
    · have z1 : ¬ n < 0 := by omega
      have z2 : ¬ 200 < n := by omega
      have HSR : Hid (strR s n = 0) := hide (by unfold strR; rw [if_neg (by simpa using h0), if_neg hn])
      obtain ⟨k, rfl⟩ : ∃ k : Nat, n = (k : Int) := ⟨n.toNat, by omega⟩
      have hs' := text_le h0
      have hg := good_parse s hs' p hp
      obtain ⟨L, hG, hR, hO⟩ := good_text h0
      obtain ⟨g1, g2, hB⟩ := held_of hs' hp hG
      have hi := declsInv _ _ _ DInv.start hp
      have hbl : (boundN p).length = p.nodes.length := by simp [boundN]
      have hcovB : ∀ i, i < (boundN p).length → ∃ d ∈ p.decls, d.root ≤ i ∧ i < d.fin := fun i h => hi.cover i (by omega)
      have hnm0 : ∀ m ∈ boundN p, m.kind = 2 → 0 ≤ m.decl ∧ m.decl < (p.decls.length : Int) := fun m hm hk => by
        have h5 : badNameF p.decls (boundN p) 0 p.decls = none := by
          have h6 : (meaningF p.decls (boundN p)).1 = 0 := by
            have := h0
            unfold textF at this
            rw [if_neg (by omega), hp] at this
            exact this
          unfold meaningF at h6
          split at h6
          · cases h6
          · split at h6
            · cases h6
            · rename_i _ h7; exact h7
        exact ⟨hg.names h5 m hm hk, (hg.wf.decl m hm hk).2⟩
      obtain ⟨NV, hM, hS⟩ := meant_of hR hG.types ins g1 g2 hB hcovB hg.wf.segs hnm0
      have hrk := ranked_of hR hB
      have h16 : p.decls.length ≤ 16 := by
        have e1 : L.length = p.decls.length := hB.dx.len
        have e2 : (eqL L).length + (inL L).length = L.length := by
          have : ∀ l : List Dl, (eqL l).length + (inL l).length = l.length := by
            intro l
            induction l with
            | nil => rfl
            | cons x r ih =>
              by_cases hx : x.kind = 0
              · simp [eqL, inL, hx] at ih ⊢; omega
              · simp [eqL, inL, hx] at ih ⊢; omega
          exact this L
        have := hR.few
        omega
      have hel : (eqsF p.decls).length = (eqL L).length := by
        have hE : All2 (DX (toks s) (bindF p.decls) (boundN p)) (eqsF p.decls) (eqL L) := All2.filter (fun d x h => by rw [h.kind]) hB.dx
        exact hE.len.symm
      have HPA : Hid (∀ o, o = .cells #[.slice a1 n1 c1, .slice a2 n2 c2] 83 → ProgAt (w1.alloc o) w1.heap.size p.decls (boundN p) (.slice a1 n1 c1) (.slice a2 n2 c2)) := hide (fun o ho => by
        subst ho
        exact ⟨by simp, (World.cell?_alloc_at _ _ _ _ rfl).trans rfl, (World.cell?_alloc_at _ _ _ _ rfl).trans rfl, (own_zero hod).alloc _, by rw [hbl]; exact (own_zero hon).alloc _⟩)
      have HSO := hide (fun W hW hL => sof_any W w1.heap.size p.decls (boundN p) (.slice a1 n1 c1) (.slice a2 n2 c2) vX ins NV hW hg.wf hL hM h16 _ hrk k (by omega) (sol (toks s) L ins) hS)
      have HG := hide hG
      have HEL := hide hel
      have HB1 := hide hb1
      clear h0 hn hod hon hdn hg hp hb1 hbl hM hS hrk h16 hB hG hR hO g1 g2 hi hcovB hnm0 hel
      go_wp2_with fail
      refine (HSO.out _ (HPA.out _ rfl) (HX.out.below (HB1.out.alloc HB1.out.size _))).mono ?_
      rintro e w2 ⟨v, rfl, hO, hb2⟩
      have HO := hide hO
      have HB2 := hide hb2
      clear hO hb2 HPA HSO
      go_wp2
      go_ret2
      refine ⟨v, by rw [HSR.out]; rfl, ?_, (HB1.out.alloc HB1.out.size _).trans (HB2.out.mono (by have := HB1.out.size; simp; omega))⟩
      unfold StrQ
      rw [if_pos HSR.out]
      intro L' hG' hR'
      obtain ⟨se, si⟩ := spell_same (toks_F s) HG.out.sp hG'.sp
      rw [Int.toNat_natCast, ← se, ← HEL.out, ← sol_same se si ins]
      obtain ⟨a, gr, rc, R, h1, h2, h3, h4, h5⟩ := HO.out.mat
      have hsz := HB1.out.size
      exact Outs.own ⟨⟨a, gr, rc, R, h1, h2, h3, fun i hi => by have := h4 i hi; simp at this; omega, by simp at h5; omega⟩⟩ (by omega)

end Go.Proofs.Ytmndgoapkmhglaa

/- the statements' own helpers: same of relaykeep. -/
namespace Go.Proofs.Ytmndgoapkmhglaa
open Go.RowKit
attribute [local go_sem ↓] Go.wp_at_zero Go.wp_at_succ

set_option maxHeartbeats 1000000 in
theorem ksame_any (w : World) (va vb : Value) (xs ys : List Int) (ha : RowAt w va xs) (hb : RowAt w vb ys) :
    Calls Try.prog 26 #[va, vb] w fun e w' => e = .returned (.bool (xs == ys)) ∧ Below w.heap.size w w' := by
  obtain ⟨A, C, rfl, hm, hc⟩ := ha
  obtain ⟨A', C', rfl, hm', hc'⟩ := hb
  by_cases hl : xs.length = ys.length
  · have q1 : ((xs.length : Int) != (ys.length : Int)) = false := by rw [hl]; simp
    have HA := hide hc
    have HB := hide hc'
    have HL := hide hl
    clear hc hc' hl
    go_enter Try.func26, Try.ntmps26
    go_wp2
    go_loopw [5] (fun vi wr => ∃ m : Nat, m ≤ xs.length ∧ vi = .int .i64 m ∧ Below w.heap.size w wr ∧ ∀ j, j < m → (hx : j < xs.length) → (hy : j < ys.length) → xs[j] = ys[j]) (fun vi _ => xs.length - (intOf vi).toNat)
    case atStart => exact ⟨0, Nat.zero_le _, rfl, Below.refl _ _, fun j hj => by omega⟩
    case round =>
      obtain ⟨m, hm, rfl, hbx, hrec⟩ := hrel
      have HRC := hide hrec
      clear hrec
      by_cases hml : m < xs.length
      · obtain ⟨b, o, rfl, hb, hr⟩ := HA.out (by omega)
        obtain ⟨b', o', rfl, hb', hr'⟩ := HB.out (by have := HL.out; omega)
        have hmy : m < ys.length := by have := HL.out; omega
        have x1 := (hbx.cell (p := ⟨b, o + m, none⟩) hb).trans (hr m hml)
        have x2 := (hbx.cell (p := ⟨b', o' + m, none⟩) hb').trans (hr' m hmy)
        have j3 : (0 : Int) ≤ (m : Int) := by omega
        have j4 : (m : Int) < (xs.length : Int) := by omega
        have j5 : (m : Int) < (ys.length : Int) := by omega
        by_cases he : xs[m] = ys[m]
        · have HN : Hid (∀ j, j < m + 1 → (hx : j < xs.length) → (hy : j < ys.length) → xs[j] = ys[j]) := hide (fun j hj hx hy => by
            by_cases e : j = m
            · subst e; exact he
            · exact HRC.out j (by omega) hx hy)
          have q2 : (xs[m] != ys[m]) = false := by rw [he]; simp
          generalize xs[m] = u at x1 q2
          generalize ys[m] = v at x2 q2
          clear hr hr' he
          go_wp2_with fail
          go_quiet (fail)
          go_wp2
          go_roundw
          case rel => exact ⟨m + 1, by omega, by go_num, by first | exact hbx | exact below_drewN hbx _, HN.out⟩
          case measure => simp [intOf]; omega
        · have HN := hide (row_ne hml hmy he)
          have q2 : (xs[m] != ys[m]) = true := by rw [bne_iff_ne]; exact he
          generalize xs[m] = u at x1 q2
          generalize ys[m] = v at x2 q2
          clear hr hr' he
          go_wp2_with fail
          go_quiet (fail)
          go_wp2
          go_ret
          exact ⟨by rw [HN.out]; rfl, by first | exact hbx | exact below_drewN hbx _⟩
      · have em : m = xs.length := by omega
        subst em
        have HN := hide (row_eq HL.out (fun j hx hy => HRC.out j hx hx hy))
        have z1 : ¬ (xs.length : Int) < (xs.length : Int) := by omega
        clear HRC
        go_wp2
        go_ret
        exact ⟨by rw [HN.out]; rfl, hbx⟩
  · have q1 : ((xs.length : Int) != (ys.length : Int)) = true := by rw [bne_iff_ne]; omega
    have HN : Hid ((xs == ys) = false) := hide (by rw [beq_eq_false_iff_ne]; rintro rfl; exact hl rfl)
    clear hc hc' hl
    go_enter Try.func26, Try.ntmps26
    go_wp2
    go_ret
    exact ⟨by rw [HN.out]; rfl, Below.refl _ _⟩

end Go.Proofs.Ytmndgoapkmhglaa

namespace Go.Proofs.Ytmndgoapkmhglaa
open Go.RowKit
attribute [local go_sem ↓] Go.wp_at_zero Go.wp_at_succ

/-- which of m things a raw number speaks of. -/
def pickN (c : Int) (m : Nat) : Nat := (if c < 0 then -(c + 1) else c).toNat % m
theorem pickN_lt (c : Int) {m : Nat} (h : 0 < m) : pickN c m < m := Nat.mod_lt _ h

theorem i64_wrap (x : Int) (h : -9223372036854775808 ≤ x) (h2 : x ≤ 9223372036854775807) : IntKind.i64.wrap x = x := by
  rw [IntKind.wrap_i64]
  omega

set_option maxHeartbeats 1000000 in
theorem pick_any (c : Int) (m : Nat) (w : World) (hc : -9223372036854775808 ≤ c) (hc' : c ≤ 9223372036854775807) (hm : 0 < m) (hm' : m ≤ 1000000) :
    Calls Try.prog 22 #[.int .i64 c, .int .i64 (m : Int)] w fun e w' => e = .returned (.int .i64 (pickN c m : Nat)) ∧ w = w' := by
  have hm0 : ((m : Int) == 0) = false := by rw [beq_eq_false_iff_ne]; omega
  have hm1 : (m : Int) ≠ 0 := by omega
  by_cases h : c < 0
  · have HP : Hid (((pickN c m : Nat) : Int) = (-(c + 1)) % (m : Int)) := hide (by
      unfold pickN; rw [if_pos h, Int.natCast_emod, Int.toNat_of_nonneg (by omega)])
    have e1 : IntKind.i64.wrap (c + 1) = c + 1 := i64_wrap _ (by omega) (by omega)
    have e2 : IntKind.i64.wrap (-(c + 1)) = -(c + 1) := i64_wrap _ (by omega) (by omega)
    go_enter Try.func22, Try.ntmps22
    go_wp2
    go_ret
    exact ⟨by rw [HP.out, ← Int.tmod_eq_emod_of_nonneg (by omega), Int.neg_tmod]; rfl, rfl⟩
  · have HP : Hid (((pickN c m : Nat) : Int) = c % (m : Int)) := hide (by
      unfold pickN; rw [if_neg h, Int.natCast_emod, Int.toNat_of_nonneg (by omega)])
    go_enter Try.func22, Try.ntmps22
    go_wp2
    go_ret
    exact ⟨by rw [HP.out]; rfl, rfl⟩

end Go.Proofs.Ytmndgoapkmhglaa

/- Plain mathematics: the streams hang on what has come in so far. -/
namespace Go.Proofs.Ytmndgoapkmhglaa

theorem evT_upto (ts : List Tk) {V V' : List UInt8 → Nat → Int} : ∀ (t : Ast) (i n : Nat), (∀ w n', n' ≤ n → V w n' = V' w n') → evT ts V t i n = evT ts V' t i n :=
  fun t i n h => evT_congr ts t i n (fun j _ => h _ n (Nat.le_refl _)) (fun w n' hn => h w n' (by omega))

theorem solF_ins (ts : List Tk) (L : List Dl) {ins ins' : List (List Int)} {K : Nat} (h : ∀ i k, k ≤ K → elemF ins i k = elemF ins' i k) : ∀ f j n, n ≤ K → solF ts L ins f j n = solF ts L ins' f j n := by
  intro f
  induction f with
  | zero => intro j n _; rfl
  | succ f ih =>
    intro j n hn
    simp only [solF, bodyV]
    cases (eqL L)[j]? with
    | none => rfl
    | some x =>
      refine evT_upto ts x.t _ n fun w n' hn' => ?_
      unfold valV
      cases inIx ts L w with
      | some i => exact h i n' (by omega)
      | none =>
        cases eqIx ts L w with
        | none => rfl
        | some l => exact ih l n' (by omega)

/-- what comes in later turns nothing. -/
theorem sol_ins (ts : List Tk) (L : List Dl) {ins ins' : List (List Int)} {j n : Nat} (h : ∀ i k, k ≤ n → elemF ins i k = elemF ins' i k) : sol ts L ins j n = sol ts L ins' j n :=
  solF_ins ts L h _ j n (Nat.le_refl _)

theorem elem_cut (ins : List (List Int)) (m i k : Nat) (h : k < m) : elemF (ins.map fun l => l.take m) i k = elemF ins i k := by
  unfold elemF
  simp only [List.getD_eq_getElem?_getD, List.getElem?_map]
  cases ins[i]? with
  | none => rfl
  | some l => simp only [Option.map_some, Option.getD_some]; rw [List.getElem?_take, if_pos h]

end Go.Proofs.Ytmndgoapkmhglaa
