import Derived.Test.Ytmndgoapkmhglabc13RefI
import Derived.Test.Ytmndgoapkmhglabc30LawP
import Derived.Test.Ytmndgoapkmhglabc32OpenL
import Derived.Test.Ytmndgoapkmhglabc33AcA
import Derived.Test.Ytmndgoapkmhglabc37WkA
import Derived.Test.Ytmndgoapkmhglabc41AcF
import Derived.Test.Ytmndgoapkmhglabc47BdA
namespace Go.Proofs.Ytmndgoapkmhglab
open Go.RowKit
attribute [local go_sem ↓] Go.wp_at_zero Go.wp_at_succ
def latE (s : ByteArray) (b : BdF) (k : Int) : Nat := if (textF s).1 ≠ 0 then (textF s).1 else if fitF b = true ∧ 0 ≤ k ∧ k ≤ 200 then 0 else 10
def latM (M : Mx) (b : BdF) (k : Int) : Int := b.tmax + 2 * (dUp M 3 : Int) * (b.tmax + b.dmax) + 2 * k * ((dUp M 3 : Int) + 1) * (b.tmax + b.dmax)
abbrev waitsL (s : ByteArray) (L : List Dl) : Mx := waitsP ((eqL L).map (placeD (toks s))) (routesR (toks s) L) noM
def LatQ (s : ByteArray) (b : BdF) (k : Int) (t : Int) : Prop := if latE s b k = 0 then ∀ L, RGood s L → ROk (toks s) L → t = latM (waitsL s L) b k else t = 0
theorem fit_parts {b : BdF} (h : fitF b = true) : 1 ≤ b.tmin ∧ b.tmin ≤ b.tmax ∧ b.tmax ≤ 1000000 ∧ 0 ≤ b.dmin ∧ b.dmin ≤ b.dmax ∧ b.dmax < b.tmin := by
  simp [fitF] at h
  omega
theorem wrap_id {x : Int} (h1 : -9223372036854775808 ≤ x) (h2 : x ≤ 9223372036854775807) : IntKind.i64.wrap x = x := by rw [IntKind.wrap_i64]; omega
theorem lat_num {t1 d1 k : Int} {D : Nat} (a1 : 0 ≤ t1) (a2 : t1 ≤ 1000000) (a3 : 0 ≤ d1) (a4 : d1 ≤ 1000000) (k1 : 0 ≤ k) (k2 : k ≤ 200) (hD : D ≤ 3) :
    ∃ l A B C E F G J T : Int, IntKind.i64.wrap (t1 + d1) = l ∧ IntKind.i64.wrap (2 * (D : Int)) = A ∧ IntKind.i64.wrap (A * l) = B ∧ IntKind.i64.wrap (t1 + B) = C ∧ IntKind.i64.wrap (2 * k) = E ∧ IntKind.i64.wrap ((D : Int) + 1) = F ∧ IntKind.i64.wrap (E * F) = G ∧ IntKind.i64.wrap (G * l) = J ∧ IntKind.i64.wrap (C + J) = T ∧
      T = t1 + 2 * (D : Int) * (t1 + d1) + 2 * k * ((D : Int) + 1) * (t1 + d1) := by
  have b1 : 0 ≤ 2 * (D : Int) * (t1 + d1) := Int.mul_nonneg (by omega) (by omega)
  have b2 : 2 * (D : Int) * (t1 + d1) ≤ 6 * 2000000 := Int.mul_le_mul (by omega) (by omega) (by omega) (by omega)
  have b3 : 0 ≤ 2 * k * ((D : Int) + 1) := Int.mul_nonneg (by omega) (by omega)
  have b4 : 2 * k * ((D : Int) + 1) ≤ 400 * 4 := Int.mul_le_mul (by omega) (by omega) (by omega) (by omega)
  have b5 : 0 ≤ 2 * k * ((D : Int) + 1) * (t1 + d1) := Int.mul_nonneg b3 (by omega)
  have b6 : 2 * k * ((D : Int) + 1) * (t1 + d1) ≤ 1600 * 2000000 := Int.mul_le_mul (by omega) (by omega) (by omega) (by omega)
  exact ⟨_, _, _, _, _, _, _, _, _, wrap_id (by omega) (by omega), wrap_id (by omega) (by omega), wrap_id (by omega) (by omega), wrap_id (by omega) (by omega), wrap_id (by omega) (by omega), wrap_id (by omega) (by omega), wrap_id (by omega) (by omega), wrap_id (by omega) (by omega), wrap_id (by omega) (by omega), rfl⟩
set_option maxHeartbeats 2000000 in
set_option maxRecDepth 100000 in
theorem pblatest_any (w : World) (q : Nat) (ds : List Dc) (ns : List Nd) (vd vn : Value) (h : ProgAt w q ds ns vd vn) (hwf : ProgWf ds ns) (hL : ∀ r ∈ linksF ds ns, r.src < (eqsF ds).length ∧ r.dst < 4) (hll : (linksF ds ns).length ≤ 6100) (M : Mx) (hM : waitsM (eqsF ds) (linksF ds ns) noM = M) (hA : ∀ q n, q < 4 → aheadF M q n = true → n ≤ 3) (b : BdF) (hb : fitF b = true) (k : Int) (hk : 0 ≤ k ∧ k ≤ 200) :
    Calls Try.prog 33 #[.pointer (some ⟨q, 0, none⟩), b.val, .int .i64 k] w fun e w' => e = .returned (.int .i64 (latM M b k)) ∧ Below w.heap.size w w' := by
  obtain ⟨p1, p2, p3, p4, p5, p6⟩ := fit_parts hb
  have HLM : Hid (latM M b k = b.tmax + 2 * (dUp M 3 : Int) * (b.tmax + b.dmax) + 2 * k * ((dUp M 3 : Int) + 1) * (b.tmax + b.dmax)) := hide rfl
  obtain ⟨t0, t1, d0, d1⟩ := b
  simp only [] at p1 p2 p3 p4 p5 p6 HLM
  obtain ⟨b0, hb0⟩ : ∃ b0, b0 = w.alloc (.cells #[.int .i64 t0, .int .i64 t1, .int .i64 d0, .int .i64 d1] 23) := ⟨_, rfl⟩
  have HW0 : Hid (Below w.heap.size w b0) := hide (by rw [hb0]; exact (Below.refl _ _).alloc (Nat.le_refl _) _)
  have HC : Hid (∀ W : World, Below b0.heap.size b0 W → W.cell? ⟨w.heap.size, 1, none⟩ = some (.int .i64 t1) ∧ W.cell? ⟨w.heap.size, 3, none⟩ = some (.int .i64 d1)) := hide fun W hW => by
    have hy : W.heap[w.heap.size]? = some (.cells #[.int .i64 t0, .int .i64 t1, .int .i64 d0, .int .i64 d1] 23 (0, 0)) := by
      rw [hW.block _ (by rw [hb0]; simp), hb0]; exact heap_alloc_new _ _
    refine ⟨?_, ?_⟩ <;> (rw [cell_of_row _ _ _ _ _ _ hy]; rfl)
  have HWT := hide (waits_any b0 q ds ns vd vn (h.below HW0.out) hwf hL hll)
  rw [hM] at HWT
  have HA := hide hA
  rw [hb0] at HWT
  have HB0 := hide hb0
  clear h hwf hL hll hM hA hb hb0
  go_enter Try.func33, Try.ntmps33
  go_wp2_with fail
  refine HWT.out.mono ?_
  rw [← HB0.out]
  rintro e w1 ⟨rfl, hM1, hb1⟩
  have HB1 := hide hb1
  have HM1 := hide hM1
  clear hM1 hb1
  go_wp2_with fail
  refine (plong_any w1 _ _ M HM1.out HA.out).mono ?_
  rintro e w2 ⟨rfl, hb2⟩
  have hb02 : Below b0.heap.size b0 w2 := HB1.out.trans (hb2.mono HB1.out.size)
  obtain ⟨c1, c3⟩ := HC.out w2 hb02
  have HB2 : Hid (Below w.heap.size w w2) := hide (HW0.out.trans (hb02.mono HW0.out.size))
  have hD := dUp_le M 3
  obtain ⟨l, A, B, C, E, F, G, J, T, g1, g2, g3, g4, g5, g6, g7, g8, g9, g10⟩ := lat_num (t1 := t1) (d1 := d1) (k := k) (D := dUp M 3) (by omega) (by omega) (by omega) (by omega) hk.1 hk.2 hD
  have HT : Hid (T = latM M ⟨t0, t1, d0, d1⟩ k) := hide (by rw [HLM.out, g10])
  generalize dUp M 3 = D at *
  clear hb2 hb02 g10 HLM hk hD
  go_wp2
  go_ret
  exact ⟨by rw [← HT.out]; rfl, HB2.out⟩
set_option maxHeartbeats 2000000 in
set_option maxRecDepth 100000 in
theorem platest_any (s : ByteArray) (hs : s.size ≤ maxLen) (b : BdF) (k : Int) (w : World) :
    Calls Try.prog 8 #[.string s, b.val, .int .i64 k] w fun e w' => ∃ t, e = .returned (.tuple #[.int .i64 t, .int .i64 (latE s b k : Int)]) ∧ LatQ s b k t ∧ Below w.heap.size w w' := by
  have HLQ : Hid (∀ t, LatQ s b k t = if latE s b k = 0 then ∀ L, RGood s L → ROk (toks s) L → t = latM (waitsL s L) b k else t = 0) := hide fun t => rfl
  have HLE : Hid (latE s b k = if (textF s).1 ≠ 0 then (textF s).1 else if fitF b = true ∧ 0 ≤ k ∧ k ≤ 200 then 0 else 10) := hide rfl
  have HFIT := hide (pfit_any b)
  have HBL := hide (fun W q ds ns vd vn h hwf hL hll M hM hA hb hk => pblatest_any W q ds ns vd vn h hwf hL hll M hM hA b hb k hk)
  obtain ⟨fb, hfb⟩ : ∃ fb, fitF b = fb := ⟨_, rfl⟩
  rw [hfb] at HLE HFIT HBL
  generalize latE s b k = er at *
  generalize hLQ : LatQ s b k = Q1 at *
  have HLM : Hid (∀ M, latM M b k = latM M b k) := hide fun M => rfl
  obtain ⟨LM, hLM⟩ : ∃ LM : Mx → Int, LM = fun M => latM M b k := ⟨_, rfl⟩
  have hLM' : ∀ M, latM M b k = LM M := fun M => by rw [hLM]
  simp only [hLM'] at HLQ HBL
  clear hLM hLM' HLM hLQ
  obtain ⟨t0, t1, d0, d1⟩ := b
  obtain ⟨b0, hb0⟩ : ∃ b0, b0 = w.alloc (.cells #[.int .i64 t0, .int .i64 t1, .int .i64 d0, .int .i64 d1] 23) := ⟨_, rfl⟩
  have HW0 : Hid (Below w.heap.size w b0) := hide (by rw [hb0]; exact (Below.refl _ _).alloc (Nat.le_refl _) _)
  have HC : Hid (∀ W : World, Below b0.heap.size b0 W → W.cell? ⟨w.heap.size, 0, none⟩ = some (.int .i64 t0) ∧ W.cell? ⟨w.heap.size, 1, none⟩ = some (.int .i64 t1) ∧ W.cell? ⟨w.heap.size, 2, none⟩ = some (.int .i64 d0) ∧ W.cell? ⟨w.heap.size, 3, none⟩ = some (.int .i64 d1)) := hide fun W hW => by
    have hy : W.heap[w.heap.size]? = some (.cells #[.int .i64 t0, .int .i64 t1, .int .i64 d0, .int .i64 d1] 23 (0, 0)) := by
      rw [hW.block _ (by rw [hb0]; simp), hb0]; exact heap_alloc_new _ _
    refine ⟨?_, ?_, ?_, ?_⟩ <;> (rw [cell_of_row _ _ _ _ _ _ hy]; rfl)
  clear hfb
  go_enter Try.func8, Try.ntmps8
  go_wp2_with fail
  rw [← hb0]
  clear hb0
  refine (text_any s b0 hs (good_parse s)).mono ?_
  rintro e w1 ⟨⟨vd, vn, rfl, hr⟩, hb1⟩
  have HB1 := hide hb1
  have HW1 : Hid (Below w.heap.size w w1) := hide (HW0.out.trans (hb1.mono HW0.out.size))
  rcases hr with ⟨h0, rfl, rfl⟩ | ⟨h0, p, hp, ⟨a1, n1, c1, rfl⟩, ⟨a2, n2, c2, rfl⟩, hod, hon, hdn⟩
  · have q1 : (((textF s).1 : Int) != 0) = true := by rw [bne_iff_ne]; omega
    have HE : Hid (er = (textF s).1) := hide (by rw [HLE.out, if_pos h0])
    have HQ : Hid (Q1 0) := hide (by rw [HLQ.out, if_neg (by rw [HE.out]; exact h0)])
    clear h0 hb1
    go_wp2
    go_ret2
    exact ⟨_, by rw [HE.out]; rfl, HQ.out, HW1.out.alloc HW1.out.size _⟩
  · have q1 : (((textF s).1 : Int) != 0) = false := by rw [h0]; rfl
    have H0 := hide h0
    have hs' := text_le h0
    have hg := good_parse s hs' p hp
    have hbl : (boundN p).length = p.nodes.length := by simp [boundN]
    have HPA : Hid (∀ o, o = .cells #[.slice a1 n1 c1, .slice a2 n2 c2] 70 → ProgAt (w1.alloc o) w1.heap.size p.decls (boundN p) (.slice a1 n1 c1) (.slice a2 n2 c2)) := hide (fun o ho => by
      subst ho
      exact ⟨by simp, (World.cell?_alloc_at _ _ _ _ rfl).trans rfl, (World.cell?_alloc_at _ _ _ _ rfl).trans rfl, (own_zero hod).alloc _, by rw [hbl]; exact (own_zero hon).alloc _⟩)
    have HG := hide hg
    have HP := hide hp
    have k0 : ∀ u, (w1.alloc u).cell? ⟨w.heap.size, 0, none⟩ = some (.int .i64 t0) := fun u => (HC.out _ (hb1.alloc hb1.size u)).1
    have k1 : ∀ u, (w1.alloc u).cell? ⟨w.heap.size, 1, none⟩ = some (.int .i64 t1) := fun u => (HC.out _ (hb1.alloc hb1.size u)).2.1
    have k2 : ∀ u, (w1.alloc u).cell? ⟨w.heap.size, 2, none⟩ = some (.int .i64 d0) := fun u => (HC.out _ (hb1.alloc hb1.size u)).2.2.1
    have k3 : ∀ u, (w1.alloc u).cell? ⟨w.heap.size, 3, none⟩ = some (.int .i64 d1) := fun u => (HC.out _ (hb1.alloc hb1.size u)).2.2.2
    clear h0 hod hon hdn hg hp hbl hb1
    go_wp2_with fail
    refine (HFIT.out _).mono ?_
    rintro e w2 ⟨rfl, hb2⟩
    have hb2' : Below b0.heap.size b0 w2 := (HB1.out.alloc HB1.out.size _).trans (hb2.mono (by have := HB1.out.size; simp; omega))
    obtain ⟨m0, m1, m2, m3⟩ := HC.out w2 hb2'
    have HPA2 := hide ((HPA.out _ rfl).below hb2)
    have HW2 : Hid (Below w.heap.size w w2) := hide (HW0.out.trans (hb2'.mono HW0.out.size))
    clear hb2 hb2' k0 k1 k2 k3
    by_cases hk : fb = true ∧ 0 ≤ k ∧ k ≤ 200
    · have HE : Hid (er = 0) := hide (by rw [HLE.out, if_neg (by rw [H0.out]; simp), if_pos hk])
      obtain ⟨rfl, hk1, hk2⟩ := hk
      obtain ⟨L, hG, hR, hO⟩ := good_text H0.out
      have HCL := hide (HBL.out w2 w1.heap.size p.decls (boundN p) _ _ HPA2.out HG.out.wf HG.out.links HG.out.many (waitM (toks s) L) (waits_held hs' HP.out hG) (ahead_three hG.lp (fun x hx => (hO.eq hx).2.2.2.2)) rfl ⟨hk1, hk2⟩)
      have HQ : Hid (Q1 (LM (waitM (toks s) L))) := hide (by
        rw [HLQ.out, if_pos HE.out]
        intro L' hG' _
        have e1 := waits_held hs' HP.out hG
        have e2 := waits_held hs' HP.out hG'
        show LM (waitM (toks s) L) = LM (waitM (toks s) L')
        rw [← e1, e2])
      have z1 : ¬ k < 0 := by omega
      have z2 : ¬ k > 200 := by omega
      have z3 : ¬ 200 < k := by omega
      clear hG hR hO hk1 hk2
      go_wp2_with fail
      refine HCL.out.mono ?_
      rintro e w3 ⟨rfl, hb3⟩
      have HW3 : Hid (Below w.heap.size w w3) := hide (HW2.out.trans (hb3.mono HW2.out.size))
      clear hb3
      go_wp2
      go_ret2
      exact ⟨_, by rw [HE.out]; rfl, HQ.out, HW3.out⟩
    · have HE : Hid (er = 10) := hide (by rw [HLE.out, if_neg (by rw [H0.out]; simp), if_neg hk])
      have HQ : Hid (Q1 0) := hide (by rw [HLQ.out, if_neg (by rw [HE.out]; omega)])
      cases fb with
      | false =>
        clear hk
        go_wp2
        go_ret2
        exact ⟨_, by rw [HE.out]; rfl, HQ.out, HW2.out⟩
      | true =>
        have hc : k < 0 ∨ (¬ k < 0 ∧ k > 200) := by
          have : ¬ (0 ≤ k ∧ k ≤ 200) := fun e => hk ⟨rfl, e⟩
          omega
        clear hk
        rcases hc with z1 | ⟨z1, z2⟩
        all_goals
          go_wp2
          go_ret2
          exact ⟨_, by rw [HE.out]; rfl, HQ.out, HW2.out⟩
end Go.Proofs.Ytmndgoapkmhglab
