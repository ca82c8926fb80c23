import Derived.Test.YtmndgoapkmhglaaM29RefV
import Derived.Test.YtmndgoapkmhglaaM38RefY
import Derived.Test.YtmndgoapkmhglaaM41PLnk
/- Links: the document's own answer; what a program's must hand over. -/
namespace Go.Proofs.Ytmndgoapkmhglaa
open Go.RowKit
attribute [local go_sem ↓] Go.wp_at_zero Go.wp_at_succ

/-- what the document's own does. -/
def LkR (s : ByteArray) (B : Nat) (w' : World) (v : Value) : Prop :=
  if (textF s).1 = 0 then ∃ L, RGood s L ∧ ROk (toks s) L ∧ w'.ownsRow B 42 3 v (routesR (toks s) L).length (rtCells (routesR (toks s) L)) ∧ (routesR (toks s) L).length ≤ 6100 else v = .slice none 0 0

set_option maxHeartbeats 1000000 in
theorem rLinks_any (s : ByteArray) (w : World) :
    Calls Try.prog 21 #[.string s] w fun e w' => ∃ v, e = .returned (.tuple #[v, .int .i64 ((textF s).1 : Int)]) ∧ LkR s w.heap.size w' v ∧ Below w.heap.size w w' := by
  go_enter Try.func21, Try.ntmps21
  go_wp2_with fail
  refine (rread_any s w).mono ?_
  rintro e w1 ⟨p, rfl, hb1, hok⟩
  have HB1 := hide hb1
  have HOK := hide hok
  clear hok
  by_cases h0 : (textF s).1 = 0
  · obtain ⟨q, g, cap, L, vE, vA, vI, vQ, rfl, hP, ho, hG⟩ := HOK.out h0
    have q1 : (((textF s).1 : Int) != 0) = false := by rw [h0]; rfl
    have HCALL := hide (rroutes_any w1 q g cap (toks s) L vE vA vI vQ hP ho)
    have HG := hide hG
    have HO := hide ho
    have H0 := hide h0
    clear hP ho hG h0 HOK
    go_wp2_with fail
    refine HCALL.out.mono ?_
    rintro e w2 ⟨v, rfl, hown, hlen, hb2⟩
    have HW := hide hown
    have HB2 := hide hb2
    clear hown hb2 HCALL
    go_wp2
    go_ret2
    refine ⟨v, by rw [H0.out]; rfl, ?_, HB1.out.trans (HB2.out.mono HB1.out.size)⟩
    unfold LkR
    rw [if_pos H0.out]
    exact ⟨L, HG.out, HO.out, own_weak HW.out HB1.out.size, hlen⟩
  · have q1 : (((textF s).1 : Int) != 0) = true := by rw [bne_iff_ne]; omega
    have H0 := hide h0
    clear HOK
    go_wp2
    go_ret2
    exact ⟨_, rfl, by unfold LkR; rw [if_neg H0.out]; rfl, HB1.out⟩

end Go.Proofs.Ytmndgoapkmhglaa

/- Linked. -/
namespace Go.Proofs.Ytmndgoapkmhglaa
open Go.RowKit
attribute [local go_sem ↓] Go.wp_at_zero Go.wp_at_succ

theorem num_li (n : Int) (w : World) :
    Calls Try.prog 14 #[.int .i64 n] w fun e w' => e = .returned (.int .i64 n) ∧ w = w' := by
  go_enter Try.func14, Try.ntmps14
  go_wp2
  go_ret
  exact ⟨rfl, rfl⟩

/-- both lists of links. -/
theorem lk_both {s : ByteArray} {B B' : Nat} {w2 w3 : World} {v u : Value} (h : LkQ s B w2 v) (h' : LkR s B' w3 u) (hb : Below w2.heap.size w2 w3) :
    ∃ rs : List Rt, rs.length ≤ 6100 ∧ w3.ownsRow 0 42 3 u rs.length (rtCells rs) ∧ ((rs = [] ∧ ∃ a cap, v = .slice a 0 cap) ∨ w3.ownsRow 0 42 3 v rs.length (rtCells rs)) := by
  unfold LkQ at h
  unfold LkR at h'
  by_cases h0 : (textF s).1 = 0
  · rw [if_pos h0] at h h'
    obtain ⟨L, hG, ho, hown, hl⟩ := h'
    exact ⟨_, hl, own_weak hown (Nat.zero_le _), .inr (bel_own (own_weak (h L hG ho) (Nat.zero_le _)) hb)⟩
  · rw [if_neg h0] at h h'
    subst h'
    exact ⟨[], by simp, World.ownsRow_nil _ _ _ _, .inl ⟨rfl, h⟩⟩

set_option maxHeartbeats 2000000 in
set_option maxRecDepth 100000 in
theorem linked_any (s : ByteArray) (hs : s.size ≤ maxLen) (w : World) :
    Calls Try.prog 6 #[.string s] w fun e w' => e = .returned (.bool true) ∧ Below w.heap.size w w' := by
  have H1 := hide (plinks_any s hs w)
  have H2 := hide (fun W => rLinks_any s W)
  clear hs
  go_enter Try.func6, Try.ntmps6
  go_wp2_with fail
  refine H1.out.mono ?_
  rintro e w1 ⟨v, rfl, hq, hb1⟩
  have HQ := hide hq
  have HB1 := hide hb1
  clear hq hb1 H1
  go_wp2_with fail
  refine (H2.out w1).mono ?_
  rintro e w2 ⟨u, rfl, hr, hb2⟩
  obtain ⟨rs, hlen, hu, hv⟩ := lk_both HQ.out hr hb2
  have HB2 := hide (HB1.out.trans (hb2.mono HB1.out.size))
  have hvs : ∃ a cap, v = .slice a rs.length cap := by
    rcases hv with ⟨rfl, h⟩ | h
    · exact h
    · obtain ⟨a, cap, h, _⟩ := own_shape h; exact ⟨a, cap, h⟩
  obtain ⟨av, cv, rfl⟩ := hvs
  obtain ⟨au, cu, rfl, hshu⟩ := own_shape hu
  have HU := hide hu
  have HV := hide hv
  have HSU := hide hshu
  clear hr hb2 hu hv hshu HQ H2
  generalize (textF s).1 = er
  go_wp2_with fail
  refine (num_li _ _).mono ?_
  rintro e3 w3 ⟨rfl, rfl⟩
  go_wp2
  go_loopw [7] (fun vk wr => ∃ k : Nat, k ≤ rs.length ∧ vk = .int .i64 k ∧ Below w2.heap.size w2 wr) (fun vk _ => rs.length - (intOf vk).toNat)
  case atStart => exact ⟨0, Nat.zero_le _, rfl, by first | exact Below.refl _ _ | exact below_drewN (Below.refl _ _) _⟩
  case round =>
    obtain ⟨k, hk, rfl, hbr⟩ := hrel
    have HBR := hide hbr
    by_cases hkl : k < rs.length
    · have hown : w2.ownsRow 0 42 3 (.slice av rs.length cv) rs.length (rtCells rs) := by
        rcases HV.out with ⟨h, _⟩ | h
        · rw [h] at hkl; simp at hkl
        · exact h
      obtain ⟨gu, rfl, _, hgu⟩ := HSU.out (by omega)
      obtain ⟨av', cv', hv', hshv⟩ := own_shape hown
      obtain ⟨gv, rfl, _, hgv⟩ := hshv (by omega)
      cases hv'
      obtain ⟨r, hr⟩ : ∃ r, r = rs[k]'hkl := ⟨_, rfl⟩
      have hc : ∀ (g c : Nat), g < w2.heap.size → w2.ownsRow 0 42 3 (.slice (some ⟨g, 0, none⟩) rs.length c) rs.length (rtCells rs) → ∀ i, i < 3 → wr.cell? ⟨g, k * 3 + i, none⟩ = r.cells[i]? := fun g c hg ho i hi => by
        rw [hbr.cell (p := ⟨g, k * 3 + i, none⟩) hg, ho.cellAt (k * 3 + i) (by omega)]
        have e := flat_get Rt.cells 3 rt_len rs k i hkl hi
        rw [← hr] at e
        exact e
      have x0 : wr.cell? ⟨gu, k * 3, none⟩ = some (.int .i64 (r.src : Int)) := hc gu cu hgu HU.out 0 (by omega)
      have x1 : wr.cell? ⟨gu, k * 3 + 1, none⟩ = some (.int .i64 (r.dst : Int)) := hc gu cu hgu HU.out 1 (by omega)
      have x2 : wr.cell? ⟨gu, k * 3 + 2, none⟩ = some (.bool r.late) := hc gu cu hgu HU.out 2 (by omega)
      have y0 : wr.cell? ⟨gv, k * 3, none⟩ = some (.int .i64 (r.src : Int)) := hc gv _ hgv hown 0 (by omega)
      have y1 : wr.cell? ⟨gv, k * 3 + 1, none⟩ = some (.int .i64 (r.dst : Int)) := hc gv _ hgv hown 1 (by omega)
      have y2 : wr.cell? ⟨gv, k * 3 + 2, none⟩ = some (.bool r.late) := hc gv _ hgv hown 2 (by omega)
      have j3 : (0 : Int) ≤ (k : Int) := by omega
      have j4 : (k : Int) < (rs.length : Int) := by omega
      clear hc hown hr hgu hgv hshv
      go_wp2_with fail
      go_quiet (fail)
      go_wp2
      go_roundw
      case rel => exact ⟨k + 1, by omega, by go_num, by first | exact HBR.out | exact below_drewN HBR.out _⟩
      case measure => simp [intOf]; omega
    · have ek : k = rs.length := by omega
      subst ek
      have z1 : ¬ (rs.length : Int) < (rs.length : Int) := by omega
      go_wp2
      go_ret
      exact ⟨rfl, HB2.out.trans (HBR.out.mono HB2.out.size)⟩

end Go.Proofs.Ytmndgoapkmhglaa
