import Derived.Test.YtmndgoapkmhglabM03RefClass
import Derived.Test.YtmndgoapkmhglabM22JudK
import Derived.Test.YtmndgoapkmhglabM44OpsA
/- the longest chain, walked. -/
namespace Go.Proofs.Ytmndgoapkmhglab
open Go.RowKit
attribute [local go_sem ↓] Go.wp_at_zero Go.wp_at_succ

set_option maxHeartbeats 1000000 in
set_option maxRecDepth 100000 in
theorem pone_any (w : World) (ge rk : Nat) (E : Nat → Nat) (Rw : Nat → Bool) (he : w.rowIs ge 3 4 (fun i => .int .i64 (E i : Int))) (hr : w.rowIs rk 4 4 (fun i => .bool (Rw i))) (hE : ∀ q, q < 4 → E q ≤ 3) :
    Calls Try.prog 87 #[.slice (some ⟨ge, 0, none⟩) 4 4, .slice (some ⟨rk, 0, none⟩) 4 4] w fun e w' => ∃ t : Nat, e = .returned (.int .i64 (t : Int)) ∧ OneM E Rw 4 t ∧ t ≤ 4 ∧ Below w.heap.size w w' := by
  have HE := hide he
  have HR := hide hr
  have HB := hide hE
  clear he hr hE
  go_enter Try.func87, Try.ntmps87
  go_wp2
  go_loopw [5, 10] (fun vm vi wr => ∃ k t : Nat, k ≤ 4 ∧ t ≤ 4 ∧ vi = .int .i64 k ∧ vm = .int .i64 t ∧ OneM E Rw k t ∧ wr = w) (fun _ vi _ => 4 - (intOf vi).toNat)
  case atStart => exact ⟨0, 0, by omega, by omega, rfl, rfl, OneM.zero E Rw, rfl⟩
  case round =>
    obtain ⟨k, t, hk, ht, rfl, rfl, hO, rfl⟩ := hrel
    have HO := hide hO
    clear hO
    by_cases hlt : k < 4
    · have x0 := HE.out.cell hlt
      have x1 := HR.out.cell hlt
      have hb := HB.out k hlt
      have j1 : (0 : Int) ≤ (k : Int) := by omega
      have j2 : (k : Int) < 4 := by omega
      have hw : IntKind.i64.wrap ((E k : Int) + 1) = (E k : Int) + 1 := by rw [IntKind.wrap_i64]; omega
      obtain ⟨rv, hrv⟩ : ∃ rv, Rw k = rv := ⟨_, rfl⟩
      rw [hrv] at x1
      cases rv with
      | false =>
        have HN := hide (HO.out.keep (fun e => by rw [hrv] at e; cases e.1))
        clear hrv
        go_wp2
        go_roundw
        case rel => exact ⟨k + 1, t, by omega, ht, by go_num, rfl, HN.out, by first | rfl | trivial⟩
        case measure => simp [intOf]; omega
      | true =>
        by_cases hlt2 : (E k : Int) + 1 > (t : Int)
        · have HN := hide (HO.out.more hrv (by omega))
          clear hrv
          go_wp2
          go_roundw
          case rel => exact ⟨k + 1, E k + 1, by omega, by omega, by go_num, by go_num, HN.out, by first | rfl | trivial⟩
          case measure => simp [intOf]; omega
        · have HN := hide (HO.out.keep (fun e => by have := e.2; omega))
          clear hrv
          go_wp2
          go_roundw
          case rel => exact ⟨k + 1, t, by omega, ht, by go_num, rfl, HN.out, by first | rfl | trivial⟩
          case measure => simp [intOf]; omega
    · have ek : k = 4 := by omega
      subst ek
      go_wp2
      go_ret
      exact ⟨t, rfl, HO.out, ht, Below.refl _ _⟩

set_option maxHeartbeats 2000000 in
set_option maxRecDepth 100000 in
theorem plong_any (w : World) (g : Nat) (R : Nat → Nat) (M : Mx) (hM : Mat w g 4 R M) (hA : ∀ q n, q < 4 → aheadF M q n = true → n ≤ 3) :
    Calls Try.prog 55 #[.slice (some ⟨g, 0, none⟩) 4 4] w fun e w' => e = .returned (.int .i64 (dUp M 3 : Int)) ∧ Below w.heap.size w w' := by
  have hm1 := run_make_row' (P := Try.prog) 38 3 (.int .i64 0) 8 Try.underlying38 Try.infoInt rfl .i64 .i64 4 (by omega) (by omega)
  simp only [show ((4 : Nat) : Int) = 4 from rfl] at hm1
  have HR0 := hide (World.rowIs_made w (.int .i64 0) 4 3)
  have HM := hide hM
  have HA := hide hA
  have hgl := hM.lt (by omega)
  clear hM hA
  go_enter Try.func55, Try.ntmps55
  go_wp2
  go_loopw [4, 12] (fun vm vi wr => ∃ (r t : Nat) (E : Nat → Nat), r ≤ 4 ∧ vi = .int .i64 r ∧ vm = .int .i64 t ∧ wr.rowIs w.heap.size 3 4 (fun i => .int .i64 (E i : Int)) ∧ LgI M r 0 E t ∧ Below w.heap.size w wr) (fun _ vi _ => 4 - (intOf vi).toNat)
  case atStart => exact ⟨0, 0, fun _ => 0, by omega, rfl, rfl, HR0.out, LgI.start M, (Below.refl _ _).alloc (Nat.le_refl _) _⟩
  case round =>
    obtain ⟨r, t, E, hr, rfl, rfl, hrow, hI, hbr⟩ := hrel
    have HI := hide hI
    have HROW := hide hrow
    have HBR := hide hbr
    clear hI hrow hbr
    by_cases hlt : r < 4
    · have j1 : (r : Int) < 4 := by omega
      go_wp2_with fail
      go_loopw [4, 16] (fun vm vi wx => ∃ (k t : Nat) (E : Nat → Nat), k ≤ 4 ∧ vi = .int .i64 k ∧ vm = .int .i64 t ∧ wx.rowIs w.heap.size 3 4 (fun i => .int .i64 (E i : Int)) ∧ LgI M r k E t ∧ Below w.heap.size w wx) (fun _ vi _ => 4 - (intOf vi).toNat)
      case atStart => exact ⟨0, t, E, by omega, rfl, rfl, HROW.out, HI.out, HBR.out⟩
      case round =>
        clear HI HROW HBR
        obtain ⟨k, t, E, hk, rfl, rfl, hrow, hI, hbr⟩ := hrel
        have HI := hide hI
        have HROW := hide hrow
        have HBR := hide hbr
        by_cases hkl : k < 4
        · have x0 := (hbr.cell (p := ⟨g, k, none⟩) hgl).trans (HM.out.outer k hkl)
          have hRk : wr.rowIs (R k) 4 4 (fun i => .bool (M k i)) := (HM.out.rows k hkl).of_block (hbr.block _ (World.rowIs.lt (HM.out.rows k hkl)))
          have j2 : (0 : Int) ≤ (k : Int) := by omega
          have j3 : (k : Int) < 4 := by omega
          have HCL := hide (pone_any wr w.heap.size (R k) E (M k) hrow hRk (fun q hq => HA.out q _ hq (hI.up q hq)))
          clear hI hrow hbr hRk
          go_wp2_with fail
          refine HCL.out.mono ?_
          rintro e w2 ⟨x, rfl, hx, hx4, hb2⟩
          have hrow2 := HROW.out.of_block (hb2.block _ HROW.out.lt)
          have y0 := hrow2.cell hkl
          have f0 := hrow2.frozen k
          have hset := hrow2.set k (.int .i64 (x : Int))
          have y1 := hset.cell hkl
          simp only [if_true] at y1
          have HN := hide (HI.out.step hkl hx)
          have HSET : Hid ((w2.setCell ⟨w.heap.size, k, none⟩ (.int .i64 (x : Int))).rowIs w.heap.size 3 4 (fun i => .int .i64 (((if i = k then x else E i) : Nat) : Int))) := hide (hset.congr (fun i _ => by by_cases e : i = k <;> simp [e]))
          have HB2 : Hid (Below w.heap.size w (w2.setCell ⟨w.heap.size, k, none⟩ (.int .i64 (x : Int)))) := hide ((HBR.out.trans (hb2.mono HBR.out.size)).setCell (Nat.le_refl _) _)
          clear hx hb2 hrow2 hset x0
          by_cases hgt : (x : Int) > (t : Int)
          · have hxt : t < x := by omega
            rw [if_pos hxt] at HN
            clear hxt
            go_wp2
            go_roundw
            case rel => exact ⟨k + 1, x, _, by omega, by go_num, rfl, HSET.out, HN.out, HB2.out⟩
            case measure => simp [intOf]; omega
          · have hxt : ¬ t < x := by omega
            rw [if_neg hxt] at HN
            clear hxt
            go_wp2
            go_roundw
            case rel => exact ⟨k + 1, t, _, by omega, by go_num, rfl, HSET.out, HN.out, HB2.out⟩
            case measure => simp [intOf]; omega
        · have ek : k = 4 := by omega
          subst ek
          have HN := hide hI.round
          clear hI hrow hbr
          go_wp2
          go_roundw
          case rel => exact ⟨r + 1, t, E, by omega, by go_num, rfl, HROW.out, HN.out, HBR.out⟩
          case measure => simp [intOf]; omega
    · have ek : r = 4 := by omega
      subst ek
      have HD := hide (HI.out.done HA.out)
      go_wp2
      go_ret
      exact ⟨by rw [← HD.out]; rfl, HBR.out⟩

end Go.Proofs.Ytmndgoapkmhglab
