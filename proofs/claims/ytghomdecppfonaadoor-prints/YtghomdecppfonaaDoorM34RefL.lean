import Derived.Test.YtghomdecppfonaaDoorShelf
import Derived.Lib.AppendIntMem
import Derived.Lib.ItoaMem
import Derived.Test.YtghomdecppfonaaDoorM20RefD
import Derived.Test.YtghomdecppfonaaDoorM32RefQ
import Derived.Test.YtghomdecppfonaaDoorM33Dec
namespace Go.Proofs.YtghomdecppfonaaDoor
open Go.RowKit
attribute [local go_sem ↓] Go.wp_at_zero Go.wp_at_succ

/-- the library's table. -/
def Tab (w : World) : Prop := Lib.TabIs Tryd.prog w "internal/strconv.uint64pow10" .u64 Lib.pow10Tab
theorem Tab.below {w w' : World} (h : Tab w) (hb : Below w.heap.size w w') : Tab w' := by
  unfold Tab Lib.TabIs World.var? at *
  cases hg : Tryd.prog.globalNamed "internal/strconv.uint64pow10" with
  | none => rw [hg] at h; simp at h
  | some g =>
    rw [hg] at h
    simp only [Option.bind_some] at h ⊢
    have hlt : g < w.heap.size := by
      rcases Nat.lt_or_ge g w.heap.size with h' | h'
      · exact h'
      · rw [Array.getElem?_eq_none h'] at h; simp at h
    rw [hb.block g hlt]
    exact h

def glueR (a t : RTk) : Bool := (a.l == [40] || t.l == [41]) || t.l == [59]

set_option maxHeartbeats 1000000 in
theorem rglued_any (a t : RTk) (w : World) :
    Calls Tryd.prog 10 #[a.val, t.val] w fun e w' => e = .returned (.bool (glueR a t)) ∧ Below w.heap.size w w' := by
  have hB : ∀ o1 o2, Below w.heap.size w ((w.alloc o1).alloc o2) := fun o1 o2 => ((Below.refl _ _).alloc (Nat.le_refl _) _).alloc (by simp) _
  by_cases h1 : a.l = [40]
  · have q1 := str_yes (t := a.word) h1
    have HF : Hid (glueR a t = true) := hide (by unfold glueR; rw [h1]; rfl)
    clear h1
    go_enter Tryd.func10, Tryd.ntmps10
    go_wp2
    go_ret
    exact ⟨by rw [HF.out]; rfl, by first | exact hB _ _ | exact below_drewN (hB _ _) _⟩
  have q1 := str_no (t := a.word) h1
  by_cases h2 : t.l = [41]
  · have q2 := str_yes (t := t.word) h2
    have HF : Hid (glueR a t = true) := hide (by unfold glueR; rw [h2]; simp)
    clear h1 h2
    go_enter Tryd.func10, Tryd.ntmps10
    go_wp2
    go_ret
    exact ⟨by rw [HF.out]; rfl, by first | exact hB _ _ | exact below_drewN (hB _ _) _⟩
  have q2 := str_no (t := t.word) h2
  by_cases h3 : t.l = [59]
  · have q3 := str_yes (t := t.word) h3
    have HF : Hid (glueR a t = true) := hide (by unfold glueR; rw [h3]; simp)
    clear h1 h2 h3
    go_enter Tryd.func10, Tryd.ntmps10
    go_wp2
    go_ret
    exact ⟨by rw [HF.out]; rfl, by first | exact hB _ _ | exact below_drewN (hB _ _) _⟩
  have q3 := str_no (t := t.word) h3
  have HF : Hid (glueR a t = false) := hide (by unfold glueR; simp [h1, h2, h3])
  clear h1 h2 h3
  go_enter Tryd.func10, Tryd.ntmps10
  go_wp2
  go_ret
  exact ⟨by rw [HF.out]; rfl, by first | exact hB _ _ | exact below_drewN (hB _ _) _⟩

set_option maxHeartbeats 1000000 in
theorem rwritten_any (t : RTk) (w : World) (ht : Tab w) (hn : t.n < 1000000000000000000) (wd : ByteArray) (hwd : wd = if t.c = 110 then ⟨(Lib.decDigits t.n).toArray⟩ else t.word) :
    Calls Tryd.prog 11 #[t.val] w fun e w' => e = .returned (.string wd) ∧ Below w.heap.size w w' := by
  have hB : ∀ o, Below w.heap.size w (w.alloc o) := fun o => (Below.refl _ _).alloc (Nat.le_refl _) _
  by_cases h1 : t.c = 110
  · have q1 : ((t.c : Int) == 110) = true := by rw [h1]; rfl
    rw [if_pos h1] at hwd
    have HF := hide hwd
    have HI : Hid (Lib.itoa (t.n : Int) = Lib.decDigits t.n) := hide (by unfold Lib.itoa; rw [if_neg (by omega), Int.toNat_natCast])
    have HT := hide (fun o => ht.below (hB o))
    clear h1 ht hwd
    go_enter Tryd.func11, Tryd.ntmps11
    go_wp2_with fail
    refine (Go.Proofs.Tryd.strconv_Itoa (t.n : Int) (by omega) (by omega) _ (HT.out _)).mono ?_
    rintro e w1 ⟨rfl, k, os, rfl⟩
    rw [HI.out]
    go_wp2_with fail
    go_ret
    exact ⟨by rw [HF.out]; rfl, (hB _).trans (Lib.below_grow _ _ (by simp) k os)⟩
  · have q1 : ((t.c : Int) == 110) = false := by rw [beq_eq_false_iff_ne]; omega
    rw [if_neg h1] at hwd
    have HF := hide hwd
    clear h1 ht hwd
    go_enter Tryd.func11, Tryd.ntmps11
    go_wp2
    go_ret
    exact ⟨by rw [HF.out]; rfl, hB _⟩

end Go.Proofs.YtghomdecppfonaaDoor

namespace Go.Proofs.YtghomdecppfonaaDoor
open Go.RowKit
attribute [local go_sem ↓] Go.wp_at_zero Go.wp_at_succ

theorem any_range {p : Nat → Bool} (n k : Nat) (h : k < n) : (List.range' k (n - k)).any p = (p k || (List.range' (k + 1) (n - (k + 1))).any p) := by
  rw [show n - k = (n - (k + 1)) + 1 by omega, List.range'_succ, List.any_cons]

set_option maxHeartbeats 1000000 in
theorem rdelayed_any (w : World) (q g cap : Nat) (ts : List Tk) (L : List Dl) (vE vA vI vQ : Value) (h : RProg w q g cap ts L vE vA vI vQ) (ho : ROk ts L) (fr j : Nat) (hfj : fr ≤ j) (hj : j < ts.length) :
    Calls Tryd.prog 66 #[.pointer (some ⟨q, 0, none⟩), .int .i64 (fr : Int), .int .i64 (j : Int)] w fun e w' => e = .returned (.bool (delayedR ts fr j)) ∧ Below w.heap.size w w' := by
  have hlen := ho.len
  obtain ⟨gE, capE, rfl, _, hgE⟩ := h.ends.form (by omega)
  have HR := hide h
  have HO := hide ho
  clear h ho
  go_enter Tryd.func66, Tryd.ntmps66
  go_wp2
  go_loopw [7] (fun f wr => ∃ k : Nat, k ≤ j ∧ f = .int .i64 k ∧ Below w.heap.size w wr ∧ ((List.range' k (j - k)).any fun f => lAt ts f == kFby && decide (j < behindF ts (f + 1))) = delayedR ts fr j) (fun f _ => j - (intOf f).toNat)
  case atStart => exact ⟨fr, hfj, rfl, Below.refl _ _, rfl⟩
  case round =>
    obtain ⟨k, hk, rfl, hbel, hrec⟩ := hrel
    have c0 := (HR.out.below hbel).c0
    have c1 := (HR.out.below hbel).c1
    by_cases hlt : k < j
    · obtain ⟨a, ha⟩ : ∃ a, a = rtok (tkAt ts k) := ⟨_, rfl⟩
      obtain ⟨x0, x1, x2, x3⟩ := HR.out.toks.cells hbel (show k < ts.length by omega) a ha
      have hkw := (HO.out.F k).kw kFby (by decide)
      rw [← ha] at hkw
      have r1 := end_later HR.out.ends hbel hgE (show k + 1 < ts.length by omega)
      have j1 : (0 : Int) ≤ (k : Int) := by omega
      have j2 : (k : Int) < (ts.length : Int) := by omega
      have j3 : (0 : Int) ≤ (k : Int) + 1 := by omega
      have j4 : (k : Int) + 1 < (ts.length : Int) := by omega
      have j5 : (k : Int) < (j : Int) := by omega
      have hbl := behindF_le ts (k + 1) (by omega)
      rw [any_range _ _ hlt] at hrec
      generalize behindF ts (k + 1) = b at r1 hrec hbl
      by_cases hf : a.l = kFby
      · have q1 := str_yes (t := a.word) hf
        simp only [kFby] at q1
        have hl : (lAt ts k == kFby) = true := by rw [beq_iff_eq]; exact hkw.1 hf
        rw [hl, Bool.true_and] at hrec
        by_cases hb : j < b
        · have q2 : (j : Int) < (b : Int) := by omega
          rw [decide_eq_true hb, Bool.true_or] at hrec
          have HRC := hide hrec
          clear hrec hl hf hb hkw ha
          go_wp2
          go_ret
          exact ⟨by rw [← HRC.out]; rfl, by first | exact hbel | exact below_drewN hbel _⟩
        · have q2 : ¬ (j : Int) < (b : Int) := by omega
          rw [decide_eq_false hb, Bool.false_or] at hrec
          have HRC := hide hrec
          clear hrec hl hf hb hkw ha
          go_wp2
          go_roundw
          case rel => exact ⟨k + 1, by omega, by go_num, by first | exact hbel | exact below_drewN hbel _, HRC.out⟩
          case measure => simp [intOf]; omega
      · have q1 := str_no (t := a.word) hf
        simp only [kFby] at q1
        have hl : (lAt ts k == kFby) = false := by rw [beq_eq_false_iff_ne]; exact fun e => hf (hkw.2 e)
        rw [hl, Bool.false_and, Bool.false_or] at hrec
        have HRC := hide hrec
        clear hrec hl hf hkw ha
        go_wp2
        go_roundw
        case rel => exact ⟨k + 1, by omega, by go_num, by first | exact hbel | exact below_drewN hbel _, HRC.out⟩
        case measure => simp [intOf]; omega
    · have e0 : j - k = 0 := by omega
      rw [e0] at hrec
      have HRC := hide hrec
      have z1 : ¬ (k : Int) < (j : Int) := by omega
      clear hrec e0
      go_wp2
      go_ret
      exact ⟨by rw [← HRC.out]; rfl, hbel⟩

end Go.Proofs.YtghomdecppfonaaDoor
