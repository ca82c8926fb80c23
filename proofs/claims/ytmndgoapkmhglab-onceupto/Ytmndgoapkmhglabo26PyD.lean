import Derived.Test.Ytmndgoapkmhglabo25PyC
namespace Go.Proofs.Ytmndgoapkmhglab
open Go.RowKit
attribute [local go_sem ↓] Go.wp_at_zero Go.wp_at_succ
def stepW (F : Nat → WrF) (k : Int) (l : Nat) : WrF := if (F l).dst = k then { F l with full := false } else F l
set_option maxHeartbeats 4000000 in
set_option maxRecDepth 100000 in
theorem pstep_any {w : World} {X : Nat → Prop} {b : Nat} {aW : Option Addr} {n cW : Nat} {vE vV : Value} {F : Nat → WrF} {nx : Nat → Nat} {hd : Nat → Bool} (h : Scn w X b aW n cW vE vV F nx hd) (hX : ∀ k, X k → k < w.heap.size) (p : Nat) (hp : p < 4) (oa ob oc : Int) (hnx : nx p ≤ 1000) :
    Calls Try.prog 102 #[.pointer (some ⟨b, 0, none⟩), .agg #[.int .i64 (p : Int), .int .i64 oa, .int .i64 ob, .int .i64 oc]] w fun e w' => e = .returned (.int .i64 (nx p : Int)) ∧ Scn w' X b aW n cW vE vV (stepW F p) (fun q => if q = p then nx p + 1 else nx q) (fun q => if q = p then true else hd q) ∧ Fr X w w' := by
  obtain ⟨w0, hw0⟩ : ∃ w0, w0 = w.alloc (.cells #[.int .i64 (p : Int), .int .i64 oa, .int .i64 ob, .int .i64 oc] 43) := ⟨_, rfl⟩
  have hb0 : Below w.heap.size w w0 := by rw [hw0]; exact (Below.refl _ _).alloc (Nat.le_refl _) _
  have hz : w0.heap.size = w.heap.size + 1 := by rw [hw0]; simp
  have hA : ActAt w0 w.heap.size ⟨p, oa, ob, oc⟩ := by rw [hw0]; exact ActAt.boxed w ⟨p, oa, ob, oc⟩
  have hs0 := h.below hb0
  have c2 := hs0.c2
  have hfew := h.few
  have hbl := h.lt
  have hgl : ∀ g, aW = some ⟨g, 0, none⟩ → g < w.heap.size := fun g e => h.sl g (.inr (.inr e))
  have hsX : Scn w0 (fun k => X k ∨ k = w.heap.size) b aW n cW vE vV F nx hd := hs0.more (fun e => by rcases e with e | e; exact h.xb e; omega) (fun g hg e => by rcases e with e | e; exact h.xg g hg e; have := hgl g hg; omega) (fun k e => by rcases e with e | e; have := hX k e; omega; omega)
  have HA := hide hA
  have HS := hide hsX
  have HB0 := hide hb0
  have HX := hide hX
  have HGL := hide hgl
  rw [hw0] at c2
  have HW0 := hide hw0
  have w1 : IntKind.i64.wrap ((nx p : Int) + 1) = (nx p : Int) + 1 := by rw [IntKind.wrap_i64]; omega
  have w2 : IntKind.i64.wrap ((nx p : Int) + 1 - 1) = (nx p : Int) := by rw [IntKind.wrap_i64]; omega
  have j5 : (0 : Int) ≤ (p : Int) := by omega
  have j6 : (p : Int) < 4 := by omega
  clear hb0 hA hs0 h hw0 hsX hX hgl
  go_enter Try.func102, Try.ntmps102
  go_wp2
  go_loopw [12] (fun vi wr => ∃ l : Nat, l ≤ n ∧ vi = .int .i64 l ∧ Scn wr (fun k => X k ∨ k = w.heap.size) b aW n cW vE vV (soFar F (stepW F p) l) nx hd ∧ Fr (fun k => X k ∨ k = w.heap.size) w0 wr) (fun vi _ => n - (intOf vi).toNat)
  case atStart => exact ⟨0, Nat.zero_le _, rfl, by rw [← HW0.out, soFar_zero]; exact HS.out, by rw [HW0.out]; exact Fr.refl _ _⟩
  case round =>
    obtain ⟨l, hl, rfl, hsc, hfr⟩ := hrel
    have HSC := hide hsc
    have HFR := hide hfr
    have hszr := hfr.size
    clear c2
    have hAr : ActAt wr w.heap.size ⟨p, oa, ob, oc⟩ := HA.out.of_block (hfr.block _ (.inr rfl))
    by_cases hil : l < n
    · obtain ⟨g, rfl, hW, hne⟩ := hsc.wi (by omega)
      obtain ⟨x0, x1, x2, x3, x4, x5⟩ := hW.cells hil
      rw [soFar_at] at x0 x1 x2 x3 x4 x5
      have hgw := HGL.out g rfl
      have k0 : ∀ u, (wr.alloc u).cell? ⟨w.heap.size, 0, none⟩ = some (.int .i64 (p : Int)) := fun u => (ActAt.cells (hAr.alloc u)).1
      have j3 : (0 : Int) ≤ (l : Int) := by omega
      have j4 : (l : Int) < (n : Int) := by omega
      have HTW : Hid (stepW F p l = if (F l).dst = p then { F l with full := false } else F l) := hide rfl
      clear hfr hAr
      by_cases hd1 : (F l).dst = (p : Int)
      · have q1 : ((F l).dst == (p : Int)) = true := by rw [hd1]; simp
        have htw : stepW F p l = { F l with full := false } := by rw [HTW.out, if_pos hd1]
        have hS1 : ∀ u, Scn (wr.alloc u) (fun k => X k ∨ k = w.heap.size) b (some ⟨g, 0, none⟩) n cW vE vV (soFar F (stepW F p) l) nx hd := fun u => hsc.below ((Below.refl _ _).alloc (Nat.le_refl _) u)
        have hS2 : ∀ u, Scn ((wr.alloc u).setCell ⟨g, l * 6 + 2, none⟩ (.bool false)) (fun k => X k ∨ k = w.heap.size) b (some ⟨g, 0, none⟩) n cW vE vV (soFar F (stepW F p) (l + 1)) nx hd := fun u => (hS1 u).setW rfl hil (by omega) _ (fun l' _ j' hj' => by
          by_cases e : l' = l
          · subst e
            rw [soFar_at]
            unfold soFar
            rw [if_pos (by omega), htw]
            have : j' = 0 ∨ j' = 1 ∨ j' = 2 ∨ j' = 3 ∨ j' = 4 ∨ j' = 5 := by omega
            rcases this with rfl | rfl | rfl | rfl | rfl | rfl <;> simp [WrF.cell]
          · rw [if_neg (fun e2 => e e2.1)]
            unfold soFar
            by_cases e3 : l' < l
            · rw [if_pos e3, if_pos (by omega)]
            · rw [if_neg e3, if_neg (by omega)])
        have s1 : ∀ u, (wr.alloc u).cell? ⟨b, 2, none⟩ = some (.slice (some ⟨g, 0, none⟩) n cW) := fun u => (hS1 u).c2
        have t1 : ∀ u, (wr.alloc u).cell? ⟨g, l * 6 + 2, none⟩ = some (.bool (F l).full) := fun u => by
          obtain ⟨g', e, hW', _⟩ := (hS1 u).wi (by omega); cases e; have := (hW'.cells hil).2.2.1; rw [soFar_at] at this; exact this
        have f1 : ∀ u, (wr.alloc u).frozen? ⟨g, l * 6 + 2, none⟩ = false := fun u => by
          obtain ⟨g', e, hW', _⟩ := (hS1 u).wi (by omega); cases e; exact hW'.froz _
        have HF4 : Hid (∀ u, Fr (fun k => X k ∨ k = w.heap.size) w0 ((wr.alloc u).setCell ⟨g, l * 6 + 2, none⟩ (.bool false))) := hide (fun u => by
          have e1 : Fr (fun k => X k ∨ k = w.heap.size) w0 (wr.alloc u) := HFR.out.trans (Fr.of_below ((Below.refl _ _).alloc (Nat.le_refl _) u) HSC.out.xl)
          exact e1.setCell (HSC.out.xg g rfl) _)
        have HS2 := hide hS2
        clear hsc hW HTW htw hS1 hS2 hd1
        generalize (F l).src = fs at *
        generalize (F l).dst = fd at *
        generalize (F l).full = ff at *
        generalize (F l).unt = fu at *
        generalize (F l).comes = fc at *
        generalize (F l).known = fk at *
        go_wp2
        go_roundw
        case rel => exact ⟨l + 1, by omega, by go_num, HS2.out _, HF4.out _⟩
        case measure => simp [intOf]; omega
      · have q1 : ((F l).dst == (p : Int)) = false := by rw [beq_eq_false_iff_ne]; exact hd1
        have HN : Hid (∀ u, Scn (wr.alloc u) (fun k => X k ∨ k = w.heap.size) b (some ⟨g, 0, none⟩) n cW vE vV (soFar F (stepW F p) (l + 1)) nx hd ∧ Fr (fun k => X k ∨ k = w.heap.size) w0 (wr.alloc u)) := hide (fun u =>
          ⟨(HSC.out.below ((Below.refl _ _).alloc (Nat.le_refl _) u)).congr (fun l' _ => soFar_miss (by rw [HTW.out, if_neg hd1]) l') (fun _ _ => rfl) (fun _ _ => rfl), HFR.out.trans (Fr.of_below ((Below.refl _ _).alloc (Nat.le_refl _) u) HSC.out.xl)⟩)
        clear hsc hW HTW hd1
        go_wp2
        go_roundw
        case rel => exact ⟨l + 1, by omega, by go_num, (HN.out _).1, (HN.out _).2⟩
        case measure => simp [intOf]; omega
    · have ek : l = n := by omega
      subst ek
      have hS0 : Scn wr (fun k => X k ∨ k = w.heap.size) b aW l cW vE vV (stepW F p) nx hd := hsc.congr (fun l' hl' => by unfold soFar; rw [if_pos hl']) (fun _ _ => rfl) (fun _ _ => rfl)
      have hS1 := hS0.setH hp true
      have hS2 : Scn ((wr.setCell ⟨b, 3 + p * 2 + 1, none⟩ (.bool true)).setCell ⟨b, 3 + p * 2, none⟩ (.int .i64 ((nx p : Int) + 1))) (fun k => X k ∨ k = w.heap.size) b aW l cW vE vV (stepW F p) (fun q => if q = p then nx p + 1 else nx q) (fun q => if q = p then true else hd q) := hS1.setN hp (nx p + 1)
      have hA1 : ActAt (wr.setCell ⟨b, 3 + p * 2 + 1, none⟩ (.bool true)) w.heap.size ⟨p, oa, ob, oc⟩ := World.rowIs.setOther hAr (a := ⟨b, 3 + p * 2 + 1, none⟩) (by show w.heap.size ≠ b; omega) _
      have hA2 : ActAt ((wr.setCell ⟨b, 3 + p * 2 + 1, none⟩ (.bool true)).setCell ⟨b, 3 + p * 2, none⟩ (.int .i64 ((nx p : Int) + 1))) w.heap.size ⟨p, oa, ob, oc⟩ := World.rowIs.setOther hA1 (a := ⟨b, 3 + p * 2, none⟩) (by show w.heap.size ≠ b; omega) _
      have k0 : wr.cell? ⟨w.heap.size, 0, none⟩ = some (.int .i64 (p : Int)) := hAr.cells.1
      have k1 := hA1.cells.1
      have k2 := hA2.cells.1
      have c0 := hS0.ch hp
      have f0 := hS0.froz (3 + p * 2 + 1)
      have c1 := hS1.cn hp
      have f1 := hS1.froz (3 + p * 2)
      have c3 : ((wr.setCell ⟨b, 3 + p * 2 + 1, none⟩ (.bool true)).setCell ⟨b, 3 + p * 2, none⟩ (.int .i64 ((nx p : Int) + 1))).cell? ⟨b, 3 + p * 2, none⟩ = some (.int .i64 ((nx p : Int) + 1)) := by have := hS2.cn hp; simp only [if_true] at this; exact this
      simp only [] at k1 k2
      have HS2 := hide hS2
      have HF2 : Hid (Fr (fun k => X k ∨ k = w.heap.size) w0 ((wr.setCell ⟨b, 3 + p * 2 + 1, none⟩ (.bool true)).setCell ⟨b, 3 + p * 2, none⟩ (.int .i64 ((nx p : Int) + 1)))) := hide ((hfr.setCell hsc.xb _).setCell hsc.xb _)
      clear hfr hsc hAr hS0 hS1 hS2 hA1 hA2
      go_wp2_with fail
      go_big_region
      go_wp2_with fail
      go_big_region
      go_wp2_with fail
      go_big_region
      go_wp2
      go_ret
      have hdr : ∀ W : World, Below W.heap.size W W.drew.drew.drew := fun W => ((((Below.refl W.heap.size W).drew).drew).drew)
      refine ⟨rfl, (HS2.out.more (fun e => HS2.out.xb (.inl e)) (fun g hg e => HS2.out.xg g hg (.inl e)) (fun k hk => HS2.out.xl k (.inl hk))).below (hdr _), ?_⟩
      exact ((Fr.of_below HB0.out HX.out).trans (HF2.out.mono fun k hk => .inl hk)).trans (Fr.of_below (hdr _) (fun k hk => HS2.out.xl k (.inl hk)))
end Go.Proofs.Ytmndgoapkmhglab
