import Derived.BigRegion
import Derived.Deep.RegionLaw
import Derived.Test.Ytmndgoapkmhglabo24PyB
namespace Go.Proofs.Ytmndgoapkmhglab
open Go.RowKit
attribute [local go_sem ↓] Go.wp_at_zero Go.wp_at_succ
theorem own_low {w : World} {B B' e size n : Nat} {v : Value} {xs : List Value} (h : w.ownsRow B e size v n xs) (hb : B' ≤ B) : w.ownsRow B' e size v n xs := by
  refine ⟨h.1, ?_⟩
  rcases h.2 with h0 | ⟨g, cap, cur, hv, h1, hr⟩
  · exact .inl h0
  · exact .inr ⟨g, cap, cur, hv, Nat.le_trans hb h1, hr⟩
theorem own_blk {w w' : World} {B e size n : Nat} {v : Value} {xs : List Value} (h : w.ownsRow B e size v n xs) (hb : ∀ g, v.ownBlock = some g → w'.heap[g]? = w.heap[g]?) : w'.ownsRow B e size v n xs := by
  refine ⟨h.1, ?_⟩
  rcases h.2 with h0 | ⟨g, cap, cur, hv, h1, h2, h3⟩
  · exact .inl h0
  · exact .inr ⟨g, cap, cur, hv, h1, (hb g (by rw [hv]; rfl)).trans h2, h3⟩
def canW (F : Nat → WrF) (o : OpF) (l : Nat) : Bool := decide ((F l).dst = o.k) && !(F l).full && (F l).unt && decide ((F l).comes ≤ o.a)
def takeW (F : Nat → WrF) (o : OpF) (l : Nat) : WrF := if canW F o l then { F l with full := true, unt := false, known := o.a + o.b } else F l
def soFar (F G : Nat → WrF) (l : Nat) (l' : Nat) : WrF := if l' < l then G l' else F l'
theorem soFar_zero (F G : Nat → WrF) : soFar F G 0 = F := by funext l; simp [soFar]
theorem soFar_at (F G : Nat → WrF) (l : Nat) : soFar F G l l = F l := by simp [soFar]
theorem soFar_miss {F G : Nat → WrF} {l : Nat} (h : G l = F l) : ∀ l', soFar F G l l' = soFar F G (l + 1) l' := by
  intro l'
  unfold soFar
  by_cases e : l' < l
  · rw [if_pos e, if_pos (by omega)]
  · rw [if_neg e]
    by_cases e2 : l' = l
    · subst e2; rw [if_pos (by omega), h]
    · rw [if_neg (by omega)]
set_option maxHeartbeats 4000000 in
set_option maxRecDepth 100000 in
theorem ptake_any {w : World} {X : Nat → Prop} {b : Nat} {aW : Option Addr} {n cW : Nat} {vE vV : Value} {F : Nat → WrF} {nx : Nat → Nat} {hd : Nat → Bool} (h : Scn w X b aW n cW vE vV F nx hd) (hX : ∀ k, X k → k < w.heap.size) (o : OpF) (ho : -1099511627776 ≤ o.a + o.b ∧ o.a + o.b ≤ 4398046511104) :
    Calls Try.prog 100 #[.pointer (some ⟨b, 0, none⟩), .agg #[.int .i64 o.k, .int .i64 o.a, .int .i64 o.b, .int .i64 o.c]] w fun e w' => ∃ v, e = .returned v ∧ w'.ownsRow w.heap.size 3 1 v ((List.range n).filter (canW F o)).length (pCells ((List.range n).filter (canW F o))) ∧ Scn w' X b aW n cW vE vV (takeW F o) nx hd ∧ Fr X w w' := by
  obtain ⟨i0, hi0, hz0, hz1, hz2⟩ := info_parts Try.infoInt
  obtain ⟨w0, hw0⟩ : ∃ w0, w0 = w.alloc (.cells #[.int .i64 o.k, .int .i64 o.a, .int .i64 o.b, .int .i64 o.c] 43) := ⟨_, rfl⟩
  have hb0 : Below w.heap.size w w0 := by rw [hw0]; exact (Below.refl _ _).alloc (Nat.le_refl _) _
  have hz : w0.heap.size = w.heap.size + 1 := by rw [hw0]; simp
  have hA : ActAt w0 w.heap.size o := by rw [hw0]; exact ActAt.boxed w o
  have hs0 := h.below hb0
  have c2 := hs0.c2
  have hfew := h.few
  have hbl := h.lt
  have hgl : ∀ g, aW = some ⟨g, 0, none⟩ → g < w.heap.size := fun g e => h.sl g (.inr (.inr e))
  have hsX : Scn w0 (fun k => X k ∨ k = w.heap.size) b aW n cW vE vV F nx hd := hs0.more (fun e => by rcases e with e | e; exact h.xb e; omega) (fun g hg e => by rcases e with e | e; exact h.xg g hg e; have := hgl g hg; omega) (fun k e => by rcases e with e | e; have := hX k e; omega; omega)
  have how : IntKind.i64.wrap (o.a + o.b) = o.a + o.b := by rw [IntKind.wrap_i64]; omega
  have HA := hide hA
  have HS := hide hsX
  have HB0 := hide hb0
  have HX := hide hX
  have HGL := hide hgl
  rw [hw0] at c2
  have HW0 := hide hw0
  clear hb0 hA hs0 h hw0 hsX hX hgl
  go_enter Try.func100, Try.ntmps100
  go_wp2
  go_loopw [5, 13] (fun v vi wr => ∃ l : Nat, l ≤ n ∧ vi = .int .i64 l ∧ Scn wr (fun k => X k ∨ k = w.heap.size) b aW n cW vE vV (soFar F (takeW F o) l) nx hd ∧ Fr (fun k => X k ∨ k = w.heap.size) w0 wr ∧ wr.ownsRow (w.heap.size + 1) 3 1 v ((List.range l).filter (canW F o)).length (pCells ((List.range l).filter (canW F o)))) (fun _ vi _ => n - (intOf vi).toNat)
  case atStart => exact ⟨0, Nat.zero_le _, rfl, by rw [← HW0.out, soFar_zero]; exact HS.out, by rw [HW0.out]; exact Fr.refl _ _, World.ownsRow_nil _ _ _ _⟩
  case round =>
    obtain ⟨l, hl, rfl, hsc, hfr, hown⟩ := hrel
    have HSC := hide hsc
    have HFR := hide hfr
    have HOW := hide hown
    have hszr := hfr.size
    clear c2
    by_cases hil : l < n
    · obtain ⟨g, rfl, hW, hne⟩ := hsc.wi (by omega)
      obtain ⟨x0, x1, x2, x3, x4, x5⟩ := hW.cells hil
      rw [soFar_at] at x0 x1 x2 x3 x4 x5
      have hgw := HGL.out g rfl
      have hAr : ActAt wr w.heap.size o := HA.out.of_block (hfr.block _ (.inr rfl))
      have hAl : ∀ u, ActAt (wr.alloc u) w.heap.size o := fun u => hAr.alloc u
      have k0 : ∀ u, (wr.alloc u).cell? ⟨w.heap.size, 0, none⟩ = some (.int .i64 o.k) := fun u => (hAl u).cells.1
      have k1 : ∀ u, (wr.alloc u).cell? ⟨w.heap.size, 1, none⟩ = some (.int .i64 o.a) := fun u => (hAl u).cells.2.1
      have j3 : (0 : Int) ≤ (l : Int) := by omega
      have j4 : (l : Int) < (n : Int) := by omega
      have hrs : (List.range (l + 1)).filter (canW F o) = (List.range l).filter (canW F o) ++ if canW F o l then [l] else [] := by
        rw [List.range_succ, List.filter_append]
        cases hc : canW F o l <;> simp [hc]
      have hfl : ((List.range l).filter (canW F o)).length ≤ l := by have := List.length_filter_le (canW F o) (List.range l); rwa [List.length_range] at this
      have HRS := hide hrs
      have HCW : Hid (canW F o l = (decide ((F l).dst = o.k) && !(F l).full && (F l).unt && decide ((F l).comes ≤ o.a))) := hide rfl
      have HTW : Hid (takeW F o l = if canW F o l then { F l with full := true, unt := false, known := o.a + o.b } else F l) := hide rfl
      have HNO : Hid (canW F o l = false → ∀ u, (Scn (wr.alloc u) (fun k => X k ∨ k = w.heap.size) b (some ⟨g, 0, none⟩) n cW vE vV (soFar F (takeW F o) (l + 1)) nx hd ∧ Fr (fun k => X k ∨ k = w.heap.size) w0 (wr.alloc u) ∧ ∀ v, wr.ownsRow (w.heap.size + 1) 3 1 v ((List.range l).filter (canW F o)).length (pCells ((List.range l).filter (canW F o))) → (wr.alloc u).ownsRow (w.heap.size + 1) 3 1 v ((List.range (l + 1)).filter (canW F o)).length (pCells ((List.range (l + 1)).filter (canW F o))))) := hide (fun hc u => by
        refine ⟨(HSC.out.below ((Below.refl _ _).alloc (Nat.le_refl _) u)).congr (fun l' _ => soFar_miss (by rw [HTW.out, hc]; rfl) l') (fun _ _ => rfl) (fun _ _ => rfl), HFR.out.trans (Fr.of_below ((Below.refl _ _).alloc (Nat.le_refl _) u) HSC.out.xl), fun v hv => ?_⟩
        rw [HRS.out, hc]
        simp only [Bool.false_eq_true, if_false, List.append_nil]
        exact hv.alloc u)
      clear hfr hown hAr hrs
      obtain ⟨p1, hp1⟩ : ∃ p1, ((F l).dst == o.k) = p1 := ⟨_, rfl⟩
      have hd1 : decide ((F l).dst = o.k) = p1 := by rw [← hp1]; rfl
      rw [hd1] at HCW
      clear hd1
      cases p1 with
      | false =>
        have HN := hide (HNO.out (by rw [HCW.out]; rfl))
        clear HNO HTW HCW hsc hW hAl
        go_wp2
        go_roundw
        case rel => exact ⟨l + 1, by omega, by go_num, (HN.out _).1, (HN.out _).2.1, (HN.out _).2.2 _ HOW.out⟩
        case measure => simp [intOf]; omega
      | true =>
        obtain ⟨fl, hfl2⟩ : ∃ fl, (F l).full = fl := ⟨_, rfl⟩
        rw [hfl2] at HCW x2
        cases fl with
        | true =>
          have HN := hide (HNO.out (by rw [HCW.out]; rfl))
          clear HNO HTW HCW hsc hW hfl2 hAl
          go_wp2
          go_roundw
          case rel => exact ⟨l + 1, by omega, by go_num, (HN.out _).1, (HN.out _).2.1, (HN.out _).2.2 _ HOW.out⟩
          case measure => simp [intOf]; omega
        | false =>
          obtain ⟨un, hun⟩ : ∃ un, (F l).unt = un := ⟨_, rfl⟩
          rw [hun] at HCW x3
          cases un with
          | false =>
            have HN := hide (HNO.out (by rw [HCW.out]; rfl))
            clear HNO HTW HCW hsc hW hfl2 hun hAl
            go_wp2
            go_roundw
            case rel => exact ⟨l + 1, by omega, by go_num, (HN.out _).1, (HN.out _).2.1, (HN.out _).2.2 _ HOW.out⟩
            case measure => simp [intOf]; omega
          | true =>
            by_cases hco : (F l).comes ≤ o.a
            · have hcw : canW F o l = true := by rw [HCW.out, decide_eq_true hco]; rfl
              have htw : takeW F o l = { F l with full := true, unt := false, known := o.a + o.b } := by rw [HTW.out, hcw]; rfl
              have hS1 : ∀ u, Scn (wr.alloc u) (fun k => X k ∨ k = w.heap.size) b (some ⟨g, 0, none⟩) n cW vE vV (soFar F (takeW F o) l) nx hd := fun u => hsc.below ((Below.refl _ _).alloc (Nat.le_refl _) u)
              have hS2 : ∀ u, Scn ((wr.alloc u).setCell ⟨g, l * 6 + 2, none⟩ (.bool true)) (fun k => X k ∨ k = w.heap.size) b (some ⟨g, 0, none⟩) n cW vE vV (fun l' => if l' = l then { F l with full := true } else soFar F (takeW F o) l l') nx hd := fun u => (hS1 u).setW rfl hil (by omega) _ (fun l' _ j' hj' => by
                by_cases e : l' = l
                · subst e
                  rw [if_pos rfl, soFar_at]
                  have : j' = 0 ∨ j' = 1 ∨ j' = 2 ∨ j' = 3 ∨ j' = 4 ∨ j' = 5 := by omega
                  rcases this with rfl | rfl | rfl | rfl | rfl | rfl <;> simp [WrF.cell]
                · rw [if_neg e, if_neg (fun e2 => e e2.1)])
              have hS3 : ∀ u, Scn (((wr.alloc u).setCell ⟨g, l * 6 + 2, none⟩ (.bool true)).setCell ⟨g, l * 6 + 3, none⟩ (.bool false)) (fun k => X k ∨ k = w.heap.size) b (some ⟨g, 0, none⟩) n cW vE vV (fun l' => if l' = l then { F l with full := true, unt := false } else soFar F (takeW F o) l l') nx hd := fun u => (hS2 u).setW rfl hil (by omega) _ (fun l' _ j' hj' => by
                by_cases e : l' = l
                · subst e
                  rw [if_pos rfl, if_pos rfl]
                  have : j' = 0 ∨ j' = 1 ∨ j' = 2 ∨ j' = 3 ∨ j' = 4 ∨ j' = 5 := by omega
                  rcases this with rfl | rfl | rfl | rfl | rfl | rfl <;> simp [WrF.cell]
                · rw [if_neg e, if_neg e, if_neg (fun e2 => e e2.1)])
              have hS4 : ∀ u, Scn ((((wr.alloc u).setCell ⟨g, l * 6 + 2, none⟩ (.bool true)).setCell ⟨g, l * 6 + 3, none⟩ (.bool false)).setCell ⟨g, l * 6 + 5, none⟩ (.int .i64 (o.a + o.b))) (fun k => X k ∨ k = w.heap.size) b (some ⟨g, 0, none⟩) n cW vE vV (soFar F (takeW F o) (l + 1)) nx hd := fun u => (hS3 u).setW rfl hil (by omega) _ (fun l' _ j' hj' => by
                by_cases e : l' = l
                · subst e
                  rw [if_pos rfl]
                  unfold soFar
                  rw [if_pos (by omega), htw]
                  have : j' = 0 ∨ j' = 1 ∨ j' = 2 ∨ j' = 3 ∨ j' = 4 ∨ j' = 5 := by omega
                  rcases this with rfl | rfl | rfl | rfl | rfl | rfl <;> simp [WrF.cell]
                · rw [if_neg e, if_neg (fun e2 => e e2.1)]
                  unfold soFar
                  by_cases e3 : l' < l
                  · rw [if_pos e3, if_pos (by omega)]
                  · rw [if_neg e3, if_neg (by omega)])
              have hA3 : ∀ u, ActAt (((wr.alloc u).setCell ⟨g, l * 6 + 2, none⟩ (.bool true)).setCell ⟨g, l * 6 + 3, none⟩ (.bool false)) w.heap.size o := fun u => ((hAl u).setOther (a := ⟨g, l * 6 + 2, none⟩) (by show w.heap.size ≠ g; omega) _).setOther (a := ⟨g, l * 6 + 3, none⟩) (by show w.heap.size ≠ g; omega) _
              have s1 : ∀ u, (wr.alloc u).cell? ⟨b, 2, none⟩ = some (.slice (some ⟨g, 0, none⟩) n cW) := fun u => (hS1 u).c2
              have s2 : ∀ u, ((wr.alloc u).setCell ⟨g, l * 6 + 2, none⟩ (.bool true)).cell? ⟨b, 2, none⟩ = some (.slice (some ⟨g, 0, none⟩) n cW) := fun u => (hS2 u).c2
              have s3 : ∀ u, (((wr.alloc u).setCell ⟨g, l * 6 + 2, none⟩ (.bool true)).setCell ⟨g, l * 6 + 3, none⟩ (.bool false)).cell? ⟨b, 2, none⟩ = some (.slice (some ⟨g, 0, none⟩) n cW) := fun u => (hS3 u).c2
              have t1 : ∀ u, (wr.alloc u).cell? ⟨g, l * 6 + 2, none⟩ = some (.bool false) := fun u => by
                obtain ⟨g', e, hW', _⟩ := (hS1 u).wi (by omega); cases e; have := (hW'.cells hil).2.2.1; rw [soFar_at, hfl2] at this; exact this
              have t2 : ∀ u, ((wr.alloc u).setCell ⟨g, l * 6 + 2, none⟩ (.bool true)).cell? ⟨g, l * 6 + 3, none⟩ = some (.bool true) := fun u => by
                obtain ⟨g', e, hW', _⟩ := (hS2 u).wi (by omega); cases e; have := (hW'.cells hil).2.2.2.1; rw [if_pos rfl] at this; rw [this, hun]
              have t3 : ∀ u, (((wr.alloc u).setCell ⟨g, l * 6 + 2, none⟩ (.bool true)).setCell ⟨g, l * 6 + 3, none⟩ (.bool false)).cell? ⟨g, l * 6 + 5, none⟩ = some (.int .i64 (F l).known) := fun u => by
                obtain ⟨g', e, hW', _⟩ := (hS3 u).wi (by omega); cases e; have := (hW'.cells hil).2.2.2.2.2; rw [if_pos rfl] at this; exact this
              have f1 : ∀ u, (wr.alloc u).frozen? ⟨g, l * 6 + 2, none⟩ = false := fun u => by
                obtain ⟨g', e, hW', _⟩ := (hS1 u).wi (by omega); cases e; exact hW'.froz _
              have f2 : ∀ u, ((wr.alloc u).setCell ⟨g, l * 6 + 2, none⟩ (.bool true)).frozen? ⟨g, l * 6 + 3, none⟩ = false := fun u => by
                obtain ⟨g', e, hW', _⟩ := (hS2 u).wi (by omega); cases e; exact hW'.froz _
              have f3 : ∀ u, (((wr.alloc u).setCell ⟨g, l * 6 + 2, none⟩ (.bool true)).setCell ⟨g, l * 6 + 3, none⟩ (.bool false)).frozen? ⟨g, l * 6 + 5, none⟩ = false := fun u => by
                obtain ⟨g', e, hW', _⟩ := (hS3 u).wi (by omega); cases e; exact hW'.froz _
              have m1 : ∀ u, (((wr.alloc u).setCell ⟨g, l * 6 + 2, none⟩ (.bool true)).setCell ⟨g, l * 6 + 3, none⟩ (.bool false)).cell? ⟨w.heap.size, 1, none⟩ = some (.int .i64 o.a) := fun u => (hA3 u).cells.2.1
              have m2 : ∀ u, (((wr.alloc u).setCell ⟨g, l * 6 + 2, none⟩ (.bool true)).setCell ⟨g, l * 6 + 3, none⟩ (.bool false)).cell? ⟨w.heap.size, 2, none⟩ = some (.int .i64 o.b) := fun u => (hA3 u).cells.2.2.1
              have HS4 := hide hS4
              have HF4 : Hid (∀ u u', Fr (fun k => X k ∨ k = w.heap.size) w0 (((((wr.alloc u).setCell ⟨g, l * 6 + 2, none⟩ (.bool true)).setCell ⟨g, l * 6 + 3, none⟩ (.bool false)).setCell ⟨g, l * 6 + 5, none⟩ (.int .i64 (o.a + o.b))).alloc u')) := hide (fun u u' => by
                have e1 : Fr (fun k => X k ∨ k = w.heap.size) w0 (wr.alloc u) := HFR.out.trans (Fr.of_below ((Below.refl _ _).alloc (Nat.le_refl _) u) HSC.out.xl)
                exact (((e1.setCell (HSC.out.xg g rfl) _).setCell (HSC.out.xg g rfl) _).setCell (HSC.out.xg g rfl) _).trans (Fr.of_below ((Below.refl _ _).alloc (Nat.le_refl _) u') (hS4 u).xl))
              have hO4 : ∀ u, ((((wr.alloc u).setCell ⟨g, l * 6 + 2, none⟩ (.bool true)).setCell ⟨g, l * 6 + 3, none⟩ (.bool false)).setCell ⟨g, l * 6 + 5, none⟩ (.int .i64 (o.a + o.b))).ownsRow (w.heap.size + 1) 3 1 _ ((List.range l).filter (canW F o)).length (pCells ((List.range l).filter (canW F o))) := fun u => own_blk (HOW.out.alloc u) (fun k hk => by
                have hk1 := ownBlock_ge HOW.out k hk
                rw [heap_setCell_other _ ⟨g, l * 6 + 5, none⟩ k _ (by show k ≠ g; omega), heap_setCell_other _ ⟨g, l * 6 + 3, none⟩ k _ (by show k ≠ g; omega), heap_setCell_other _ ⟨g, l * 6 + 2, none⟩ k _ (by show k ≠ g; omega)])
              have HNB : Hid (∀ u, (((((wr.alloc u).setCell ⟨g, l * 6 + 2, none⟩ (.bool true)).setCell ⟨g, l * 6 + 3, none⟩ (.bool false)).setCell ⟨g, l * 6 + 5, none⟩ (.int .i64 (o.a + o.b))).alloc (.cells #[.int .i64 (l : Int)] 3)).heap[wr.heap.size + 1]? = some (.cells #[.int .i64 (l : Int)] 3 (0, 0))) := hide (fun u => by
                have e : ((((wr.alloc u).setCell ⟨g, l * 6 + 2, none⟩ (.bool true)).setCell ⟨g, l * 6 + 3, none⟩ (.bool false)).setCell ⟨g, l * 6 + 5, none⟩ (.int .i64 (o.a + o.b))).heap.size = wr.heap.size + 1 := by simp
                rw [← e]; exact heap_alloc_new _ _)
              have HSZ : Hid (∀ u u', (((((wr.alloc u).setCell ⟨g, l * 6 + 2, none⟩ (.bool true)).setCell ⟨g, l * 6 + 3, none⟩ (.bool false)).setCell ⟨g, l * 6 + 5, none⟩ (.int .i64 (o.a + o.b))).alloc u').heap.size = wr.heap.size + 2) := hide (fun u u' => by simp)
              have hBK := ownBlock_ge HOW.out
              have HBK := hide hBK
              have HO4 := hide hO4
              have HRS2 : Hid ((List.range (l + 1)).filter (canW F o) = (List.range l).filter (canW F o) ++ [l]) := hide (by rw [HRS.out, hcw]; rfl)
              have hxg := HSC.out.xg g rfl
              clear HNO HTW HCW hsc hW hfl2 hun hAl hcw htw hS1 hS2 hS3 hS4 hA3 HRS hO4 hBK HOW
              generalize (List.range l).filter (canW F o) = TK at *
              go_wp2_with fail
              go_big_region
              go_wp2_with (at_builtin; refine wpList_append_lies _ rfl _ _ _ rfl (w.heap.size + 1) 3 i0 _ 1 8 Try.underlying38 hi0 hz0 hz1 hz2 rfl (by omega) _ TK.length (pCells TK) rfl ?h1 ⟨wr.heap.size + 1, 0, none⟩ 1 1 [.int .i64 (l : Int)] rfl rfl ?h2 (by simp [Value.oneCell']) (by omega) ?h3 ?h4 ?h5 (wr.heap.size + 2) ?h6 ?_; (case h1 => exact ((HO4.out (.cells #[.int .i64 (F l).src, .int .i64 (F l).dst, .bool false, .bool true, .int .i64 (F l).comes, .int .i64 (F l).known] 141)).alloc (.cells #[.int .i64 (l : Int)] 3))); (case h2 => exact (World.news_of_block (cs := #[.int .i64 (l : Int)]) (t := 3) (fr := (0, 0)) (HNB.out (.cells #[.int .i64 (F l).src, .int .i64 (F l).dst, .bool false, .bool true, .int .i64 (F l).comes, .int .i64 (F l).known] 141)))); (case h3 => (unfold maxLen; omega)); (case h4 => omega); (case h5 => exact Nat.le_trans (show w.heap.size + 1 ≤ wr.heap.size + 2 by omega) (Nat.le_of_eq (HSZ.out (.cells #[.int .i64 (F l).src, .int .i64 (F l).dst, .bool false, .bool true, .int .i64 (F l).comes, .int .i64 (F l).known] 141) (.cells #[.int .i64 (l : Int)] 3)).symm)); (case h6 => exact (HSZ.out (.cells #[.int .i64 (F l).src, .int .i64 (F l).dst, .bool false, .bool true, .int .i64 (F l).comes, .int .i64 (F l).known] 141) (.cells #[.int .i64 (l : Int)] 3))); intro g3 cap3 w3 hown3 hgrow hat hlt3)
              all_goals
                go_roundw
                case rel =>
                  have hG := ((HS4.out _).below (((Below.refl _ _).alloc (Nat.le_refl _) _).drew)).grown hgrow (fun k hk hx => by
                    have h1 := HBK.out k hk
                    rcases hx with (hx | hx) | hx | hx
                    · have := HX.out k hx; omega
                    · omega
                    · omega
                    · cases hx; omega)
                  exact ⟨l + 1, by omega, by go_num, hG.1, ((HF4.out _ _).trans (Fr.of_below ((Below.refl _ _).drew) (fun k hk => by have := (HS4.out (.cells #[] 0)).xl k hk; simp at this ⊢; omega))).trans hG.2, by rw [HRS2.out, List.length_append, pCells_snoc]; exact hown3⟩
                case measure => simp [intOf]; omega
            · have HN := hide (HNO.out (by rw [HCW.out, decide_eq_false hco]; rfl))
              clear HNO HTW HCW hsc hW hfl2 hun hAl
              go_wp2
              go_roundw
              case rel => exact ⟨l + 1, by omega, by go_num, (HN.out _).1, (HN.out _).2.1, (HN.out _).2.2 _ HOW.out⟩
              case measure => simp [intOf]; omega
    · have ek : l = n := by omega
      subst ek
      clear hfr hown hsc
      go_wp2
      go_ret
      refine ⟨_, rfl, own_low HOW.out (by omega), (HSC.out.congr (fun l' hl' => by unfold soFar; rw [if_pos hl']) (fun _ _ => rfl) (fun _ _ => rfl)).more (fun e => HSC.out.xb (.inl e)) (fun g hg e => HSC.out.xg g hg (.inl e)) (fun k hk => HSC.out.xl k (.inl hk)), ?_⟩
      exact (Fr.of_below HB0.out HX.out).trans (HFR.out.mono fun k hk => .inl hk)
end Go.Proofs.Ytmndgoapkmhglab
