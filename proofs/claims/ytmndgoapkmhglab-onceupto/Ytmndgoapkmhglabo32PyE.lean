import Derived.Test.Ytmndgoapkmhglabo18JudA
import Derived.Test.Ytmndgoapkmhglabo26PyD
import Derived.Test.Ytmndgoapkmhglabo29LawP
namespace Go.Proofs.Ytmndgoapkmhglab
open Go.RowKit
attribute [local go_sem ↓] Go.wp_at_zero Go.wp_at_succ
def pubW (F : Nat → WrF) (k t : Int) (l : Nat) : WrF := if (F l).src = k then { F l with unt := true, comes := t } else F l
def valsP (es : List Dc) (p : Nat) (S : Nat → Int) (m : Nat) : List Int := ((List.range m).filter fun i => (es[i]?.map Dc.place) == some p).map S
theorem valsP_hit {es : List Dc} {p : Nat} {S : Nat → Int} {m : Nat} (hm : m < es.length) (h : (es[m]'hm).place = p) : valsP es p S (m + 1) = valsP es p S m ++ [S m] := by
  unfold valsP
  rw [List.range_succ, List.filter_append, List.map_append]
  congr 1
  simp [hm, h]
theorem valsP_miss {es : List Dc} {p : Nat} {S : Nat → Int} {m : Nat} (hm : m < es.length) (h : (es[m]'hm).place ≠ p) : valsP es p S (m + 1) = valsP es p S m := by
  unfold valsP
  rw [List.range_succ, List.filter_append, List.map_append]
  simp [hm, h]
theorem valsP_len (es : List Dc) (p : Nat) (S : Nat → Int) (m : Nat) : (valsP es p S m).length ≤ m := by
  unfold valsP
  rw [List.length_map]
  have := List.length_filter_le (fun i => (es[i]?.map Dc.place) == some p) (List.range m)
  rwa [List.length_range] at this
theorem iCells_one (l : List Int) (x : Int) : iCells (l ++ [x]) = iCells l ++ [.int .i64 x] := by simp [iCells]
structure ScD (w : World) (X : Nat → Prop) (es : List Dc) (aE : Option Addr) (cE : Nat) (aV : Option Addr) (cV gv nV : Nat) (R : Nat → Nat) (S : Nat → Nat → Int) : Prop where
  eqs : w.ownsRow 0 126 7 (.slice aE es.length cE) es.length (dcCells es)
  mat : MatI w gv es.length nV R S
  av : 0 < es.length → aV = some ⟨gv, 0, none⟩
  ae : 0 < es.length → ∃ ge, aE = some ⟨ge, 0, none⟩ ∧ ge < w.heap.size
  xe : ∀ k, (Value.slice aE es.length cE).ownBlock = some k → X k
  xv : 0 < es.length → X gv
  xr : ∀ i, i < es.length → X (R i)
  few : es.length ≤ 1501
theorem ScD.fr {w w' : World} {X : Nat → Prop} {es : List Dc} {aE : Option Addr} {cE : Nat} {aV : Option Addr} {cV gv nV : Nat} {R : Nat → Nat} {S : Nat → Nat → Int} (h : ScD w X es aE cE aV cV gv nV R S) (hf : Fr X w w') : ScD w' X es aE cE aV cV gv nV R S := by
  refine ⟨own_blk h.eqs (fun g hg => hf.block g (h.xe g hg)), ?_, h.av, fun hp => ?_, h.xe, h.xv, h.xr, h.few⟩
  · rcases Nat.eq_zero_or_pos es.length with h0 | h0
    · exact ⟨fun i hi => by omega, fun i hi => by omega, h.mat.inj, h.mat.ne⟩
    · exact h.mat.keep (hf.block _ (h.xv h0)) (fun i hi => hf.block _ (h.xr i hi))
  · obtain ⟨ge, e, hl⟩ := h.ae hp
    exact ⟨ge, e, Nat.lt_of_lt_of_le hl hf.size⟩
set_option maxHeartbeats 4000000 in
set_option maxRecDepth 100000 in
theorem ppub_any {w : World} {X : Nat → Prop} {b : Nat} {aW : Option Addr} {n cW : Nat} {aE aV : Option Addr} {cE cV gv nV : Nat} {es : List Dc} {R : Nat → Nat} {S : Nat → Nat → Int} {F : Nat → WrF} {nx : Nat → Nat} {hd : Nat → Bool} (h : Scn w X b aW n cW (.slice aE es.length cE) (.slice aV es.length cV) F nx hd) (hD : ScD w X es aE cE aV cV gv nV R S) (hX : ∀ k, X k → k < w.heap.size) (p : Nat) (hp : p < 4) (oa ob oc : Int) (hoc : -1099511627776 ≤ oa + oc ∧ oa + oc ≤ 4398046511104) (num : Nat) (hnx : nx p = num + 1) (hnV : num < nV) (hnV2 : nV ≤ 200) :
    Calls Try.prog 104 #[.pointer (some ⟨b, 0, none⟩), .agg #[.int .i64 (p : Int), .int .i64 oa, .int .i64 ob, .int .i64 oc]] w fun e w' => ∃ v, e = .returned v ∧ w'.ownsRow w.heap.size 3 1 v (valsP es p (fun i => S i num) es.length).length (iCells (valsP es p (fun i => S i num) es.length)) ∧ Scn w' X b aW n cW (.slice aE es.length cE) (.slice aV es.length cV) (pubW F p (oa + oc)) nx (fun q => if q = p then false else hd q) ∧ Fr X w w' := by
  obtain ⟨i0, hi0, hz0, hz1, hz2⟩ := info_parts Try.infoInt
  obtain ⟨w0, hw0⟩ : ∃ w0, w0 = w.alloc (.cells #[.int .i64 (p : Int), .int .i64 oa, .int .i64 ob, .int .i64 oc] 43) := ⟨_, rfl⟩
  have hb0 : Below w.heap.size w w0 := by rw [hw0]; exact (Below.refl _ _).alloc (Nat.le_refl _) _
  have hz : w0.heap.size = w.heap.size + 1 := by rw [hw0]; simp
  have hA : ActAt w0 w.heap.size ⟨p, oa, ob, oc⟩ := by rw [hw0]; exact ActAt.boxed w ⟨p, oa, ob, oc⟩
  have hs0 := h.below hb0
  have c2 := hs0.c2
  have hfew := h.few
  have hbl := h.lt
  have hgl : ∀ g, aW = some ⟨g, 0, none⟩ → g < w.heap.size := fun g e => h.sl g (.inr (.inr e))
  have hsX : Scn w0 (fun k => X k ∨ k = w.heap.size) b aW n cW (.slice aE es.length cE) (.slice aV es.length cV) F nx hd := hs0.more (fun e => by rcases e with e | e; exact h.xb e; omega) (fun g hg e => by rcases e with e | e; exact h.xg g hg e; have := hgl g hg; omega) (fun k e => by rcases e with e | e; have := hX k e; omega; omega)
  have how : IntKind.i64.wrap (oa + oc) = oa + oc := by rw [IntKind.wrap_i64]; omega
  have HA := hide hA
  have HS := hide hsX
  have HB0 := hide hb0
  have HX := hide hX
  have HGL := hide hgl
  have HD := hide (hD.fr (Fr.of_below hb0 hX))
  rw [hw0] at c2
  have HW0 := hide hw0
  have w2 : IntKind.i64.wrap (((nx p : Nat) : Int) - 1) = (num : Int) := by rw [IntKind.wrap_i64, hnx]; omega
  have j5 : (0 : Int) ≤ (p : Int) := by omega
  have j6 : (p : Int) < 4 := by omega
  clear hb0 hA hs0 h hw0 hsX hX hgl hD hnx
  go_enter Try.func104, Try.ntmps104
  go_wp2
  go_loopw [16] (fun vi wr => ∃ l : Nat, l ≤ n ∧ vi = .int .i64 l ∧ Scn wr (fun k => X k ∨ k = w.heap.size) b aW n cW (.slice aE es.length cE) (.slice aV es.length cV) (soFar F (pubW F p (oa + oc)) l) nx hd ∧ Fr (fun k => X k ∨ k = w.heap.size) w0 wr) (fun vi _ => n - (intOf vi).toNat)
  case atStart => exact ⟨0, Nat.zero_le _, rfl, by rw [← HW0.out, soFar_zero]; exact HS.out, by rw [HW0.out]; exact Fr.refl _ _⟩
  case round =>
    obtain ⟨l, hl, rfl, hsc, hfr⟩ := hrel
    have HSC := hide hsc
    have HFR := hide hfr
    have hszr := hfr.size
    clear c2
    have hAr : ActAt wr w.heap.size ⟨p, oa, ob, oc⟩ := HA.out.of_block (hfr.block _ (.inr rfl))
    by_cases hil : l < n
    · obtain ⟨g, rfl, hW, hne⟩ := hsc.wi (by omega)
      obtain ⟨x0, x1, x2, x3, x4, x5⟩ := hW.cells hil
      rw [soFar_at] at x0 x1 x2 x3 x4 x5
      have hgw := HGL.out g rfl
      have k0 : ∀ u, (wr.alloc u).cell? ⟨w.heap.size, 0, none⟩ = some (.int .i64 (p : Int)) := fun u => (ActAt.cells (hAr.alloc u)).1
      have j3 : (0 : Int) ≤ (l : Int) := by omega
      have j4 : (l : Int) < (n : Int) := by omega
      have HTW : Hid (pubW F p (oa + oc) l = if (F l).src = p then { F l with unt := true, comes := oa + oc } else F l) := hide rfl
      clear hfr
      by_cases hd1 : (F l).src = (p : Int)
      · have q1 : ((F l).src == (p : Int)) = true := by rw [hd1]; simp
        have htw : pubW F p (oa + oc) l = { F l with unt := true, comes := oa + oc } := by rw [HTW.out, if_pos hd1]
        have hS1 : ∀ u, Scn (wr.alloc u) (fun k => X k ∨ k = w.heap.size) b (some ⟨g, 0, none⟩) n cW (.slice aE es.length cE) (.slice aV es.length cV) (soFar F (pubW F p (oa + oc)) l) nx hd := fun u => hsc.below ((Below.refl _ _).alloc (Nat.le_refl _) u)
        have hS2 : ∀ u, Scn ((wr.alloc u).setCell ⟨g, l * 6 + 3, none⟩ (.bool true)) (fun k => X k ∨ k = w.heap.size) b (some ⟨g, 0, none⟩) n cW (.slice aE es.length cE) (.slice aV es.length cV) (fun l' => if l' = l then { F l with unt := true } else soFar F (pubW F p (oa + oc)) l l') nx hd := fun u => (hS1 u).setW rfl hil (by omega) _ (fun l' _ j' hj' => by
          by_cases e : l' = l
          · subst e
            rw [if_pos rfl, soFar_at]
            have : j' = 0 ∨ j' = 1 ∨ j' = 2 ∨ j' = 3 ∨ j' = 4 ∨ j' = 5 := by omega
            rcases this with rfl | rfl | rfl | rfl | rfl | rfl <;> simp [WrF.cell]
          · rw [if_neg e, if_neg (fun e2 => e e2.1)])
        have hS3 : ∀ u, Scn (((wr.alloc u).setCell ⟨g, l * 6 + 3, none⟩ (.bool true)).setCell ⟨g, l * 6 + 4, none⟩ (.int .i64 (oa + oc))) (fun k => X k ∨ k = w.heap.size) b (some ⟨g, 0, none⟩) n cW (.slice aE es.length cE) (.slice aV es.length cV) (soFar F (pubW F p (oa + oc)) (l + 1)) nx hd := fun u => (hS2 u).setW rfl hil (by omega) _ (fun l' _ j' hj' => by
          by_cases e : l' = l
          · subst e
            rw [if_pos rfl]
            unfold soFar
            rw [if_pos (by omega), htw]
            have : j' = 0 ∨ j' = 1 ∨ j' = 2 ∨ j' = 3 ∨ j' = 4 ∨ j' = 5 := by omega
            rcases this with rfl | rfl | rfl | rfl | rfl | rfl <;> simp [WrF.cell]
          · rw [if_neg e, if_neg (fun e2 => e e2.1)]
            unfold soFar
            by_cases e3 : l' < l
            · rw [if_pos e3, if_pos (by omega)]
            · rw [if_neg e3, if_neg (by omega)])
        have hA3 : ∀ u, ActAt ((wr.alloc u).setCell ⟨g, l * 6 + 3, none⟩ (.bool true)) w.heap.size ⟨p, oa, ob, oc⟩ := fun u => World.rowIs.setOther (hAr.alloc u) (a := ⟨g, l * 6 + 3, none⟩) (by show w.heap.size ≠ g; omega) _
        have s1 : ∀ u, (wr.alloc u).cell? ⟨b, 2, none⟩ = some (.slice (some ⟨g, 0, none⟩) n cW) := fun u => (hS1 u).c2
        have s2 : ∀ u, ((wr.alloc u).setCell ⟨g, l * 6 + 3, none⟩ (.bool true)).cell? ⟨b, 2, none⟩ = some (.slice (some ⟨g, 0, none⟩) n cW) := fun u => (hS2 u).c2
        have t1 : ∀ u, (wr.alloc u).cell? ⟨g, l * 6 + 3, none⟩ = some (.bool (F l).unt) := fun u => by
          obtain ⟨g', e, hW', _⟩ := (hS1 u).wi (by omega); cases e; have := (hW'.cells hil).2.2.2.1; rw [soFar_at] at this; exact this
        have t2 : ∀ u, ((wr.alloc u).setCell ⟨g, l * 6 + 3, none⟩ (.bool true)).cell? ⟨g, l * 6 + 4, none⟩ = some (.int .i64 (F l).comes) := fun u => by
          obtain ⟨g', e, hW', _⟩ := (hS2 u).wi (by omega); cases e; have := (hW'.cells hil).2.2.2.2.1; rw [if_pos rfl] at this; exact this
        have f1 : ∀ u, (wr.alloc u).frozen? ⟨g, l * 6 + 3, none⟩ = false := fun u => by
          obtain ⟨g', e, hW', _⟩ := (hS1 u).wi (by omega); cases e; exact hW'.froz _
        have f2 : ∀ u, ((wr.alloc u).setCell ⟨g, l * 6 + 3, none⟩ (.bool true)).frozen? ⟨g, l * 6 + 4, none⟩ = false := fun u => by
          obtain ⟨g', e, hW', _⟩ := (hS2 u).wi (by omega); cases e; exact hW'.froz _
        have m1 : ∀ u, ((wr.alloc u).setCell ⟨g, l * 6 + 3, none⟩ (.bool true)).cell? ⟨w.heap.size, 1, none⟩ = some (.int .i64 oa) := fun u => (hA3 u).cells.2.1
        have m2 : ∀ u, ((wr.alloc u).setCell ⟨g, l * 6 + 3, none⟩ (.bool true)).cell? ⟨w.heap.size, 3, none⟩ = some (.int .i64 oc) := fun u => (hA3 u).cells.2.2.2
        have HF4 : Hid (∀ u, Fr (fun k => X k ∨ k = w.heap.size) w0 (((wr.alloc u).setCell ⟨g, l * 6 + 3, none⟩ (.bool true)).setCell ⟨g, l * 6 + 4, none⟩ (.int .i64 (oa + oc)))) := hide (fun u => by
          have e1 : Fr (fun k => X k ∨ k = w.heap.size) w0 (wr.alloc u) := HFR.out.trans (Fr.of_below ((Below.refl _ _).alloc (Nat.le_refl _) u) HSC.out.xl)
          exact (e1.setCell (HSC.out.xg g rfl) _).setCell (HSC.out.xg g rfl) _)
        have HS3 := hide hS3
        clear hsc hW HTW htw hS1 hS2 hS3 hd1 hA3 hAr
        generalize (F l).src = fs at *
        generalize (F l).dst = fd at *
        generalize (F l).full = ff at *
        generalize (F l).unt = fu at *
        generalize (F l).comes = fc at *
        generalize (F l).known = fk at *
        have hdr : ∀ W : World, Below W.heap.size W W.drew := fun W => (Below.refl W.heap.size W).drew
        have HDR := hide hdr
        clear hdr
        go_wp2_with fail
        go_big_region
        go_wp2
        go_roundw
        case rel =>
          first
            | exact ⟨l + 1, by omega, by go_num, HS3.out _, HF4.out _⟩
            | exact ⟨l + 1, by omega, by go_num, (HS3.out _).below (HDR.out _), (HF4.out _).trans (Fr.of_below (HDR.out _) (HS3.out _).xl)⟩
        case measure => simp [intOf]; omega
      · have q1 : ((F l).src == (p : Int)) = false := by rw [beq_eq_false_iff_ne]; exact hd1
        have HN : Hid (∀ u, Scn (wr.alloc u) (fun k => X k ∨ k = w.heap.size) b (some ⟨g, 0, none⟩) n cW (.slice aE es.length cE) (.slice aV es.length cV) (soFar F (pubW F p (oa + oc)) (l + 1)) nx hd ∧ Fr (fun k => X k ∨ k = w.heap.size) w0 (wr.alloc u)) := hide (fun u =>
          ⟨(HSC.out.below ((Below.refl _ _).alloc (Nat.le_refl _) u)).congr (fun l' _ => soFar_miss (by rw [HTW.out, if_neg hd1]) l') (fun _ _ => rfl) (fun _ _ => rfl), HFR.out.trans (Fr.of_below ((Below.refl _ _).alloc (Nat.le_refl _) u) HSC.out.xl)⟩)
        clear hsc hW HTW hd1 hAr
        go_wp2
        go_roundw
        case rel => exact ⟨l + 1, by omega, by go_num, (HN.out _).1, (HN.out _).2⟩
        case measure => simp [intOf]; omega
    · have ek : l = n := by omega
      subst ek
      have hS0 : Scn wr (fun k => X k ∨ k = w.heap.size) b aW l cW (.slice aE es.length cE) (.slice aV es.length cV) (pubW F p (oa + oc)) nx hd := hsc.congr (fun l' hl' => by unfold soFar; rw [if_pos hl']) (fun _ _ => rfl) (fun _ _ => rfl)
      obtain ⟨W, hW⟩ : ∃ W, W = wr.setCell ⟨b, 3 + p * 2 + 1, none⟩ (.bool false) := ⟨_, rfl⟩
      have hS1 : Scn W (fun k => X k ∨ k = w.heap.size) b aW l cW (.slice aE es.length cE) (.slice aV es.length cV) (pubW F p (oa + oc)) nx (fun q => if q = p then false else hd q) := by rw [hW]; exact hS0.setH hp false
      have hA1 : ActAt W w.heap.size ⟨p, oa, ob, oc⟩ := by rw [hW]; exact World.rowIs.setOther hAr (a := ⟨b, 3 + p * 2 + 1, none⟩) (by show w.heap.size ≠ b; omega) _
      have hF1 : Fr (fun k => X k ∨ k = w.heap.size) w0 W := by rw [hW]; exact hfr.setCell hsc.xb _
      have hD1 := HD.out.fr (hF1.mono fun k hk => .inl hk)
      have k0 : wr.cell? ⟨w.heap.size, 0, none⟩ = some (.int .i64 (p : Int)) := hAr.cells.1
      have k1 := hA1.cells.1
      have c0 := hS0.ch hp
      have f0 := hS0.froz (3 + p * 2 + 1)
      have c1 := hS1.cn hp
      have cE0 := hS1.c0
      rw [hW] at k1 c1 cE0
      simp only [] at k1
      have HS1 := hide hS1
      have HF1 := hide hF1
      have HA1 := hide hA1
      have HD1 := hide hD1
      have HWW := hide hW
      have hszW : w.heap.size + 1 ≤ W.heap.size := by have := hF1.size; omega
      clear hfr hsc hAr hS0 hS1 hA1 hF1 hD1 hW HSC HFR
      go_wp2_with fail
      go_big_region
      go_wp2_with fail
      go_big_region
      go_wp2
      go_loopw [8, 67] (fun v vi wy => ∃ i : Nat, i ≤ es.length ∧ vi = .int .i64 i ∧ Below W.heap.size W wy ∧ wy.ownsRow W.heap.size 3 1 v (valsP es p (fun i => S i num) i).length (iCells (valsP es p (fun i => S i num) i))) (fun _ vi _ => es.length - (intOf vi).toNat)
      case atStart => exact ⟨0, Nat.zero_le _, rfl, by rw [← HWW.out]; exact ((Below.refl _ _).drew).drew, World.ownsRow_nil _ _ _ _⟩
      case round =>
        obtain ⟨i, hi, rfl, hbel, hown⟩ := hrel
        have HBEL := hide hbel
        have HOWN := hide hown
        have hbs := hbel.size
        have hvl := valsP_len es p (fun i => S i num) i
        have hfe := HD1.out.few
        clear k0 k1 c0 f0 c1 cE0
        by_cases hlt : i < es.length
        · obtain ⟨ge, rfl, hge⟩ := HD1.out.ae (by omega)
          have hav := HD1.out.av (by omega)
          obtain ⟨a, ha⟩ : ∃ a, a = es[i]'hlt := ⟨_, rfl⟩
          obtain ⟨x0, x1, x2, x3, x4, x5, x6⟩ := dc_later HD1.out.eqs hbel hge hlt a ha
          have k0 : ∀ u, (wr.alloc u).cell? ⟨w.heap.size, 0, none⟩ = some (.int .i64 (p : Int)) := fun u => (((hbel.alloc hbel.size u).cell (p := ⟨w.heap.size, 0, none⟩) HA1.out.lt).trans HA1.out.cells.1)
          have c1 : ∀ u, (wr.alloc u).cell? ⟨b, 1, none⟩ = some (.slice (some ⟨gv, 0, none⟩) es.length cV) := fun u => by rw [← hav]; exact (((hbel.alloc hbel.size u).cell (p := ⟨b, 1, none⟩) HS1.out.lt).trans HS1.out.c1)
          have y0 : ∀ u, (wr.alloc u).cell? ⟨gv, i, none⟩ = some (.slice (some ⟨R i, 0, none⟩) nV nV) := fun u => (HD1.out.mat.below (hbel.alloc hbel.size u)).outer i hlt
          have y1 : ∀ u, (wr.alloc u).cell? ⟨R i, num, none⟩ = some (.int .i64 (S i num)) := fun u => (HD1.out.mat.below (hbel.alloc hbel.size u)).cell hlt hnV
          have j1 : (0 : Int) ≤ (i : Int) := by omega
          have j2 : (i : Int) < (es.length : Int) := by omega
          have j7 : (0 : Int) ≤ (num : Int) := by omega
          have j8 : (num : Int) < (nV : Int) := by omega
          have HNB : Hid (∀ u, ((wr.alloc u).alloc (.cells #[.int .i64 (S i num)] 3)).heap[wr.heap.size + 1]? = some (.cells #[.int .i64 (S i num)] 3 (0, 0))) := hide (fun u => by
            have e : (wr.alloc u).heap.size = wr.heap.size + 1 := by simp
            rw [← e]; exact heap_alloc_new _ _)
          have HSZ : Hid (∀ u u', ((wr.alloc u).alloc u').heap.size = wr.heap.size + 2) := hide (fun u u' => by simp)
          by_cases hpl : a.place = p
          · have q1 : (((a.place : Nat) : Int) == (p : Int)) = true := by simp [hpl]
            have HN := hide (valsP_hit (p := p) (S := fun i => S i num) hlt (by rw [← ha]; exact hpl))
            clear ha hpl hbel hown hav
            generalize valsP es p (fun i => S i num) i = TK at *
            generalize S i num = sv at *
            go_wp2_with (at_builtin; refine wpList_append_lies _ rfl _ _ _ rfl W.heap.size 3 i0 _ 1 8 Try.underlying38 hi0 hz0 hz1 hz2 rfl (by omega) _ TK.length (iCells TK) rfl ?h1 ⟨wr.heap.size + 1, 0, none⟩ 1 1 [.int .i64 sv] rfl rfl ?h2 (by simp [Value.oneCell']) (by omega) ?h3 ?h4 ?h5 (wr.heap.size + 2) ?h6 ?_; (case h1 => exact ((HOWN.out.alloc _).alloc _)); (case h2 => exact (World.news_of_block (cs := #[.int .i64 sv]) (t := 3) (fr := (0, 0)) (HNB.out (.cells #[.int .i64 (a.kind : Int), .int .i64 (a.number : Int), .string a.name, .int .i64 (a.pos : Int), .int .i64 (a.place : Int), .int .i64 (a.root : Int), .int .i64 (a.fin : Int)] 126)))); (case h3 => (unfold maxLen; omega)); (case h4 => omega); (case h5 => exact Nat.le_trans (show W.heap.size ≤ wr.heap.size + 2 by omega) (Nat.le_of_eq (HSZ.out (.cells #[.int .i64 (a.kind : Int), .int .i64 (a.number : Int), .string a.name, .int .i64 (a.pos : Int), .int .i64 (a.place : Int), .int .i64 (a.root : Int), .int .i64 (a.fin : Int)] 126) (.cells #[.int .i64 sv] 3)).symm)); (case h6 => exact (HSZ.out (.cells #[.int .i64 (a.kind : Int), .int .i64 (a.number : Int), .string a.name, .int .i64 (a.pos : Int), .int .i64 (a.place : Int), .int .i64 (a.root : Int), .int .i64 (a.fin : Int)] 126) (.cells #[.int .i64 sv] 3))); intro g3 cap3 w3 hown3 hgrow hat hlt3)
            go_roundw
            case rel =>
              refine ⟨i + 1, by omega, by go_num, ?_, ?_⟩
              · exact ((HBEL.out.alloc hbs _).alloc (by simp; omega) _).grown hgrow (by simp; omega) (fun j hj => ownBlock_ge HOWN.out j hj)
              · rw [HN.out, List.length_append, iCells_one]; exact hown3
            case measure => simp [intOf]; omega
          · have q1 : (((a.place : Nat) : Int) == (p : Int)) = false := by rw [beq_eq_false_iff_ne]; omega
            have HN := hide (valsP_miss (p := p) (S := fun i => S i num) hlt (by rw [← ha]; exact hpl))
            clear ha hpl hbel hown hav
            go_wp2
            go_roundw
            case rel => exact ⟨i + 1, by omega, by go_num, HBEL.out.alloc hbs _, by rw [HN.out]; exact HOWN.out.alloc _⟩
            case measure => simp [intOf]; omega
        · have ei : i = es.length := by omega
          subst ei
          clear hbel hown
          go_wp2
          go_ret
          refine ⟨_, rfl, own_low HOWN.out (by omega), (HS1.out.more (fun e => HS1.out.xb (.inl e)) (fun g hg e => HS1.out.xg g hg (.inl e)) (fun k hk => HS1.out.xl k (.inl hk))).below HBEL.out, ?_⟩
          exact ((Fr.of_below HB0.out HX.out).trans (HF1.out.mono fun k hk => .inl hk)).trans (Fr.of_below HBEL.out (fun k hk => HS1.out.xl k (.inl hk)))
end Go.Proofs.Ytmndgoapkmhglab
