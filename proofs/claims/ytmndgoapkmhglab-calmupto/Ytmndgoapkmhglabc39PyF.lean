import Derived.Test.Ytmndgoapkmhglabc38PyE
namespace Go.Proofs.Ytmndgoapkmhglab
open Go.RowKit
attribute [local go_sem ↓] Go.wp_at_zero Go.wp_at_succ
def evF (k a d n : Int) (vT vV : Value) : Nat → Value
  | 0 => .int .i64 k
  | 1 => .int .i64 a
  | 2 => .int .i64 d
  | 3 => .int .i64 n
  | 4 => vT
  | _ => vV
def EvAt (w : World) (E : Nat) (k a d n : Int) (vT vV : Value) : Prop := w.rowIs E 41 6 (evF k a d n vT vV)
theorem EvAt.cells {w : World} {E : Nat} {k a d n : Int} {vT vV : Value} (h : EvAt w E k a d n vT vV) : w.cell? ⟨E, 0, none⟩ = some (.int .i64 k) ∧ w.cell? ⟨E, 1, none⟩ = some (.int .i64 a) ∧ w.cell? ⟨E, 2, none⟩ = some (.int .i64 d) ∧ w.cell? ⟨E, 3, none⟩ = some (.int .i64 n) ∧ w.cell? ⟨E, 4, none⟩ = some vT ∧ w.cell? ⟨E, 5, none⟩ = some vV :=
  ⟨h.cell (i := 0) (by omega), h.cell (i := 1) (by omega), h.cell (i := 2) (by omega), h.cell (i := 3) (by omega), h.cell (i := 4) (by omega), h.cell (i := 5) (by omega)⟩
theorem EvAt.boxed (w : World) (k a d n : Int) (vT vV : Value) : EvAt (w.alloc (.cells #[.int .i64 k, .int .i64 a, .int .i64 d, .int .i64 n, vT, vV] 41)) w.heap.size k a d n vT vV :=
  World.rowIs_alloc w #[.int .i64 k, .int .i64 a, .int .i64 d, .int .i64 n, vT, vV] _ _ (fun i hi => by
    have : i < 6 := hi
    have : i = 0 ∨ i = 1 ∨ i = 2 ∨ i = 3 ∨ i = 4 ∨ i = 5 := by omega
    rcases this with rfl | rfl | rfl | rfl | rfl | rfl <;> rfl)
theorem EvAt.setD {w : World} {E : Nat} {k a d n : Int} {vT vV : Value} (h : EvAt w E k a d n vT vV) (x : Int) : EvAt (w.setCell ⟨E, 2, none⟩ (.int .i64 x)) E k a x n vT vV :=
  (h.set 2 _).congr (fun i hi => by
    have : i = 0 ∨ i = 1 ∨ i = 2 ∨ i = 3 ∨ i = 4 ∨ i = 5 := by omega
    rcases this with rfl | rfl | rfl | rfl | rfl | rfl <;> rfl)
theorem EvAt.setN {w : World} {E : Nat} {k a d n : Int} {vT vV : Value} (h : EvAt w E k a d n vT vV) (x : Int) : EvAt (w.setCell ⟨E, 3, none⟩ (.int .i64 x)) E k a d x vT vV :=
  (h.set 3 _).congr (fun i hi => by
    have : i = 0 ∨ i = 1 ∨ i = 2 ∨ i = 3 ∨ i = 4 ∨ i = 5 := by omega
    rcases this with rfl | rfl | rfl | rfl | rfl | rfl <;> rfl)
theorem EvAt.setV {w : World} {E : Nat} {k a d n : Int} {vT vV : Value} (h : EvAt w E k a d n vT vV) (x : Value) : EvAt (w.setCell ⟨E, 5, none⟩ x) E k a d n vT x :=
  (h.set 5 _).congr (fun i hi => by
    have : i = 0 ∨ i = 1 ∨ i = 2 ∨ i = 3 ∨ i = 4 ∨ i = 5 := by omega
    rcases this with rfl | rfl | rfl | rfl | rfl | rfl <;> rfl)
def wkReady (F : Nat → WrF) (n : Nat) (hd : Nat → Bool) (p : Nat) : Bool := !hd p && (List.range n).all fun l => !decide ((F l).dst = p) || (F l).full
def wkFree (F : Nat → WrF) (n : Nat) (hd : Nat → Bool) (p : Nat) (oa : Int) : Bool := hd p && (List.range n).all fun l => !decide ((F l).src = p) || (!(F l).unt && decide ((F l).known ≤ oa))
structure WkR where
  did : Int
  num : Int
  vals : List Int
  F : Nat → WrF
  nx : Nat → Nat
  hd : Nat → Bool
def wkR (F : Nat → WrF) (n : Nat) (nx : Nat → Nat) (hd : Nat → Bool) (p : Nat) (oa oc : Int) (es : List Dc) (S : Nat → Nat → Int) : WkR :=
  if wkReady F n hd p then ⟨1, (nx p : Int), [], stepW F p, fun q => if q = p then nx p + 1 else nx q, fun q => if q = p then true else hd q⟩
  else if wkFree F n hd p oa then ⟨2, ((nx p - 1 : Nat) : Int), valsP es p (fun i => S i (nx p - 1)) es.length, pubW F p (oa + oc), nx, fun q => if q = p then false else hd q⟩
  else ⟨0, 0, [], F, nx, hd⟩
theorem Scn.weak {w : World} {X Y : Nat → Prop} {b : Nat} {aW : Option Addr} {n cW : Nat} {vE vV : Value} {F : Nat → WrF} {nx : Nat → Nat} {hd : Nat → Bool} (h : Scn w Y b aW n cW vE vV F nx hd) (hi : ∀ k, X k → Y k) : Scn w X b aW n cW vE vV F nx hd :=
  h.more (fun e => h.xb (hi _ e)) (fun g hg e => h.xg g hg (hi _ e)) (fun k hk => h.xl k (hi k hk))
theorem Scn.poke {w : World} {X : Nat → Prop} {b : Nat} {aW : Option Addr} {n cW : Nat} {vE vV : Value} {F : Nat → WrF} {nx : Nat → Nat} {hd : Nat → Bool} (h : Scn w X b aW n cW vE vV F nx hd) {E : Nat} (hE : ¬ scX X b aW E) (j : Nat) (x : Value) : Scn (w.setCell ⟨E, j, none⟩ x) X b aW n cW vE vV F nx hd := h.fr ((Fr.refl _ _).setCell hE x)
theorem six_cells {W : World} (c : Nat) (x0 x1 x2 x3 x4 x5 : Value) : Fr (fun k => k ≠ c) W ((((((W.setCell ⟨c, 0, none⟩ x0).setCell ⟨c, 1, none⟩ x1).setCell ⟨c, 2, none⟩ x2).setCell ⟨c, 3, none⟩ x3).setCell ⟨c, 4, none⟩ x4).setCell ⟨c, 5, none⟩ x5) :=
  ((((((Fr.refl _ W).setCell (fun h => h rfl) x0).setCell (fun h => h rfl) x1).setCell (fun h => h rfl) x2).setCell (fun h => h rfl) x3).setCell (fun h => h rfl) x4).setCell (fun h => h rfl) x5
theorem wake_done {w w3 W W' : World} {X Y : Nat → Prop} {b : Nat} {aW : Option Addr} {n cW : Nat} {vE vV vT : Value} {F : Nat → WrF} {nx : Nat → Nat} {hd : Nat → Bool} {TK : List Nat} (hX : ∀ k, X k → k < w.heap.size) (hXY : ∀ k, X k → Y k) (hTY : ∀ k, vT.ownBlock = some k → Y k) (hF03 : Fr X w w3) (hFW : Fr Y w3 W) (hS : Scn W Y b aW n cW vE vV F nx hd) (hbl : b < w.heap.size) (hgl : ∀ g, aW = some ⟨g, 0, none⟩ → g < w.heap.size)
    (hT3 : w3.ownsRow (w.heap.size + 2) 3 1 vT TK.length (pCells TK)) (h6 : Fr (fun k => k ≠ w.heap.size + 1) W W') : W'.ownsRow w.heap.size 3 1 vT TK.length (pCells TK) ∧ Scn W' X b aW n cW vE vV F nx hd ∧ Fr X w W' := by
  refine ⟨?_, ?_, ?_⟩
  · refine own_low (own_blk hT3 (fun k hk => ?_)) (B' := w.heap.size) (by omega)
    have := ownBlock_ge hT3 k hk
    rw [h6.block k (by omega), hFW.block k (hTY k hk)]
  · refine (hS.weak hXY).fr (h6.mono fun k hk => ?_)
    rcases hk with hk | hk | hk
    · have := hX k hk; omega
    · omega
    · have := hgl k hk; omega
  · exact (hF03.trans (hFW.mono hXY)).trans (h6.mono fun k hk => by have := hX k hk; omega)
set_option maxHeartbeats 8000000 in
set_option maxRecDepth 100000 in
theorem pwake_any {w : World} {X : Nat → Prop} {b : Nat} {aW : Option Addr} {n cW : Nat} {aE aV : Option Addr} {cE cV gv nV : Nat} {es : List Dc} {R : Nat → Nat} {S : Nat → Nat → Int} {F : Nat → WrF} {nx : Nat → Nat} {hd : Nat → Bool} (h : Scn w X b aW n cW (.slice aE es.length cE) (.slice aV es.length cV) F nx hd) (hD : ScD w X es aE cE aV cV gv nV R S) (hX : ∀ k, X k → k < w.heap.size) (p : Nat) (hp : p < 4) (oa ob oc : Int) (hob : -1099511627776 ≤ oa + ob ∧ oa + ob ≤ 4398046511104) (hoc : -1099511627776 ≤ oa + oc ∧ oa + oc ≤ 4398046511104) (hnx : nx p ≤ 1000) (hh : hd p = true → 1 ≤ nx p ∧ (wkFree (takeW F ⟨p, oa, ob, oc⟩) n hd p oa = true → nx p - 1 < nV)) (hnV2 : nV ≤ 200) :
    Calls Try.prog 76 #[.pointer (some ⟨b, 0, none⟩), .agg #[.int .i64 (p : Int), .int .i64 oa, .int .i64 ob, .int .i64 oc]] w fun e w' => ∃ vT vV r, r = wkR (takeW F ⟨p, oa, ob, oc⟩) n nx hd p oa oc es S ∧ e = .returned (.agg #[.int .i64 (p : Int), .int .i64 oa, .int .i64 r.did, .int .i64 r.num, vT, vV]) ∧
      w'.ownsRow w.heap.size 3 1 vT ((List.range n).filter (canW F ⟨p, oa, ob, oc⟩)).length (pCells ((List.range n).filter (canW F ⟨p, oa, ob, oc⟩))) ∧ w'.ownsRow w.heap.size 3 1 vV r.vals.length (iCells r.vals) ∧ (∀ k, vT.ownBlock = some k → vV.ownBlock ≠ some k) ∧
      Scn w' X b aW n cW (.slice aE es.length cE) (.slice aV es.length cV) r.F r.nx r.hd ∧ Fr X w w' := by
  have hbl := h.lt
  have hgl : ∀ g, aW = some ⟨g, 0, none⟩ → g < w.heap.size := fun g e => h.sl g (.inr (.inr e))
  obtain ⟨w1, hw1⟩ : ∃ w1, w1 = (w.alloc (.cells #[.int .i64 (p : Int), .int .i64 oa, .int .i64 ob, .int .i64 oc] 43)).alloc (.cells #[.int .i64 0, .int .i64 0, .int .i64 0, .int .i64 0, .slice none 0 0, .slice none 0 0] 41) := ⟨_, rfl⟩
  have hb1 : Below w.heap.size w w1 := by rw [hw1]; exact ((Below.refl _ _).alloc (Nat.le_refl _) _).alloc (by simp) _
  have hz1 : w1.heap.size = w.heap.size + 2 := by rw [hw1]; simp
  have hA1 : ActAt w1 w.heap.size ⟨p, oa, ob, oc⟩ := by rw [hw1]; exact (ActAt.boxed w ⟨p, oa, ob, oc⟩).alloc _
  have hZ1 : EvAt w1 (w.heap.size + 1) 0 0 0 0 (.slice none 0 0) (.slice none 0 0) := by
    rw [hw1]
    have := EvAt.boxed (w.alloc (.cells #[.int .i64 (p : Int), .int .i64 oa, .int .i64 ob, .int .i64 oc] 43)) 0 0 0 0 (.slice none 0 0) (.slice none 0 0)
    simpa using this
  have hS1 : Scn w1 (fun k => X k ∨ k = w.heap.size ∨ k = w.heap.size + 1) b aW n cW (.slice aE es.length cE) (.slice aV es.length cV) F nx hd := (h.below hb1).more (fun e => by rcases e with e | e | e; exact h.xb e; omega; omega) (fun g hg e => by have := hgl g hg; rcases e with e | e | e; exact h.xg g hg e; omega; omega) (fun k e => by rcases e with e | e | e; have := hX k e; omega; omega; omega)
  have HT := hide (ptake_any hS1 hS1.xl ⟨p, oa, ob, oc⟩ hob)
  have HW1 := hide hw1
  have HX := hide hX
  have HGL := hide hgl
  have HA1 := hide hA1
  have HZ1 := hide hZ1
  have HB1 := hide hb1
  have HD1 := hide (hD.fr (Fr.of_below hb1 hX))
  have HHH := hide hh
  have j5 : (0 : Int) ≤ (p : Int) := by omega
  have j6 : (p : Int) < 4 := by omega
  rw [hw1] at HT
  clear hw1 hS1 h hD hb1 hA1 hZ1 hX hgl hh
  go_enter Try.func76, Try.ntmps76
  go_wp2_with fail
  refine HT.out.mono ?_
  rw [← HW1.out]
  rintro e w2 ⟨vT, rfl, hT, hS2, hF2⟩
  rw [hz1] at hT
  have hsz2 : w.heap.size + 2 ≤ w2.heap.size := by have := hF2.size; omega
  have hTb := ownBlock_ge hT
  have hA2 : ActAt w2 w.heap.size ⟨p, oa, ob, oc⟩ := HA1.out.of_block (hF2.block _ (.inr (.inl rfl)))
  have hZ2 : EvAt w2 (w.heap.size + 1) 0 0 0 0 (.slice none 0 0) (.slice none 0 0) := HZ1.out.of_block (hF2.block _ (.inr (.inr rfl)))
  have hF02 : Fr X w w2 := (Fr.of_below HB1.out HX.out).trans (hF2.mono fun k hk => .inl hk)
  have hTl := hT.lt
  obtain ⟨aT, cT, rfl, hshT⟩ := own_shape hT
  generalize hTK : (List.range n).filter (canW F ⟨p, oa, ob, oc⟩) = TK at *
  generalize hFT : takeW F ⟨p, oa, ob, oc⟩ = F1 at *
  obtain ⟨k0, k1, k2, k3⟩ := hA2.cells
  obtain ⟨w3, hw3⟩ : ∃ w3, w3 = w2.alloc (.cells #[.int .i64 (p : Int), .int .i64 oa, .int .i64 0, .int .i64 0, .slice aT TK.length cT, .slice none 0 0] 41) := ⟨_, rfl⟩
  have hb3 : Below w2.heap.size w2 w3 := by rw [hw3]; exact (Below.refl _ _).alloc (Nat.le_refl _) _
  have hz3 : w3.heap.size = w2.heap.size + 1 := by rw [hw3]; simp
  have hE3 : EvAt w3 w2.heap.size p oa 0 0 (.slice aT TK.length cT) (.slice none 0 0) := by rw [hw3]; exact EvAt.boxed w2 p oa 0 0 _ _
  have hA3 : ActAt w3 w.heap.size ⟨p, oa, ob, oc⟩ := by rw [hw3]; exact hA2.alloc _
  have hZ3 : EvAt w3 (w.heap.size + 1) 0 0 0 0 (.slice none 0 0) (.slice none 0 0) := by rw [hw3]; exact hZ2.alloc _
  obtain ⟨Y, hY⟩ : ∃ Y : Nat → Prop, Y = fun k => X k ∨ k = w.heap.size ∨ k = w.heap.size + 1 ∨ (Value.slice aT TK.length cT).ownBlock = some k := ⟨_, rfl⟩
  have hYE : ∀ k, Y k → k < w2.heap.size := fun k e => by
    rw [hY] at e
    rcases e with e | e | e | e
    · have := HX.out k e; omega
    · omega
    · omega
    · have := (hTl k e).2; omega
  have hXY : ∀ k, X k → Y k := fun k e => by rw [hY]; exact .inl e
  have hAY : Y w.heap.size := by rw [hY]; exact .inr (.inl rfl)
  have hZY : Y (w.heap.size + 1) := by rw [hY]; exact .inr (.inr (.inl rfl))
  have hTY : ∀ k, (Value.slice aT TK.length cT).ownBlock = some k → Y k := fun k e => by rw [hY]; exact .inr (.inr (.inr e))
  have hS3 : Scn w3 Y b aW n cW (.slice aE es.length cE) (.slice aV es.length cV) F1 nx hd := (hS2.below hb3).more (fun e => by
      rw [hY] at e
      rcases e with e | e | e | e
      · exact hS2.xb (.inl e)
      · omega
      · omega
      · have := hTb b e; omega) (fun g hg e => by
      have := HGL.out g hg
      rw [hY] at e
      rcases e with e | e | e | e
      · exact hS2.xg g hg (.inl e)
      · omega
      · omega
      · have := hTb g e; omega) (fun k e => by have := hYE k e; omega)
  have hEn : ¬ scX Y b aW w2.heap.size := fun e => by
    rcases e with e | e | e
    · have := hYE _ e; omega
    · omega
    · have := HGL.out _ e; omega
  have htoY : ∀ (W : World) (F' : Nat → WrF) (nx' : Nat → Nat) (hd' : Nat → Bool), Scn W Y b aW n cW (.slice aE es.length cE) (.slice aV es.length cV) F' nx' hd' → w3.heap.size ≤ W.heap.size → Scn W (fun k => Y k ∨ k = w2.heap.size) b aW n cW (.slice aE es.length cE) (.slice aV es.length cV) F' nx' hd' := fun W F' nx' hd' h hs => h.more (fun e => by
      rcases e with e | e
      · exact h.xb e
      · omega) (fun g hg e => by
      have := HGL.out g hg
      rcases e with e | e
      · exact h.xg g hg e
      · omega) (fun k e => by
      rcases e with e | e
      · exact h.xl k e
      · omega)
  have hD3 : ScD w3 X es aE cE aV cV gv nV R S := HD1.out.fr ((hF2.mono fun k hk => .inl hk).trans (Fr.of_below hb3 (fun k hk => by have := HX.out k hk; omega)))
  have hF03 : Fr X w w3 := hF02.trans (Fr.of_below hb3 (fun k hk => by have := HX.out k hk; omega))
  have hT3 : w3.ownsRow (w.heap.size + 2) 3 1 (.slice aT TK.length cT) TK.length (pCells TK) := own_blk hT (fun k hk => hb3.block k (hTl k hk).2)
  have c4 : ∀ u, (w2.alloc u).cell? ⟨b, 3 + p * 2 + 1, none⟩ = some (.bool (hd p)) := fun u => (hS2.below ((Below.refl _ _).alloc (Nat.le_refl _) u)).ch hp
  have k0' : ∀ u, (w2.alloc u).cell? ⟨w.heap.size, 0, none⟩ = some (.int .i64 (p : Int)) := fun u => (ActAt.cells (hA2.alloc u)).1
  have k1' : ∀ u, (w2.alloc u).cell? ⟨w.heap.size, 1, none⟩ = some (.int .i64 oa) := fun u => (ActAt.cells (hA2.alloc u)).2.1
  have k2' : ∀ u, (w2.alloc u).cell? ⟨w.heap.size, 2, none⟩ = some (.int .i64 ob) := fun u => (ActAt.cells (hA2.alloc u)).2.2.1
  have k3' : ∀ u, (w2.alloc u).cell? ⟨w.heap.size, 3, none⟩ = some (.int .i64 oc) := fun u => (ActAt.cells (hA2.alloc u)).2.2.2
  have HWK : Hid (wkR F1 n nx hd p oa oc es S = if wkReady F1 n hd p then ⟨1, (nx p : Int), [], stepW F1 p, fun q => if q = p then nx p + 1 else nx q, fun q => if q = p then true else hd q⟩ else if wkFree F1 n hd p oa then ⟨2, ((nx p - 1 : Nat) : Int), valsP es p (fun i => S i (nx p - 1)) es.length, pubW F1 p (oa + oc), nx, fun q => if q = p then false else hd q⟩ else ⟨0, 0, [], F1, nx, hd⟩) := hide rfl
  have HRD : Hid (wkReady F1 n hd p = (!hd p && (List.range n).all fun l => !decide ((F1 l).dst = p) || (F1 l).full)) := hide rfl
  have HFR : Hid (wkFree F1 n hd p oa = (hd p && (List.range n).all fun l => !decide ((F1 l).src = p) || (!(F1 l).unt && decide ((F1 l).known ≤ oa)))) := hide rfl
  have HW3 := hide hw3
  have HE3 := hide hE3
  have HA3 := hide hA3
  have HZ3 := hide hZ3
  have HYE := hide hYE
  have HXY := hide hXY
  have HAY := hide hAY
  have HZY := hide hZY
  have HTY := hide hTY
  have HEN := hide hEn
  have HTOY := hide htoY
  have HS3 := hide hS3
  have HD3 := hide hD3
  have HF03 := hide hF03
  have HT3 := hide hT3
  have HTB := hide hTb
  have HTK := hide hTK
  have HFT := hide hFT
  clear hT hS2 hF2 hTb hA2 hZ2 hF02 hTl hshT hw3 hb3 hE3 hA3 hZ3 hYE hXY hAY hZY hTY hEn htoY hY hS3 hD3 hF03 hT3 hTK hFT
  obtain ⟨hdp, hhd⟩ : ∃ hdp, hd p = hdp := ⟨_, rfl⟩
  rw [hhd] at c4 HRD HFR
  cases hdp with
  | false =>
    clear hhd
    go_wp2_with fail
    go_quiet (fail)
    go_wp2_with fail
    rw [← HW3.out]
    have hbq : Below w3.heap.size w3 (w3.drewN nq) := below_drewN (Below.refl _ _) _
    refine (pfull_any (HS3.out.below hbq) ⟨p, oa, ob, oc⟩).mono ?_
    rintro e w4 ⟨rfl, hb4'⟩
    have hb4 : Below w3.heap.size w3 w4 := hbq.trans (hb4'.mono hbq.size)
    have hS4 := HS3.out.below hb4
    have hA4 : ActAt w4 w.heap.size ⟨p, oa, ob, oc⟩ := HA3.out.of_block (hb4.block _ HA3.out.lt)
    have hE4 : EvAt w4 w2.heap.size p oa 0 0 (.slice aT TK.length cT) (.slice none 0 0) := HE3.out.of_block (hb4.block _ HE3.out.lt)
    have hZ4 : EvAt w4 (w.heap.size + 1) 0 0 0 0 (.slice none 0 0) (.slice none 0 0) := HZ3.out.of_block (hb4.block _ HZ3.out.lt)
    have hF4 : Fr Y w3 w4 := Fr.of_below hb4 (fun k hk => by have := HYE.out k hk; omega)
    have hs4 := hb4.size
    obtain ⟨qf, hqf⟩ : ∃ qf, ((List.range n).all fun l => !decide ((F1 l).dst = (p : Int)) || (F1 l).full) = qf := ⟨_, rfl⟩
    rw [show ((List.range n).all fun l => !decide ((F1 l).dst = (⟨p, oa, ob, oc⟩ : OpF).k) || (F1 l).full) = qf from hqf]
    rw [hqf] at HRD
    have HF4 := hide hF4
    have HS4 := hide hS4
    have HE4 := hide hE4
    have HZ4 := hide hZ4
    have HA4 := hide hA4
    clear hqf hb4' hbq hb4 hS4 hA4 hE4 hZ4 hF4 k0 k1 k2 k3 k0' k1' k2' k3' c4
    cases qf with
    | false =>
      have HRES : Hid (wkR F1 n nx hd p oa oc es S = ⟨0, 0, [], F1, nx, hd⟩) := hide (by rw [HWK.out, HRD.out, HFR.out]; rfl)
      obtain ⟨e0, e1, e2, e3, e4, e5⟩ := HE4.out.cells
      obtain ⟨z0, z1, z2, z3, z4, z5⟩ := HZ4.out.cells
      have f0 := HZ4.out.frozen 0
      have f1 := HZ4.out.frozen 1
      have f2 := HZ4.out.frozen 2
      have f3 := HZ4.out.frozen 3
      have f4 := HZ4.out.frozen 4
      have f5 := HZ4.out.frozen 5
      go_wp2
      (try simp only [Exit.inBlock, Exit.then])
      refine bodyPost_ret (v := .agg #[.int .i64 (p : Int), .int .i64 oa, .int .i64 0, .int .i64 0, .slice aT TK.length cT, .slice none 0 0]) (by simp [results, Try.results76, go_sem, z0, z1, z2, z3, z4, z5]) rfl ?_
      obtain ⟨r1, r2, r3⟩ := wake_done HX.out HXY.out HTY.out HF03.out HF4.out HS4.out hbl HGL.out HT3.out (six_cells (w.heap.size + 1) _ _ _ _ _ _)
      exact ⟨_, _, ⟨0, 0, [], F1, nx, hd⟩, by rw [HFT.out, HRES.out], rfl, by rw [HTK.out]; exact r1, World.ownsRow_nil _ _ _ _, fun k _ => by simp [Value.ownBlock], r2, r3⟩
    | true =>
      have HRES : Hid (wkR F1 n nx hd p oa oc es S = ⟨1, (nx p : Int), [], stepW F1 p, fun q => if q = p then nx p + 1 else nx q, fun q => if q = p then true else hd q⟩) := hide (by rw [HWK.out, HRD.out]; rfl)
      have hEY : ¬ Y w2.heap.size := fun e => HEN.out (.inl e)
      have hS5 := HS4.out.poke HEN.out 2 (.int .i64 1)
      have hE5 := HE4.out.setD 1
      have hA5 : ActAt (w4.setCell ⟨w2.heap.size, 2, none⟩ (.int .i64 1)) w.heap.size ⟨p, oa, ob, oc⟩ := World.rowIs.setOther HA4.out (a := ⟨w2.heap.size, 2, none⟩) (by show w.heap.size ≠ w2.heap.size; omega) _
      have hZ5 : EvAt (w4.setCell ⟨w2.heap.size, 2, none⟩ (.int .i64 1)) (w.heap.size + 1) 0 0 0 0 (.slice none 0 0) (.slice none 0 0) := World.rowIs.setOther HZ4.out (a := ⟨w2.heap.size, 2, none⟩) (by show w.heap.size + 1 ≠ w2.heap.size; omega) _
      obtain ⟨a0, a1, a2, a3⟩ := hA5.cells
      simp only [] at a0 a1 a2 a3
      have d2 := HE4.out.cells.2.2.1
      have fd := HE4.out.frozen 2
      have hS5y := HTOY.out _ _ _ _ hS5 (by simp; omega)
      have HST := hide (pstep_any hS5y hS5y.xl p hp oa ob oc hnx)
      have HE5 := hide hE5
      have HZ5 := hide hZ5
      have HEY := hide hEY
      clear hS5 hE5 hA5 hZ5 hS5y hEY
      go_wp2_with fail
      refine HST.out.mono ?_
      rintro e w6 ⟨rfl, hS6, hF6⟩
      have hE6 := HE5.out.of_block (hF6.block _ (.inr rfl))
      have hZ6 := HZ5.out.of_block (hF6.block _ (.inl HZY.out))
      have d3 := (EvAt.cells hE6).2.2.2.1
      have fd3 := World.rowIs.frozen hE6 3
      have hE7 := EvAt.setN hE6 (nx p : Int)
      have hZ7 : EvAt (w6.setCell ⟨w2.heap.size, 3, none⟩ (.int .i64 (nx p : Int))) (w.heap.size + 1) 0 0 0 0 (.slice none 0 0) (.slice none 0 0) := World.rowIs.setOther hZ6 (a := ⟨w2.heap.size, 3, none⟩) (by show w.heap.size + 1 ≠ w2.heap.size; omega) _
      have HS7 := hide ((hS6.weak (X := Y) (fun k hk => .inl hk)).poke HEN.out 3 (.int .i64 (nx p : Int)))
      have HF7 : Hid (Fr Y w3 (w6.setCell ⟨w2.heap.size, 3, none⟩ (.int .i64 (nx p : Int)))) := hide (((HF4.out.setCell HEY.out _).trans (hF6.mono fun k hk => .inl hk)).setCell HEY.out _)
      obtain ⟨e0, e1, e2, e3, e4, e5⟩ := EvAt.cells hE7
      obtain ⟨z0, z1, z2, z3, z4, z5⟩ := EvAt.cells hZ7
      have f0 := World.rowIs.frozen hZ7 0
      have f1 := World.rowIs.frozen hZ7 1
      have f2 := World.rowIs.frozen hZ7 2
      have f3 := World.rowIs.frozen hZ7 3
      have f4 := World.rowIs.frozen hZ7 4
      have f5 := World.rowIs.frozen hZ7 5
      clear hE6 hZ6 hE7 hZ7 hS6 hF6 a0 a1 a2 a3 d2 fd
      go_wp2
      (try simp only [Exit.inBlock, Exit.then])
      refine bodyPost_ret (v := .agg #[.int .i64 (p : Int), .int .i64 oa, .int .i64 1, .int .i64 (nx p : Int), .slice aT TK.length cT, .slice none 0 0]) (by simp [results, Try.results76, go_sem, z0, z1, z2, z3, z4, z5]) rfl ?_
      obtain ⟨r1, r2, r3⟩ := wake_done HX.out HXY.out HTY.out HF03.out HF7.out HS7.out hbl HGL.out HT3.out (six_cells (w.heap.size + 1) _ _ _ _ _ _)
      exact ⟨_, _, _, by rw [HFT.out, HRES.out], rfl, by rw [HTK.out]; exact r1, World.ownsRow_nil _ _ _ _, fun k _ => by simp [Value.ownBlock], r2, r3⟩
  | true =>
    obtain ⟨hn1, hn2⟩ := HHH.out hhd
    have HHN := hide hn2
    clear hhd hn2
    obtain ⟨num, hnum⟩ : ∃ num, nx p = num + 1 := ⟨nx p - 1, by omega⟩
    have hw9 : IntKind.i64.wrap (((nx p : Nat) : Int) - 1) = (num : Int) := by rw [IntKind.wrap_i64]; omega
    have HNUM := hide hnum
    clear hnum
    go_wp2_with fail
    go_quiet (fail)
    go_wp2_with fail
    rw [← HW3.out]
    have hbq : Below w3.heap.size w3 (w3.drewN nq) := below_drewN (Below.refl _ _) _
    refine (pfree_any (HS3.out.below hbq) ⟨p, oa, ob, oc⟩).mono ?_
    rintro e w4 ⟨rfl, hb4'⟩
    have hb4 : Below w3.heap.size w3 w4 := hbq.trans (hb4'.mono hbq.size)
    have hS4 := HS3.out.below hb4
    have hA4 : ActAt w4 w.heap.size ⟨p, oa, ob, oc⟩ := HA3.out.of_block (hb4.block _ HA3.out.lt)
    have hE4 : EvAt w4 w2.heap.size p oa 0 0 (.slice aT TK.length cT) (.slice none 0 0) := HE3.out.of_block (hb4.block _ HE3.out.lt)
    have hZ4 : EvAt w4 (w.heap.size + 1) 0 0 0 0 (.slice none 0 0) (.slice none 0 0) := HZ3.out.of_block (hb4.block _ HZ3.out.lt)
    have hF4 : Fr Y w3 w4 := Fr.of_below hb4 (fun k hk => by have := HYE.out k hk; omega)
    have hs4 := hb4.size
    obtain ⟨qf, hqf⟩ : ∃ qf, ((List.range n).all fun l => !decide ((F1 l).src = (p : Int)) || (!(F1 l).unt && decide ((F1 l).known ≤ oa))) = qf := ⟨_, rfl⟩
    rw [show ((List.range n).all fun l => !decide ((F1 l).src = (⟨p, oa, ob, oc⟩ : OpF).k) || (!(F1 l).unt && decide ((F1 l).known ≤ (⟨p, oa, ob, oc⟩ : OpF).a))) = qf from hqf]
    rw [hqf] at HFR
    have HF4 := hide hF4
    have HS4 := hide hS4
    have HE4 := hide hE4
    have HZ4 := hide hZ4
    have HA4 := hide hA4
    clear hqf hb4' hbq hb4 hS4 hA4 hE4 hZ4 hF4 k0 k1 k2 k3 k0' k1' k2' k3' c4
    cases qf with
    | false =>
      have HRES : Hid (wkR F1 n nx hd p oa oc es S = ⟨0, 0, [], F1, nx, hd⟩) := hide (by rw [HWK.out, HRD.out, HFR.out]; rfl)
      obtain ⟨e0, e1, e2, e3, e4, e5⟩ := HE4.out.cells
      obtain ⟨z0, z1, z2, z3, z4, z5⟩ := HZ4.out.cells
      have f0 := HZ4.out.frozen 0
      have f1 := HZ4.out.frozen 1
      have f2 := HZ4.out.frozen 2
      have f3 := HZ4.out.frozen 3
      have f4 := HZ4.out.frozen 4
      have f5 := HZ4.out.frozen 5
      go_wp2
      (try simp only [Exit.inBlock, Exit.then])
      refine bodyPost_ret (v := .agg #[.int .i64 (p : Int), .int .i64 oa, .int .i64 0, .int .i64 0, .slice aT TK.length cT, .slice none 0 0]) (by simp [results, Try.results76, go_sem, z0, z1, z2, z3, z4, z5]) rfl ?_
      obtain ⟨r1, r2, r3⟩ := wake_done HX.out HXY.out HTY.out HF03.out HF4.out HS4.out hbl HGL.out HT3.out (six_cells (w.heap.size + 1) _ _ _ _ _ _)
      exact ⟨_, _, ⟨0, 0, [], F1, nx, hd⟩, by rw [HFT.out, HRES.out], rfl, by rw [HTK.out]; exact r1, World.ownsRow_nil _ _ _ _, fun k _ => by simp [Value.ownBlock], r2, r3⟩
    | true =>
      have hnV : num < nV := by have := HHN.out (by rw [HFR.out]; rfl); have := HNUM.out; omega
      have HRES : Hid (wkR F1 n nx hd p oa oc es S = ⟨2, (num : Int), valsP es p (fun i => S i num) es.length, pubW F1 p (oa + oc), nx, fun q => if q = p then false else hd q⟩) := hide (by rw [HWK.out, HRD.out, HFR.out, HNUM.out]; rfl)
      have hEY : ¬ Y w2.heap.size := fun e => HEN.out (.inl e)
      have hS5 := HS4.out.poke HEN.out 2 (.int .i64 2)
      have hS6 := hS5.poke HEN.out 3 (.int .i64 (num : Int))
      have hE5 := HE4.out.setD 2
      have hE6 := EvAt.setN hE5 (num : Int)
      have hA5 : ActAt (w4.setCell ⟨w2.heap.size, 2, none⟩ (.int .i64 2)) w.heap.size ⟨p, oa, ob, oc⟩ := World.rowIs.setOther HA4.out (a := ⟨w2.heap.size, 2, none⟩) (by show w.heap.size ≠ w2.heap.size; omega) _
      have hA6 : ActAt ((w4.setCell ⟨w2.heap.size, 2, none⟩ (.int .i64 2)).setCell ⟨w2.heap.size, 3, none⟩ (.int .i64 (num : Int))) w.heap.size ⟨p, oa, ob, oc⟩ := World.rowIs.setOther hA5 (a := ⟨w2.heap.size, 3, none⟩) (by show w.heap.size ≠ w2.heap.size; omega) _
      have hZ6 : EvAt ((w4.setCell ⟨w2.heap.size, 2, none⟩ (.int .i64 2)).setCell ⟨w2.heap.size, 3, none⟩ (.int .i64 (num : Int))) (w.heap.size + 1) 0 0 0 0 (.slice none 0 0) (.slice none 0 0) := World.rowIs.setOther (World.rowIs.setOther HZ4.out (a := ⟨w2.heap.size, 2, none⟩) (by show w.heap.size + 1 ≠ w2.heap.size; omega) _) (a := ⟨w2.heap.size, 3, none⟩) (by show w.heap.size + 1 ≠ w2.heap.size; omega) _
      have hF6 : Fr Y w3 ((w4.setCell ⟨w2.heap.size, 2, none⟩ (.int .i64 2)).setCell ⟨w2.heap.size, 3, none⟩ (.int .i64 (num : Int))) := (HF4.out.setCell hEY _).setCell hEY _
      obtain ⟨W6, hW6⟩ : ∃ W6, W6 = ((w4.setCell ⟨w2.heap.size, 2, none⟩ (.int .i64 2)).setCell ⟨w2.heap.size, 3, none⟩ (.int .i64 (num : Int))).drew := ⟨_, rfl⟩
      have hbd : Below ((w4.setCell ⟨w2.heap.size, 2, none⟩ (.int .i64 2)).setCell ⟨w2.heap.size, 3, none⟩ (.int .i64 (num : Int))).heap.size ((w4.setCell ⟨w2.heap.size, 2, none⟩ (.int .i64 2)).setCell ⟨w2.heap.size, 3, none⟩ (.int .i64 (num : Int))) W6 := by rw [hW6]; exact (Below.refl _ _).drew
      have hs6 : W6.heap.size = w4.heap.size := by rw [hW6]; simp
      obtain ⟨a0, a1, a2, a3⟩ := hA5.cells
      simp only [] at a0 a1 a2 a3
      obtain ⟨g0, g1, g2, g3⟩ := hA6.cells
      simp only [] at g0 g1 g2 g3
      have d2 := HE4.out.cells.2.2.1
      have fd := HE4.out.frozen 2
      have d3 := (EvAt.cells hE5).2.2.2.1
      have fd3 := World.rowIs.frozen hE5 3
      have cn5 := hS5.cn hp
      have hS6y := HTOY.out _ _ _ _ (hS6.below hbd) (by omega)
      have hD6 := HD3.out.fr ((hF6.mono HXY.out).trans (Fr.of_below hbd (fun k hk => by have := HX.out k hk; simp; omega)))
      have hD6y : ScD W6 (fun k => Y k ∨ k = w2.heap.size) es aE cE aV cV gv nV R S := ⟨hD6.eqs, hD6.mat, hD6.av, hD6.ae, fun k hk => .inl (HXY.out k (hD6.xe k hk)), fun hp => .inl (HXY.out _ (hD6.xv hp)), fun i hi => .inl (HXY.out _ (hD6.xr i hi)), hD6.few⟩
      have HPB := hide (ppub_any hS6y hD6y hS6y.xl p hp oa ob oc hoc num HNUM.out hnV hnV2)
      have HE6 : Hid (EvAt W6 w2.heap.size p oa 2 num (.slice aT TK.length cT) (.slice none 0 0)) := hide (World.rowIs.of_block hE6 (hbd.block _ (World.rowIs.lt hE6)))
      have HZ6 : Hid (EvAt W6 (w.heap.size + 1) 0 0 0 0 (.slice none 0 0) (.slice none 0 0)) := hide (World.rowIs.of_block hZ6 (hbd.block _ (World.rowIs.lt hZ6)))
      have HF6 : Hid (Fr Y w3 W6) := hide (hF6.trans (Fr.of_below hbd (fun k hk => by have := HYE.out k hk; simp; omega)))
      have HEY := hide hEY
      rw [hW6] at HPB
      have HW6 := hide hW6
      clear hS5 hS6 hE5 hE6 hA5 hA6 hZ6 hF6 hS6y hD6 hD6y hEY hW6 hbd
      go_wp2_with fail
      go_big_region
      go_wp2_with fail
      refine HPB.out.mono ?_
      rw [← HW6.out]
      rintro e w7 ⟨v, rfl, hV, hS7, hF7⟩
      have hVb := ownBlock_ge hV
      obtain ⟨aN, cN, rfl, hshN⟩ := own_shape hV
      have hE7 := World.rowIs.of_block HE6.out (hF7.block _ (.inr rfl))
      have hZ7 := World.rowIs.of_block HZ6.out (hF7.block _ (.inl HZY.out))
      have d5 := (EvAt.cells hE7).2.2.2.2.2
      have fd5 := World.rowIs.frozen hE7 5
      have HTL : Hid (∀ k, (Value.slice aT TK.length cT).ownBlock = some k → k < w2.heap.size) := hide (fun k hk => HYE.out k (HTY.out k hk))
      generalize valsP es p (fun i => S i num) es.length = VL at *
      have hE8 := EvAt.setV hE7 (.slice aN VL.length cN)
      have hZ8 : EvAt (w7.setCell ⟨w2.heap.size, 5, none⟩ (.slice aN VL.length cN)) (w.heap.size + 1) 0 0 0 0 (.slice none 0 0) (.slice none 0 0) := World.rowIs.setOther hZ7 (a := ⟨w2.heap.size, 5, none⟩) (by show w.heap.size + 1 ≠ w2.heap.size; omega) _
      have HS8 := hide ((hS7.weak (X := Y) (fun k hk => .inl hk)).poke HEN.out 5 (.slice aN VL.length cN))
      have HF8 : Hid (Fr Y w3 (w7.setCell ⟨w2.heap.size, 5, none⟩ (.slice aN VL.length cN))) := hide ((HF6.out.trans (hF7.mono fun k hk => .inl hk)).setCell HEY.out _)
      have HV := hide hV
      have HVB := hide hVb
      obtain ⟨e0, e1, e2, e3, e4, e5⟩ := EvAt.cells hE8
      obtain ⟨z0, z1, z2, z3, z4, z5⟩ := EvAt.cells hZ8
      have f0 := World.rowIs.frozen hZ8 0
      have f1 := World.rowIs.frozen hZ8 1
      have f2 := World.rowIs.frozen hZ8 2
      have f3 := World.rowIs.frozen hZ8 3
      have f4 := World.rowIs.frozen hZ8 4
      have f5 := World.rowIs.frozen hZ8 5
      clear hE7 hZ7 hE8 hZ8 hS7 hF7 a0 a1 a2 a3 d2 fd d3 fd3 cn5 g0 g1 g2 g3 hV hVb hshN
      go_wp2
      (try simp only [Exit.inBlock, Exit.then])
      refine bodyPost_ret (v := .agg #[.int .i64 (p : Int), .int .i64 oa, .int .i64 2, .int .i64 (num : Int), .slice aT TK.length cT, .slice aN VL.length cN]) (by simp [results, Try.results76, go_sem, z0, z1, z2, z3, z4, z5]) rfl ?_
      have h6 := six_cells (W := w7.setCell ⟨w2.heap.size, 5, none⟩ (.slice aN VL.length cN)) (w.heap.size + 1) (.int .i64 (p : Int)) (.int .i64 oa) (.int .i64 2) (.int .i64 (num : Int)) (.slice aT TK.length cT) (.slice aN VL.length cN)
      obtain ⟨r1, r2, r3⟩ := wake_done HX.out HXY.out HTY.out HF03.out HF8.out HS8.out hbl HGL.out HT3.out h6
      refine ⟨_, _, _, by rw [HFT.out, HRES.out], rfl, by rw [HTK.out]; exact r1, ?_, ?_, r2, r3⟩
      · refine own_low (own_blk HV.out (fun k hk => ?_)) (by omega)
        have := HVB.out k hk
        rw [h6.block k (by omega)]
        exact heap_setCell_other w7 ⟨w2.heap.size, 5, none⟩ k _ (by show k ≠ w2.heap.size; omega)
      · intro k hk hk2
        have := HTL.out k hk
        have := HVB.out k hk2
        omega
end Go.Proofs.Ytmndgoapkmhglab
