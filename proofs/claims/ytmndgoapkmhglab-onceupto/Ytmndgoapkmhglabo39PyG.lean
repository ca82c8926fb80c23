import Derived.Test.Ytmndgoapkmhglabo07PlyP
import Derived.Test.Ytmndgoapkmhglabo24PyB
import Derived.Test.Ytmndgoapkmhglabo33PyF
import Derived.Test.Ytmndgoapkmhglabo35OpenT
namespace Go.Proofs.Ytmndgoapkmhglab
open Go.RowKit
def wireP (N : List LnF) (P : PastF) (l : Nat) : WrF := ⟨(lnAt N l).src, (lnAt N l).dst, fullN N P l, untN N P l, comesN N P l, knownN P l⟩
def wireT (N : List LnF) (P : PastF) (a : OpF) (l : Nat) : WrF := ⟨(lnAt N l).src, (lnAt N l).dst, fullT N P a l, untT N P a l, comesN N P l, knownT N P a l⟩
section
variable {N : List LnF} {P : PastF} {a : OpF} (hO : PastOk N P a.a) (hI : RunInv N P)
include hO hI
theorem canW_is {l : Nat} (hl : l < N.length) : canW (wireP N P) a l = canF N P a l := (can_same hO hI hl).symm
theorem filter_is : (List.range N.length).filter (canW (wireP N P) a) = tookF N P a := by
  unfold tookF
  exact List.filter_congr fun l hl => canW_is hO hI (List.mem_range.1 hl)
theorem takeW_is {l : Nat} (hl : l < N.length) : takeW (wireP N P) a l = wireT N P a l := by
  unfold takeW
  rw [canW_is hO hI hl]
  cases hc : canF N P a l with
  | true => simp [wireT, wireP, fullT, untT, knownT, hc]
  | false => simp [wireT, wireP, fullT, untT, knownT, hc]
omit hO hI in
theorem all_congr' {n : Nat} {p q : Nat → Bool} (h : ∀ l, l < n → p l = q l) : (List.range n).all p = (List.range n).all q := by
  rw [Bool.eq_iff_iff, List.all_eq_true, List.all_eq_true]
  exact ⟨fun k l hl => by rw [← h l (List.mem_range.1 hl)]; exact k l hl, fun k l hl => by rw [h l (List.mem_range.1 hl)]; exact k l hl⟩
theorem wkReady_is {p : Nat} (hp : a.k = (p : Int)) : wkReady (takeW (wireP N P) a) N.length (fun q => holdsN P (q : Int)) p = readyF N P a := by
  rw [ready_same hO hI, hp]
  unfold wkReady
  congr 1
  refine all_congr' fun l hl => ?_
  rw [takeW_is hO hI hl]
  rfl
theorem wkFree_is (hA : Apart N) (h0 : 0 ≤ a.a) {p : Nat} (hp : a.k = (p : Int)) : wkFree (takeW (wireP N P) a) N.length (fun q => holdsN P (q : Int)) p a.a = freeF N P a := by
  rw [free_same hO hI hA h0, hp]
  unfold wkFree
  congr 1
  refine all_congr' fun l hl => ?_
  rw [takeW_is hO hI hl]
  rfl
theorem wk_is (hA : Apart N) (h0 : 0 ≤ a.a) {p : Nat} (hp : a.k = (p : Int)) {es : List Dc} {S : Nat → Nat → Int} {V : Int → Nat → List Int} (hV : ∀ m, V (p : Int) m = valsP es p (fun i => S i m) es.length) (r : WkR)
    (hr : r = wkR (takeW (wireP N P) a) N.length (fun q => cntF P (q : Int) 1) (fun q => holdsN P (q : Int)) p a.a a.c es S) :
    r.did = (wakeF N V P a).did ∧ r.num = (wakeF N V P a).n ∧ r.vals = (wakeF N V P a).vals ∧ (∀ l, l < N.length → r.F l = wireP N (P ++ [(a, wakeF N V P a)]) l) ∧ (∀ q : Nat, r.nx q = cntF (P ++ [(a, wakeF N V P a)]) (q : Int) 1) ∧ (∀ q : Nat, r.hd q = holdsN (P ++ [(a, wakeF N V P a)]) (q : Int)) := by
  have hqe : ∀ q : Nat, (a.k = (q : Int)) ↔ q = p := fun q => by rw [hp]; omega
  unfold wkR at hr
  rw [wkReady_is hO hI hp, wkFree_is hO hI hA h0 hp] at hr
  rcases did_cases N V P a with ⟨h1, hd⟩ | ⟨h1, h2, hd⟩ | ⟨h1, h2, hd⟩
  · rw [h1, if_pos rfl] at hr
    subst hr
    refine ⟨hd.symm, ?_, ?_, fun l hl => ?_, fun q => ?_, fun q => ?_⟩
    · unfold wakeF; simp only [h1, if_true]; rw [did_all hO, hp]
    · unfold wakeF; simp only [h1, if_true]
    · show stepW (takeW (wireP N P) a) p l = _
      have e0 : stepW (takeW (wireP N P) a) p l = if (lnAt N l).dst = (p : Int) then { wireT N P a l with full := false } else wireT N P a l := by unfold stepW; rw [takeW_is hO hI hl]; rfl
      unfold wireP at e0 ⊢
      rw [e0, full_next hO hI V hl, unt_next hO hI V hA hl, comes_next V l, known_next V hl, hd, hp]
      by_cases e : (lnAt N l).dst = (p : Int)
      · rw [if_pos e]; simp [wireT, e]
      · rw [if_neg e]; simp [wireT, e]
    · show (if q = p then cntF P (p : Int) 1 + 1 else cntF P (q : Int) 1) = _
      rw [cnt_next, hd]
      by_cases e : q = p
      · subst e; simp [hp]
      · have : ¬ (a.k = (q : Int)) := fun h => e ((hqe q).1 h)
        simp [e, this]
    · show (if q = p then true else holdsN P (q : Int)) = _
      rw [holds_next hI V, hd]
      by_cases e : q = p
      · subst e; simp [hp]
      · have : ¬ ((q : Int) = a.k) := fun h => e ((hqe q).1 h.symm)
        simp [e, this]
  · rw [h1, h2] at hr
    simp only [Bool.false_eq_true, if_false, if_true] at hr
    subst hr
    have hc := ((free_iff hO hI).1 h2).1
    rw [hp] at hc
    have hn : cntF P (p : Int) 1 - 1 = cntF P (p : Int) 2 := by omega
    refine ⟨hd.symm, ?_, ?_, fun l hl => ?_, fun q => ?_, fun q => ?_⟩
    · unfold wakeF; simp only [h1, h2, Bool.false_eq_true, if_false, if_true]; rw [did_all hO, hp, hn]
    · unfold wakeF; simp only [h1, h2, Bool.false_eq_true, if_false, if_true]; rw [did_all hO, hp, hV, hn]
    · show pubW (takeW (wireP N P) a) p (a.a + a.c) l = _
      have e0 : pubW (takeW (wireP N P) a) p (a.a + a.c) l = if (lnAt N l).src = (p : Int) then { wireT N P a l with unt := true, comes := a.a + a.c } else wireT N P a l := by unfold pubW; rw [takeW_is hO hI hl]; rfl
      unfold wireP at e0 ⊢
      rw [e0, full_next hO hI V hl, unt_next hO hI V hA hl, comes_next V l, known_next V hl, hd, hp]
      by_cases e : (lnAt N l).src = (p : Int)
      · rw [if_pos e]; simp [wireT, e]
      · rw [if_neg e]; simp [wireT, e]
    · show cntF P (q : Int) 1 = _
      rw [cnt_next, hd]
      simp
    · show (if q = p then false else holdsN P (q : Int)) = _
      rw [holds_next hI V, hd]
      by_cases e : q = p
      · subst e; simp [hp]
      · have : ¬ ((q : Int) = a.k) := fun h => e ((hqe q).1 h.symm)
        simp [e, this]
  · rw [h1, h2] at hr
    simp only [Bool.false_eq_true, if_false] at hr
    subst hr
    refine ⟨hd.symm, ?_, ?_, fun l hl => ?_, fun q => ?_, fun q => ?_⟩
    · unfold wakeF; simp only [h1, h2, Bool.false_eq_true, if_false]
    · unfold wakeF; simp only [h1, h2, Bool.false_eq_true, if_false]
    · show takeW (wireP N P) a l = _
      rw [takeW_is hO hI hl]
      unfold wireP wireT
      rw [full_next hO hI V hl, unt_next hO hI V hA hl, comes_next V l, known_next V hl, hd]
      simp
    · show cntF P (q : Int) 1 = _
      rw [cnt_next, hd]
      simp
    · show holdsN P (q : Int) = _
      rw [holds_next hI V, hd]
      simp
end
def netD (es : List Dc) (ls : List Rt) : List LnF := ls.map fun r => ⟨(((es.map Dc.place).getD r.src 0 : Nat) : Int), ((r.dst : Nat) : Int), r.late⟩
theorem netD_len (es : List Dc) (ls : List Rt) : (netD es ls).length = ls.length := by simp [netD]
theorem netD_at (es : List Dc) (ls : List Rt) {l : Nat} (hl : l < ls.length) : lnAt (netD es ls) l = ⟨(((es.map Dc.place).getD ls[l].src 0 : Nat) : Int), ((ls[l].dst : Nat) : Int), ls[l].late⟩ := by
  unfold lnAt netD
  rw [List.getD_eq_getElem?_getD, List.getElem?_map, List.getElem?_eq_getElem hl]
  rfl
theorem wire_start (es : List Dc) (ls : List Rt) {l : Nat} (hl : l < ls.length) : wireP (netD es ls) [] l = ⟨(((es.map Dc.place).getD ls[l].src 0 : Nat) : Int), ((ls[l].dst : Nat) : Int), ls[l].late, false, 0, 0⟩ := by
  unfold wireP
  rw [full_start, netD_at es ls hl]
  simp [untN, comesN, knownN, tkF, cntF, comesF, knownF]
theorem six_set {w : World} {g : Nat} {t : TypeId} {m : Nat} {f : Nat → Value} (h : w.rowIs g t m f) (i : Nat) (x0 x1 x2 x3 x4 x5 : Value) :
    ∃ f', ((((((w.setCell ⟨g, i * 6, none⟩ x0).setCell ⟨g, i * 6 + 1, none⟩ x1).setCell ⟨g, i * 6 + 2, none⟩ x2).setCell ⟨g, i * 6 + 3, none⟩ x3).setCell ⟨g, i * 6 + 4, none⟩ x4).setCell ⟨g, i * 6 + 5, none⟩ x5).rowIs g t m f' ∧
      (f' (i * 6) = x0 ∧ f' (i * 6 + 1) = x1 ∧ f' (i * 6 + 2) = x2 ∧ f' (i * 6 + 3) = x3 ∧ f' (i * 6 + 4) = x4 ∧ f' (i * 6 + 5) = x5) ∧ ∀ j c, c < 6 → j ≠ i → f' (j * 6 + c) = f (j * 6 + c) := by
  refine ⟨_, (((((h.set _ x0).set _ x1).set _ x2).set _ x3).set _ x4).set _ x5, ⟨?_, ?_, ?_, ?_, ?_, ?_⟩, fun j c hc hj => ?_⟩
  · simp
  · simp
  · simp
  · simp
  · simp
  · simp
  · have e : ∀ d, d < 6 → j * 6 + c ≠ i * 6 + d := fun d hd e => hj (by omega)
    show (if j * 6 + c = i * 6 + 5 then x5 else if j * 6 + c = i * 6 + 4 then x4 else if j * 6 + c = i * 6 + 3 then x3 else if j * 6 + c = i * 6 + 2 then x2 else if j * 6 + c = i * 6 + 1 then x1 else if j * 6 + c = i * 6 then x0 else f (j * 6 + c)) = _
    rw [if_neg (e 5 (by omega)), if_neg (e 4 (by omega)), if_neg (e 3 (by omega)), if_neg (e 2 (by omega)), if_neg (e 1 (by omega)), if_neg (fun h => e 0 (by omega) (by omega))]
theorem six_frame {W : World} (g i : Nat) (x0 x1 x2 x3 x4 x5 : Value) : Fr (fun k => k ≠ g) W ((((((W.setCell ⟨g, i * 6, none⟩ x0).setCell ⟨g, i * 6 + 1, none⟩ x1).setCell ⟨g, i * 6 + 2, none⟩ x2).setCell ⟨g, i * 6 + 3, none⟩ x3).setCell ⟨g, i * 6 + 4, none⟩ x4).setCell ⟨g, i * 6 + 5, none⟩ x5) :=
  ((((((Fr.refl _ W).setCell (fun h => h rfl) x0).setCell (fun h => h rfl) x1).setCell (fun h => h rfl) x2).setCell (fun h => h rfl) x3).setCell (fun h => h rfl) x4).setCell (fun h => h rfl) x5
structure EvI (w : World) (B0 ge m : Nat) (EF : Nat → EvF) (i : Nat) (TV VV : Nat → Value) : Prop where
  row : ∃ f, w.rowIs ge 41 (m * 6) f ∧ ∀ j, j < i → ∀ c, c < 6 → f (j * 6 + c) = evF (EF j).k (EF j).a (EF j).did (EF j).n (TV j) (VV j) c
  took : ∀ j, j < i → w.ownsRow B0 3 1 (TV j) (EF j).took.length (pCells (EF j).took)
  vals : ∀ j, j < i → w.ownsRow B0 3 1 (VV j) (EF j).vals.length (iCells (EF j).vals)
  apT : ∀ i' j, i' < i → j < i → i' ≠ j → ∀ b, (TV i').ownBlock = some b → (TV j).ownBlock ≠ some b
  apV : ∀ i' j, i' < i → j < i → i' ≠ j → ∀ b, (VV i').ownBlock = some b → (VV j).ownBlock ≠ some b
  apTV : ∀ i' j, i' < i → j < i → ∀ b, (TV i').ownBlock = some b → (VV j).ownBlock ≠ some b
def upV (T : Nat → Value) (i : Nat) (v : Value) (j : Nat) : Value := if j = i then v else T j
theorem upV_same (T : Nat → Value) (i : Nat) (v : Value) : upV T i v i = v := by simp [upV]
theorem upV_lt (T : Nat → Value) {i j : Nat} (v : Value) (h : j < i) : upV T i v j = T j := by unfold upV; rw [if_neg (by omega)]
theorem EvI.step {w w1 : World} {B0 ge m : Nat} {EF : Nat → EvF} {i : Nat} {TV VV : Nat → Value} (h : EvI w B0 ge m EF i TV VV) {b : Nat} {aW : Option Addr} (hb : b < B0) (hg : ∀ g, aW = some ⟨g, 0, none⟩ → g < B0) (hge : ge < B0) (hgb : ge ≠ b) (hgg : aW ≠ some ⟨ge, 0, none⟩) (hB : B0 ≤ w.heap.size)
    (hF : Fr (fun k => k < w.heap.size ∧ k ≠ b ∧ aW ≠ some ⟨k, 0, none⟩) w w1) {vT vV : Value} (hT : w1.ownsRow w.heap.size 3 1 vT (EF i).took.length (pCells (EF i).took)) (hV : w1.ownsRow w.heap.size 3 1 vV (EF i).vals.length (iCells (EF i).vals)) (hTV : ∀ k, vT.ownBlock = some k → vV.ownBlock ≠ some k) :
    EvI ((((((w1.setCell ⟨ge, i * 6, none⟩ (.int .i64 (EF i).k)).setCell ⟨ge, i * 6 + 1, none⟩ (.int .i64 (EF i).a)).setCell ⟨ge, i * 6 + 2, none⟩ (.int .i64 (EF i).did)).setCell ⟨ge, i * 6 + 3, none⟩ (.int .i64 (EF i).n)).setCell ⟨ge, i * 6 + 4, none⟩ vT).setCell ⟨ge, i * 6 + 5, none⟩ vV) B0 ge m EF (i + 1) (upV TV i vT) (upV VV i vV) := by
  have h6 := six_frame (W := w1) ge i (.int .i64 (EF i).k) (.int .i64 (EF i).a) (.int .i64 (EF i).did) (.int .i64 (EF i).n) vT vV
  have hin : ∀ k, B0 ≤ k → k < w.heap.size → (k < w.heap.size ∧ k ≠ b ∧ aW ≠ some ⟨k, 0, none⟩) := fun k h1 h2 => ⟨h2, by omega, fun e => by have := hg k e; omega⟩
  have keepOld : ∀ {v : Value} {n : Nat} {xs : List Value}, w.ownsRow B0 3 1 v n xs → _ := fun {v n xs} (hv : w.ownsRow B0 3 1 v n xs) => own_blk (w' := ((((((w1.setCell ⟨ge, i * 6, none⟩ (.int .i64 (EF i).k)).setCell ⟨ge, i * 6 + 1, none⟩ (.int .i64 (EF i).a)).setCell ⟨ge, i * 6 + 2, none⟩ (.int .i64 (EF i).did)).setCell ⟨ge, i * 6 + 3, none⟩ (.int .i64 (EF i).n)).setCell ⟨ge, i * 6 + 4, none⟩ vT).setCell ⟨ge, i * 6 + 5, none⟩ vV)) hv (fun k hk => by
    have hl := hv.lt k hk
    rw [h6.block k (by omega), hF.block k (hin k hl.1 hl.2)])
  have keepNew : ∀ {v : Value} {n : Nat} {xs : List Value}, w1.ownsRow w.heap.size 3 1 v n xs → _ := fun {v n xs} (hv : w1.ownsRow w.heap.size 3 1 v n xs) => own_low (own_blk (w' := ((((((w1.setCell ⟨ge, i * 6, none⟩ (.int .i64 (EF i).k)).setCell ⟨ge, i * 6 + 1, none⟩ (.int .i64 (EF i).a)).setCell ⟨ge, i * 6 + 2, none⟩ (.int .i64 (EF i).did)).setCell ⟨ge, i * 6 + 3, none⟩ (.int .i64 (EF i).n)).setCell ⟨ge, i * 6 + 4, none⟩ vT).setCell ⟨ge, i * 6 + 5, none⟩ vV)) hv (fun k hk => by
    have hl := ownBlock_ge hv k hk
    rw [h6.block k (by omega)])) hB
  have hcase : ∀ j, j < i + 1 → j < i ∨ j = i := fun j hj => by omega
  have hold : ∀ j, j < i → (∀ k, (TV j).ownBlock = some k → k < w.heap.size) ∧ (∀ k, (VV j).ownBlock = some k → k < w.heap.size) := fun j hj => ⟨fun k hk => ((h.took j hj).lt k hk).2, fun k hk => ((h.vals j hj).lt k hk).2⟩
  have hnT := ownBlock_ge hT
  have hnV := ownBlock_ge hV
  refine ⟨?_, ?_, ?_, ?_, ?_, ?_⟩
  · obtain ⟨f, h1, h2⟩ := h.row
    obtain ⟨f', g1, g2, g3⟩ := six_set (h1.of_block (hF.block ge ⟨by omega, hgb, hgg⟩)) i (.int .i64 (EF i).k) (.int .i64 (EF i).a) (.int .i64 (EF i).did) (.int .i64 (EF i).n) vT vV
    refine ⟨f', g1, fun j hj c hc => ?_⟩
    rcases hcase j hj with hj | rfl
    · rw [g3 j c hc (by omega), h2 j hj c hc, upV_lt _ _ hj, upV_lt _ _ hj]
    · rw [upV_same, upV_same]
      have : c = 0 ∨ c = 1 ∨ c = 2 ∨ c = 3 ∨ c = 4 ∨ c = 5 := by omega
      rcases this with rfl | rfl | rfl | rfl | rfl | rfl
      · exact g2.1
      · exact g2.2.1
      · exact g2.2.2.1
      · exact g2.2.2.2.1
      · exact g2.2.2.2.2.1
      · exact g2.2.2.2.2.2
  · intro j hj
    rcases hcase j hj with hj | rfl
    · rw [upV_lt _ _ hj]; exact keepOld (h.took j hj)
    · rw [upV_same]; exact keepNew hT
  · intro j hj
    rcases hcase j hj with hj | rfl
    · rw [upV_lt _ _ hj]; exact keepOld (h.vals j hj)
    · rw [upV_same]; exact keepNew hV
  · intro j j' hj hj' hne k hk
    rcases hcase j hj with hj | rfl
    · rw [upV_lt _ _ hj] at hk
      rcases hcase j' hj' with hj' | rfl
      · rw [upV_lt _ _ hj']; exact h.apT j j' hj hj' hne k hk
      · rw [upV_same]; intro e; have := (hold j hj).1 k hk; have := hnT k e; omega
    · rw [upV_same] at hk
      rcases hcase j' hj' with hj' | rfl
      · rw [upV_lt _ _ hj']; intro e; have := (hold j' hj').1 k e; have := hnT k hk; omega
      · exact absurd rfl hne
  · intro j j' hj hj' hne k hk
    rcases hcase j hj with hj | rfl
    · rw [upV_lt _ _ hj] at hk
      rcases hcase j' hj' with hj' | rfl
      · rw [upV_lt _ _ hj']; exact h.apV j j' hj hj' hne k hk
      · rw [upV_same]; intro e; have := (hold j hj).2 k hk; have := hnV k e; omega
    · rw [upV_same] at hk
      rcases hcase j' hj' with hj' | rfl
      · rw [upV_lt _ _ hj']; intro e; have := (hold j' hj').2 k e; have := hnV k hk; omega
      · exact absurd rfl hne
  · intro j j' hj hj' k hk
    rcases hcase j hj with hj | rfl
    · rw [upV_lt _ _ hj] at hk
      rcases hcase j' hj' with hj' | rfl
      · rw [upV_lt _ _ hj']; exact h.apTV j j' hj hj' k hk
      · rw [upV_same]; intro e; have := (hold j hj).1 k hk; have := hnV k e; omega
    · rw [upV_same] at hk
      rcases hcase j' hj' with hj' | rfl
      · rw [upV_lt _ _ hj']; intro e; have := (hold j' hj').2 k e; have := hnT k hk; omega
      · rw [upV_same]; exact hTV k hk
theorem EvI.done {w : World} {B B0 ge m : Nat} {EF : Nat → EvF} {TV VV : Nat → Value} (h : EvI w B0 ge m EF m TV VV) (hB : B ≤ B0) (hge : B ≤ ge) (hlt : ge < B0) (hm : m ≤ 400) {E : List EvF} (hE : E.length = m) (hEF : ∀ j, (hj : j < E.length) → E[j] = EF j) : EvsOwn B w (.slice (some ⟨ge, 0, none⟩) m m) E TV VV := by
  obtain ⟨f, ⟨c, hc1, hc2, hc3⟩, h2⟩ := h.row
  subst hE
  have hget : ∀ j, (hj : j < E.length) → E[j]? = some (EF j) := fun j hj => by rw [List.getElem?_eq_getElem hj, hEF j hj]
  refine ⟨?_, fun j hj => by rw [hEF j hj]; exact own_low (h.took j hj) hB, fun j hj => by rw [hEF j hj]; exact own_low (h.vals j hj) hB, h.apT, h.apV, h.apTV, fun j hj b hb e => ?_, fun j hj b hb e => ?_⟩
  · have hln : (evCells E TV VV).length = E.length * 6 := by
      have key : ∀ (g : Nat → List Value), (∀ i, (g i).length = 6) → ∀ n, ((List.range n).flatMap g).length = n * 6 := by
        intro g hg n
        induction n with
        | zero => rfl
        | succ n ih => rw [List.range_succ, List.flatMap_append, List.length_append, ih]; simp [hg]; omega
      exact key _ (fun _ => rfl) _
    refine ⟨hln, .inr ⟨ge, E.length, c, rfl, hge, hc1, Nat.le_refl _, by unfold maxLen; omega, by omega, ?_⟩⟩
    apply List.ext_getElem?
    intro k
    rw [List.getElem?_take]
    by_cases hk : k < E.length * 6
    · rw [if_pos (by omega), Array.getElem?_toList, hc3 k hk]
      have hj : k / 6 < E.length := by omega
      have hkk : k = k / 6 * 6 + k % 6 := by omega
      have h6 : k % 6 < 6 := by omega
      rw [hkk, h2 (k / 6) hj (k % 6) h6]
      unfold evCells
      rw [flat_get _ 6 (fun _ => rfl) (List.range E.length) (k / 6) (k % 6) (by rw [List.length_range]; exact hj) h6, List.getElem_range, hget _ hj]
      generalize k % 6 = c at h6
      have : c = 0 ∨ c = 1 ∨ c = 2 ∨ c = 3 ∨ c = 4 ∨ c = 5 := by omega
      rcases this with rfl | rfl | rfl | rfl | rfl | rfl <;> rfl
    · rw [if_neg (by omega), List.getElem?_eq_none (by rw [hln]; omega)]
  · have h1 := ownBlock_ge (h.took j hj) b hb
    have h3 : ge = b := by simpa [Value.ownBlock] using e
    omega
  · have h1 := ownBlock_ge (h.vals j hj) b hb
    have h3 : ge = b := by simpa [Value.ownBlock] using e
    omega
end Go.Proofs.Ytmndgoapkmhglab
