import Derived.Test.YtmndgoapkmhglabB40PyF
import Derived.Test.YtmndgoapkmhglabB43PlyR
/- what a place that wakes does to the scene is what the past says. -/
namespace Go.Proofs.Ytmndgoapkmhglab
open Go.RowKit

def wireP (N : List LnF) (P : PastF) (l : Nat) : WrF := ⟨(lnAt N l).src, (lnAt N l).dst, fullN N P l, untN N P l, comesN N P l, knownN P l⟩
def wireT (N : List LnF) (P : PastF) (a : OpF) (l : Nat) : WrF := ⟨(lnAt N l).src, (lnAt N l).dst, fullT N P a l, untT N P a l, comesN N P l, knownT N P a l⟩

section
variable {N : List LnF} {P : PastF} {a : OpF} (hO : PastOk N P a.a) (hI : RunInv N P)
include hO hI

theorem canW_is {l : Nat} (hl : l < N.length) : canW (wireP N P) a l = canF N P a l := (can_same hO hI hl).symm
theorem filter_is : (List.range N.length).filter (canW (wireP N P) a) = tookF N P a := by
  unfold tookF
  exact List.filter_congr fun l hl => canW_is hO hI (List.mem_range.1 hl)
theorem takeW_is {l : Nat} (hl : l < N.length) : takeW (wireP N P) a l = wireT N P a l := by
  unfold takeW
  rw [canW_is hO hI hl]
  cases hc : canF N P a l with
  | true => simp [wireT, wireP, fullT, untT, knownT, hc]
  | false => simp [wireT, wireP, fullT, untT, knownT, hc]

omit hO hI in
theorem all_congr' {n : Nat} {p q : Nat → Bool} (h : ∀ l, l < n → p l = q l) : (List.range n).all p = (List.range n).all q := by
  rw [Bool.eq_iff_iff, List.all_eq_true, List.all_eq_true]
  exact ⟨fun k l hl => by rw [← h l (List.mem_range.1 hl)]; exact k l hl, fun k l hl => by rw [h l (List.mem_range.1 hl)]; exact k l hl⟩

theorem wkReady_is {p : Nat} (hp : a.k = (p : Int)) : wkReady (takeW (wireP N P) a) N.length (fun q => holdsN P (q : Int)) p = readyF N P a := by
  rw [ready_same hO hI, hp]
  unfold wkReady
  congr 1
  refine all_congr' fun l hl => ?_
  rw [takeW_is hO hI hl]
  rfl
theorem wkFree_is (hA : Apart N) (h0 : 0 ≤ a.a) {p : Nat} (hp : a.k = (p : Int)) : wkFree (takeW (wireP N P) a) N.length (fun q => holdsN P (q : Int)) p a.a = freeF N P a := by
  rw [free_same hO hI hA h0, hp]
  unfold wkFree
  congr 1
  refine all_congr' fun l hl => ?_
  rw [takeW_is hO hI hl]
  rfl

theorem wk_is (hA : Apart N) (h0 : 0 ≤ a.a) {p : Nat} (hp : a.k = (p : Int)) {es : List Dc} {S : Nat → Nat → Int} {V : Int → Nat → List Int} (hV : ∀ m, V (p : Int) m = valsP es p (fun i => S i m) es.length) (r : WkR)
    (hr : r = wkR (takeW (wireP N P) a) N.length (fun q => cntF P (q : Int) 1) (fun q => holdsN P (q : Int)) p a.a a.c es S) :
    r.did = (wakeF N V P a).did ∧ r.num = (wakeF N V P a).n ∧ r.vals = (wakeF N V P a).vals ∧ (∀ l, l < N.length → r.F l = wireP N (P ++ [(a, wakeF N V P a)]) l) ∧ (∀ q : Nat, r.nx q = cntF (P ++ [(a, wakeF N V P a)]) (q : Int) 1) ∧ (∀ q : Nat, r.hd q = holdsN (P ++ [(a, wakeF N V P a)]) (q : Int)) := by
  have hqe : ∀ q : Nat, (a.k = (q : Int)) ↔ q = p := fun q => by rw [hp]; omega
  unfold wkR at hr
  rw [wkReady_is hO hI hp, wkFree_is hO hI hA h0 hp] at hr
  rcases did_cases N V P a with ⟨h1, hd⟩ | ⟨h1, h2, hd⟩ | ⟨h1, h2, hd⟩
  · rw [h1, if_pos rfl] at hr
    subst hr
    refine ⟨hd.symm, ?_, ?_, fun l hl => ?_, fun q => ?_, fun q => ?_⟩
    · unfold wakeF; simp only [h1, if_true]; rw [did_all hO, hp]
    · unfold wakeF; simp only [h1, if_true]
    · show stepW (takeW (wireP N P) a) p l = _
      have e0 : stepW (takeW (wireP N P) a) p l = if (lnAt N l).dst = (p : Int) then { wireT N P a l with full := false } else wireT N P a l := by unfold stepW; rw [takeW_is hO hI hl]; rfl
      unfold wireP at e0 ⊢
      rw [e0, full_next hO hI V hl, unt_next hO hI V hA hl, comes_next V l, known_next V hl, hd, hp]
      by_cases e : (lnAt N l).dst = (p : Int)
      · rw [if_pos e]; simp [wireT, e]
      · rw [if_neg e]; simp [wireT, e]
    · show (if q = p then cntF P (p : Int) 1 + 1 else cntF P (q : Int) 1) = _
      rw [cnt_next, hd]
      by_cases e : q = p
      · subst e; simp [hp]
      · have : ¬ (a.k = (q : Int)) := fun h => e ((hqe q).1 h)
        simp [e, this]
    · show (if q = p then true else holdsN P (q : Int)) = _
      rw [holds_next hI V, hd]
      by_cases e : q = p
      · subst e; simp [hp]
      · have : ¬ ((q : Int) = a.k) := fun h => e ((hqe q).1 h.symm)
        simp [e, this]
  · rw [h1, h2] at hr
    simp only [Bool.false_eq_true, if_false, if_true] at hr
    subst hr
    have hc := ((free_iff hO hI).1 h2).1
    rw [hp] at hc
    have hn : cntF P (p : Int) 1 - 1 = cntF P (p : Int) 2 := by omega
    refine ⟨hd.symm, ?_, ?_, fun l hl => ?_, fun q => ?_, fun q => ?_⟩
    · unfold wakeF; simp only [h1, h2, Bool.false_eq_true, if_false, if_true]; rw [did_all hO, hp, hn]
    · unfold wakeF; simp only [h1, h2, Bool.false_eq_true, if_false, if_true]; rw [did_all hO, hp, hV, hn]
    · show pubW (takeW (wireP N P) a) p (a.a + a.c) l = _
      have e0 : pubW (takeW (wireP N P) a) p (a.a + a.c) l = if (lnAt N l).src = (p : Int) then { wireT N P a l with unt := true, comes := a.a + a.c } else wireT N P a l := by unfold pubW; rw [takeW_is hO hI hl]; rfl
      unfold wireP at e0 ⊢
      rw [e0, full_next hO hI V hl, unt_next hO hI V hA hl, comes_next V l, known_next V hl, hd, hp]
      by_cases e : (lnAt N l).src = (p : Int)
      · rw [if_pos e]; simp [wireT, e]
      · rw [if_neg e]; simp [wireT, e]
    · show cntF P (q : Int) 1 = _
      rw [cnt_next, hd]
      simp
    · show (if q = p then false else holdsN P (q : Int)) = _
      rw [holds_next hI V, hd]
      by_cases e : q = p
      · subst e; simp [hp]
      · have : ¬ ((q : Int) = a.k) := fun h => e ((hqe q).1 h.symm)
        simp [e, this]
  · rw [h1, h2] at hr
    simp only [Bool.false_eq_true, if_false] at hr
    subst hr
    refine ⟨hd.symm, ?_, ?_, fun l hl => ?_, fun q => ?_, fun q => ?_⟩
    · unfold wakeF; simp only [h1, h2, Bool.false_eq_true, if_false]
    · unfold wakeF; simp only [h1, h2, Bool.false_eq_true, if_false]
    · show takeW (wireP N P) a l = _
      rw [takeW_is hO hI hl]
      unfold wireP wireT
      rw [full_next hO hI V hl, unt_next hO hI V hA hl, comes_next V l, known_next V hl, hd]
      simp
    · show cntF P (q : Int) 1 = _
      rw [cnt_next, hd]
      simp
    · show holdsN P (q : Int) = _
      rw [holds_next hI V, hd]
      simp
end

/-- the net of a text that is held. -/
def netD (es : List Dc) (ls : List Rt) : List LnF := ls.map fun r => ⟨(((es.map Dc.place).getD r.src 0 : Nat) : Int), ((r.dst : Nat) : Int), r.late⟩
theorem netD_len (es : List Dc) (ls : List Rt) : (netD es ls).length = ls.length := by simp [netD]
theorem netD_at (es : List Dc) (ls : List Rt) {l : Nat} (hl : l < ls.length) : lnAt (netD es ls) l = ⟨(((es.map Dc.place).getD ls[l].src 0 : Nat) : Int), ((ls[l].dst : Nat) : Int), ls[l].late⟩ := by
  unfold lnAt netD
  rw [List.getD_eq_getElem?_getD, List.getElem?_map, List.getElem?_eq_getElem hl]
  rfl
theorem wire_start (es : List Dc) (ls : List Rt) {l : Nat} (hl : l < ls.length) : wireP (netD es ls) [] l = ⟨(((es.map Dc.place).getD ls[l].src 0 : Nat) : Int), ((ls[l].dst : Nat) : Int), ls[l].late, false, 0, 0⟩ := by
  unfold wireP
  rw [full_start, netD_at es ls hl]
  simp [untN, comesN, knownN, tkF, cntF, comesF, knownF]

end Go.Proofs.Ytmndgoapkmhglab
