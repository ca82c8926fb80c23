import Derived.Deep.Matrix
import Derived.SizedLaws
import Derived.Carry
import Derived.ProofKit
import Derived.Test.Ytmndgoapkmhglabo02BoxC
import Derived.Test.Ytmndgoapkmhglabo03EvBx
import Derived.Test.Ytmndgoapkmhglabo05AstK
import Derived.Test.Ytmndgoapkmhglabo06Dec
import Derived.Test.Ytmndgoapkmhglabo07PlyP
import Derived.Test.Ytmndgoapkmhglabo22OrdB
import Derived.Test.Ytmndgoapkmhglabo24PyB
import Derived.Test.Ytmndgoapkmhglabo29LawP
import Derived.Test.Ytmndgoapkmhglabo31SvB
import Derived.Test.Ytmndgoapkmhglabo34HeldP
namespace Go.Proofs.Ytmndgoapkmhglab
open Go.RowKit
def takM (N : List LnF) (P : PastF) (a : OpF) (m l : Nat) : Nat := tkF l P + (if l ∈ (tookF N P a).take m then 1 else 0)
def knoM (N : List LnF) (P : PastF) (a : OpF) (m l : Nat) : Int := if l ∈ (tookF N P a).take m then a.a + a.b else knownN P l
theorem take_zero_tak (N : List LnF) (P : PastF) (a : OpF) (l : Nat) : takM N P a 0 l = tkF l P ∧ knoM N P a 0 l = knownN P l := by
  unfold takM knoM
  simp
theorem take_not {T : List Nat} (h : T.Nodup) {m : Nat} (hm : m < T.length) : T[m] ∉ T.take m := by
  intro hx
  obtain ⟨j, hj, e⟩ := List.mem_iff_getElem.1 hx
  rw [List.length_take] at hj
  rw [List.getElem_take] at e
  exact (List.pairwise_iff_getElem.1 h) j m (by omega) hm (by omega) e
theorem take_more {T : List Nat} {m : Nat} (hm : m < T.length) (l : Nat) : l ∈ T.take (m + 1) ↔ l ∈ T.take m ∨ l = T[m] := by
  rw [List.take_succ_eq_append_getElem hm, List.mem_append, List.mem_singleton]
section
variable {N : List LnF} {P : PastF} {a : OpF} (hO : PastOk N P a.a) (hI : RunInv N P)
theorem tak_next {m : Nat} (hm : m < (tookF N P a).length) (l : Nat) : takM N P a (m + 1) l = (if l = (tookF N P a)[m] then takM N P a m l + 1 else takM N P a m l) ∧ knoM N P a (m + 1) l = (if l = (tookF N P a)[m] then a.a + a.b else knoM N P a m l) := by
  unfold takM knoM
  by_cases e : l = (tookF N P a)[m]
  · have h1 : l ∈ (tookF N P a).take (m + 1) := (take_more hm l).2 (.inr e)
    have h2 : l ∉ (tookF N P a).take m := by rw [e]; exact take_not (tookF_nodup N P a) hm
    rw [if_pos h1, if_neg h2, if_pos e, if_pos h1, if_pos e]
    exact ⟨rfl, rfl⟩
  · have h1 : (l ∈ (tookF N P a).take (m + 1)) ↔ l ∈ (tookF N P a).take m := by rw [take_more hm]; exact ⟨fun h => h.resolve_right e, .inl⟩
    simp only [h1, if_neg e, and_self]
include hO hI in
theorem took_can {m : Nat} (hm : m < (tookF N P a).length) : (tookF N P a)[m] < N.length ∧ (lnAt N (tookF N P a)[m]).dst = a.k ∧ takM N P a m (tookF N P a)[m] < cntF P (lnAt N (tookF N P a)[m]).src 2 ∧ comesN N P (tookF N P a)[m] ≤ a.a ∧ takM N P a m (tookF N P a)[m] + lateN N (tookF N P a)[m] = cntF P a.k 1 := by
  have hx : (tookF N P a)[m] ∈ tookF N P a := List.getElem_mem hm
  have hn := take_not (tookF_nodup N P a) hm
  generalize (tookF N P a)[m] = l at *
  unfold tookF at hx
  rw [List.mem_filter, List.mem_range] at hx
  obtain ⟨h1, h2, h3, h4⟩ := (can_iff hO hI hx.1).1 hx.2
  unfold takM
  rw [if_neg hn]
  exact ⟨hx.1, h1, h2, h3, h4⟩
theorem tak_full {l : Nat} (hl : l < N.length) : takM N P a (tookF N P a).length l = tkF l P + (if canF N P a l then 1 else 0) ∧ knoM N P a (tookF N P a).length l = knownT N P a l := by
  have e : (l ∈ (tookF N P a).take (tookF N P a).length) ↔ canF N P a l = true := by
    rw [List.take_length]
    unfold tookF
    rw [List.mem_filter, List.mem_range]
    exact ⟨fun h => h.2, fun h => ⟨hl, h⟩⟩
  unfold takM knoM knownT
  simp only [e, and_self]
include hO hI in
theorem left_none {l : Nat} (hl : l < N.length) (h1 : (lnAt N l).dst = a.k) (h2 : takM N P a (tookF N P a).length l < cntF P (lnAt N l).src 2) (h3 : comesN N P l ≤ a.a) : takM N P a (tookF N P a).length l + lateN N l ≠ cntF P a.k 1 := by
  rw [(tak_full hl).1] at h2 ⊢
  by_cases hc : canF N P a l = true
  · have := ((can_iff hO hI hl).1 hc).2.2.2
    rw [if_pos hc]; omega
  · rw [if_neg hc] at h2 ⊢
    intro h4
    exact hc ((can_iff hO hI hl).2 ⟨h1, by omega, h3, by omega⟩)
include hO hI in
theorem ready_book : readyF N P a = true ↔ cntF P a.k 1 = cntF P a.k 2 ∧ ∀ l, l < N.length → (lnAt N l).dst = a.k → takM N P a (tookF N P a).length l + lateN N l = cntF P a.k 1 + 1 := by
  rw [ready_iff hO hI]
  refine and_congr_right fun _ => forall_congr' fun l => forall_congr' fun hl => forall_congr' fun hd => ?_
  rw [(tak_full hl).1]
include hO hI in
theorem free_book (hA : Apart N) (h0 : 0 ≤ a.a) : freeF N P a = true ↔ cntF P a.k 1 = cntF P a.k 2 + 1 ∧ ∀ l, l < N.length → (lnAt N l).src = a.k → takM N P a (tookF N P a).length l = cntF P (lnAt N l).src 2 ∧ knoM N P a (tookF N P a).length l ≤ a.a := by
  have ht := hI.turn a.k
  rw [free_same hO hI hA h0, Bool.and_eq_true, List.all_eq_true]
  unfold holdsN
  rw [decide_eq_true_iff]
  refine and_congr (by omega) ⟨fun h l hl hd => ?_, fun h l hl => ?_⟩
  · have h1 := h l (List.mem_range.2 hl)
    have hs := hI.sent l hl
    have hcn : canF N P a l = false := by
      rw [Bool.eq_false_iff]
      intro hc
      exact hA l hl (hd.trans ((can_iff hO hI hl).1 hc).1.symm)
    rw [(tak_full hl).1, (tak_full hl).2, hcn]
    unfold untT untN at h1
    rw [hcn] at h1
    simp only [hd, decide_true, Bool.not_true, Bool.false_or, Bool.not_false, Bool.and_true, Bool.and_eq_true, Bool.not_eq_true', decide_eq_false_iff_not, decide_eq_true_eq] at h1
    rw [hd] at hs ⊢
    simp only [Bool.false_eq_true, if_false]
    exact ⟨by omega, h1.2⟩
  · rw [List.mem_range] at hl
    by_cases hd : (lnAt N l).src = a.k
    · obtain ⟨h1, h2⟩ := h l hl hd
      rw [(tak_full hl).1] at h1
      rw [(tak_full hl).2] at h2
      have hcn : canF N P a l = false := by
        rw [Bool.eq_false_iff]
        intro hc
        exact hA l hl (hd.trans ((can_iff hO hI hl).1 hc).1.symm)
      rw [hcn] at h1
      unfold untT untN
      rw [hcn]
      simp only [Bool.false_eq_true, if_false] at h1
      have h3 : ¬ (tkF l P < cntF P (lnAt N l).src 2) := by omega
      simp [h3, h2]
    · simp [hd]
variable (V : Int → Nat → List Int)
theorem tak_behind {l : Nat} (hl : l < N.length) : tkF l (P ++ [(a, wakeF N V P a)]) = takM N P a (tookF N P a).length l ∧ knownN (P ++ [(a, wakeF N V P a)]) l = knoM N P a (tookF N P a).length l := by
  refine ⟨?_, ?_⟩
  · rw [(tak_full hl).1, tkF_app]
    congr 1
    show (tookF N P a).count l + 0 = _
    rw [count_one (tookF_nodup N P a)]
    have e : (l ∈ tookF N P a) ↔ canF N P a l = true := by
      unfold tookF
      rw [List.mem_filter, List.mem_range]
      exact ⟨fun h => h.2, fun h => ⟨hl, h⟩⟩
    simp only [e, Nat.add_zero]
  · rw [(tak_full hl).2]
    unfold knownN knownT
    rw [knownF_app]
    simp only [knownF]
    have e : (l ∈ (wakeF N V P a).took) ↔ canF N P a l = true := by
      show l ∈ tookF N P a ↔ _
      unfold tookF
      rw [List.mem_filter, List.mem_range]
      exact ⟨fun h => h.2, fun h => ⟨hl, h⟩⟩
    by_cases hc : canF N P a l = true
    · rw [if_pos (e.2 hc), if_pos hc]; rfl
    · rw [if_neg (fun h => hc (e.1 h)), if_neg hc]; rfl
end
structure LiF where
  src : Int
  dst : Int
  late : Int
  sent : Int
  taken : Int
  comes : Int
  known : Int
def LiF.cell (x : LiF) : Nat → Value
  | 0 => .int .i64 x.src
  | 1 => .int .i64 x.dst
  | 2 => .int .i64 x.late
  | 3 => .int .i64 x.sent
  | 4 => .int .i64 x.taken
  | 5 => .int .i64 x.comes
  | _ => .int .i64 x.known
def Lines (w : World) (g n : Nat) (F : Nat → LiF) : Prop := ∃ m f, w.rowIs g 91 m f ∧ ∀ l, l < n → ∀ j, j < 7 → l * 7 + j < m ∧ f (l * 7 + j) = (F l).cell j
theorem Lines.lt {w : World} {g n : Nat} {F : Nat → LiF} (h : Lines w g n F) : g < w.heap.size := by obtain ⟨m, f, h1, _⟩ := h; exact h1.lt
theorem Lines.froz {w : World} {g n : Nat} {F : Nat → LiF} (h : Lines w g n F) (i : Nat) : w.frozen? ⟨g, i, none⟩ = false := by obtain ⟨m, f, h1, _⟩ := h; exact h1.frozen i
theorem Lines.cell {w : World} {g n : Nat} {F : Nat → LiF} (h : Lines w g n F) {l : Nat} (hl : l < n) {j : Nat} (hj : j < 7) : w.cell? ⟨g, l * 7 + j, none⟩ = some ((F l).cell j) := by
  obtain ⟨m, f, h1, h2⟩ := h
  obtain ⟨h3, h4⟩ := h2 l hl j hj
  rw [h1.cell h3, h4]
theorem Lines.cells {w : World} {g n : Nat} {F : Nat → LiF} (h : Lines w g n F) {l : Nat} (hl : l < n) : w.cell? ⟨g, l * 7, none⟩ = some (.int .i64 (F l).src) ∧ w.cell? ⟨g, l * 7 + 1, none⟩ = some (.int .i64 (F l).dst) ∧ w.cell? ⟨g, l * 7 + 2, none⟩ = some (.int .i64 (F l).late) ∧ w.cell? ⟨g, l * 7 + 3, none⟩ = some (.int .i64 (F l).sent) ∧ w.cell? ⟨g, l * 7 + 4, none⟩ = some (.int .i64 (F l).taken) ∧ w.cell? ⟨g, l * 7 + 5, none⟩ = some (.int .i64 (F l).comes) ∧ w.cell? ⟨g, l * 7 + 6, none⟩ = some (.int .i64 (F l).known) :=
  ⟨h.cell hl (j := 0) (by omega), h.cell hl (j := 1) (by omega), h.cell hl (j := 2) (by omega), h.cell hl (j := 3) (by omega), h.cell hl (j := 4) (by omega), h.cell hl (j := 5) (by omega), h.cell hl (j := 6) (by omega)⟩
theorem Lines.of_block {w w' : World} {g n : Nat} {F : Nat → LiF} (h : Lines w g n F) (e : w'.heap[g]? = w.heap[g]?) : Lines w' g n F := by
  obtain ⟨m, f, h1, h2⟩ := h
  exact ⟨m, f, h1.of_block e, h2⟩
theorem Lines.set {w : World} {g n : Nat} {F F' : Nat → LiF} (h : Lines w g n F) {l j : Nat} (hj : j < 7) (v : Value) (hF : ∀ l', l' < n → ∀ j', j' < 7 → (F' l').cell j' = if l' = l ∧ j' = j then v else (F l').cell j') : Lines (w.setCell ⟨g, l * 7 + j, none⟩ v) g n F' := by
  obtain ⟨m, f, h1, h2⟩ := h
  refine ⟨m, _, h1.set (l * 7 + j) v, fun l' hl' j' hj' => ⟨(h2 l' hl' j' hj').1, ?_⟩⟩
  rw [hF l' hl' j' hj']
  show (if l' * 7 + j' = l * 7 + j then v else f (l' * 7 + j')) = _
  by_cases e : l' = l ∧ j' = j
  · rw [if_pos e, if_pos (by obtain ⟨rfl, rfl⟩ := e; rfl)]
  · rw [if_neg e, if_neg (by omega), (h2 l' hl' j' hj').2]
theorem Lines.congr {w : World} {g n : Nat} {F F' : Nat → LiF} (h : Lines w g n F) (e : ∀ l, l < n → F l = F' l) : Lines w g n F' := by
  obtain ⟨m, f, h1, h2⟩ := h
  exact ⟨m, f, h1, fun l hl j hj => by rw [← e l hl]; exact h2 l hl j hj⟩
structure Bk (w : World) (Z b : Nat) (aL : Option Addr) (n cL gS gT : Nat) (F : Nat → LiF) (st tl : Nat → Nat) : Prop where
  row : w.rowIs b 87 3 (fun i => if i = 0 then .slice aL n cL else if i = 1 then .slice (some ⟨gS, 0, none⟩) 4 4 else .slice (some ⟨gT, 0, none⟩) 4 4)
  ls : 0 < n → ∃ g, aL = some ⟨g, 0, none⟩ ∧ Lines w g n F ∧ g ≠ b ∧ g ≠ gS ∧ g ≠ gT ∧ Z ≤ g
  sr : w.rowIs gS 3 4 (fun i => .int .i64 ((st i : Nat) : Int))
  tr : w.rowIs gT 3 4 (fun i => .int .i64 ((tl i : Nat) : Int))
  n1 : b ≠ gS
  n2 : b ≠ gT
  n3 : gS ≠ gT
  z1 : Z ≤ b
  z2 : Z ≤ gS
  z3 : Z ≤ gT
  few : n ≤ 6100
section
variable {w w' : World} {Z b : Nat} {aL : Option Addr} {n cL gS gT : Nat} {F : Nat → LiF} {st tl : Nat → Nat}
theorem Bk.c0 (h : Bk w Z b aL n cL gS gT F st tl) : w.cell? ⟨b, 0, none⟩ = some (.slice aL n cL) := h.row.cell (i := 0) (by omega)
theorem Bk.c1 (h : Bk w Z b aL n cL gS gT F st tl) : w.cell? ⟨b, 1, none⟩ = some (.slice (some ⟨gS, 0, none⟩) 4 4) := h.row.cell (i := 1) (by omega)
theorem Bk.c2 (h : Bk w Z b aL n cL gS gT F st tl) : w.cell? ⟨b, 2, none⟩ = some (.slice (some ⟨gT, 0, none⟩) 4 4) := h.row.cell (i := 2) (by omega)
theorem Bk.cs (h : Bk w Z b aL n cL gS gT F st tl) {p : Nat} (hp : p < 4) : w.cell? ⟨gS, p, none⟩ = some (.int .i64 ((st p : Nat) : Int)) := h.sr.cell hp
theorem Bk.ct (h : Bk w Z b aL n cL gS gT F st tl) {p : Nat} (hp : p < 4) : w.cell? ⟨gT, p, none⟩ = some (.int .i64 ((tl p : Nat) : Int)) := h.tr.cell hp
theorem Bk.of_blocks (h : Bk w Z b aL n cL gS gT F st tl) (hs : ∀ k, Z ≤ k → k < w.heap.size → w'.heap[k]? = w.heap[k]?) : Bk w' Z b aL n cL gS gT F st tl :=
  ⟨h.row.of_block (hs b h.z1 h.row.lt), fun hp => by
    obtain ⟨g, e, h1, h2, h3, h4, h5⟩ := h.ls hp
    exact ⟨g, e, h1.of_block (hs g h5 h1.lt), h2, h3, h4, h5⟩, h.sr.of_block (hs gS h.z2 h.sr.lt), h.tr.of_block (hs gT h.z3 h.tr.lt), h.n1, h.n2, h.n3, h.z1, h.z2, h.z3, h.few⟩
theorem Bk.below (h : Bk w Z b aL n cL gS gT F st tl) (hb : Below w.heap.size w w') : Bk w' Z b aL n cL gS gT F st tl :=
  h.of_blocks fun k _ hk => hb.block k hk
theorem Bk.congr (h : Bk w Z b aL n cL gS gT F st tl) {F' : Nat → LiF} {st' tl' : Nat → Nat} (e : ∀ l, l < n → F l = F' l) (e1 : ∀ p, p < 4 → st p = st' p) (e2 : ∀ p, p < 4 → tl p = tl' p) : Bk w Z b aL n cL gS gT F' st' tl' :=
  ⟨h.row, fun hp => by
    obtain ⟨g, e3, h1, h2⟩ := h.ls hp
    exact ⟨g, e3, h1.congr e, h2⟩, h.sr.congr (fun i hi => by rw [e1 i hi]), h.tr.congr (fun i hi => by rw [e2 i hi]), h.n1, h.n2, h.n3, h.z1, h.z2, h.z3, h.few⟩
theorem Bk.setL (h : Bk w Z b aL n cL gS gT F st tl) {F' : Nat → LiF} {g l j : Nat} (hg : aL = some ⟨g, 0, none⟩) (hl : l < n) (hj : j < 7) (v : Value) (hF : ∀ l', l' < n → ∀ j', j' < 7 → (F' l').cell j' = if l' = l ∧ j' = j then v else (F l').cell j') :
    Bk (w.setCell ⟨g, l * 7 + j, none⟩ v) Z b aL n cL gS gT F' st tl := by
  obtain ⟨g', e, h1, h2, h3, h4, h5⟩ := h.ls (by omega)
  have eg : g' = g := by rw [hg] at e; cases e; rfl
  subst eg
  exact ⟨h.row.setOther (a := ⟨g', l * 7 + j, none⟩) (Ne.symm h2) v, fun _ => ⟨g', e, h1.set hj v hF, h2, h3, h4, h5⟩, h.sr.setOther (a := ⟨g', l * 7 + j, none⟩) (Ne.symm h3) v, h.tr.setOther (a := ⟨g', l * 7 + j, none⟩) (Ne.symm h4) v, h.n1, h.n2, h.n3, h.z1, h.z2, h.z3, h.few⟩
theorem Bk.setS (h : Bk w Z b aL n cL gS gT F st tl) {p : Nat} (x : Nat) : Bk (w.setCell ⟨gS, p, none⟩ (.int .i64 (x : Int))) Z b aL n cL gS gT F (fun q => if q = p then x else st q) tl :=
  ⟨h.row.setOther (a := ⟨gS, p, none⟩) h.n1 _, fun hp => by
    obtain ⟨g, e, h1, h2, h3, h4, h5⟩ := h.ls hp
    exact ⟨g, e, h1.of_block (heap_setCell_other w ⟨gS, p, none⟩ g _ h3), h2, h3, h4, h5⟩, (h.sr.set p _).congr (fun i hi => by
      by_cases e : i = p
      · rw [if_pos e, if_pos e]
      · rw [if_neg e, if_neg e]), h.tr.setOther (a := ⟨gS, p, none⟩) (Ne.symm h.n3) _, h.n1, h.n2, h.n3, h.z1, h.z2, h.z3, h.few⟩
theorem Bk.setT (h : Bk w Z b aL n cL gS gT F st tl) {p : Nat} (x : Nat) : Bk (w.setCell ⟨gT, p, none⟩ (.int .i64 (x : Int))) Z b aL n cL gS gT F st (fun q => if q = p then x else tl q) :=
  ⟨h.row.setOther (a := ⟨gT, p, none⟩) h.n2 _, fun hp => by
    obtain ⟨g, e, h1, h2, h3, h4, h5⟩ := h.ls hp
    exact ⟨g, e, h1.of_block (heap_setCell_other w ⟨gT, p, none⟩ g _ h4), h2, h3, h4, h5⟩, h.sr.setOther (a := ⟨gT, p, none⟩) h.n3 _, (h.tr.set p _).congr (fun i hi => by
      by_cases e : i = p
      · rw [if_pos e, if_pos e]
      · rw [if_neg e, if_neg e]), h.n1, h.n2, h.n3, h.z1, h.z2, h.z3, h.few⟩
end
end Go.Proofs.Ytmndgoapkmhglab
namespace Go.Proofs.Ytmndgoapkmhglab
open Go.RowKit
attribute [local go_sem ↓] Go.wp_at_zero Go.wp_at_succ
set_option maxHeartbeats 4000000 in
set_option maxRecDepth 100000 in
theorem kleft_any (w : World) (Z b : Nat) (aL : Option Addr) (n cL gS gT : Nat) (F : Nat → LiF) (st tl : Nat → Nat) (hB : Bk w Z b aL n cL gS gT F st tl) (q : Nat) (hq : q < 4) (aa ab ac : Int)
    (hN : ∀ l, l < n → 0 ≤ (F l).taken ∧ (F l).taken ≤ 1000 ∧ 0 ≤ (F l).late ∧ (F l).late ≤ 1)
    (hno : ∀ l, l < n → (F l).dst = (q : Int) → (F l).taken < (F l).sent → (F l).comes ≤ aa → (F l).taken + (F l).late ≠ (st q : Int)) :
    Calls Try.prog 43 #[.pointer (some ⟨b, 0, none⟩), .agg #[.int .i64 (q : Int), .int .i64 aa, .int .i64 ab, .int .i64 ac]] w fun e w' => e = .returned (.bool false) ∧ Below w.heap.size w w' := by
  obtain ⟨w0, hw0⟩ : ∃ w0, w0 = w.alloc (.cells #[.int .i64 (q : Int), .int .i64 aa, .int .i64 ab, .int .i64 ac] 43) := ⟨_, rfl⟩
  have hb0 : Below w.heap.size w w0 := by rw [hw0]; exact (Below.refl _ _).alloc (Nat.le_refl _) _
  have hA0 : ActAt w0 w.heap.size ⟨q, aa, ab, ac⟩ := by rw [hw0]; exact ActAt.boxed w ⟨q, aa, ab, ac⟩
  have HA := hide hA0
  have HB0 := hide (hB.below hb0)
  have HBE := hide hb0
  have HW0 := hide hw0
  have HNO := hide hno
  have HN := hide hN
  have hfew := hB.few
  have j1 : (0 : Int) ≤ (q : Int) := by omega
  have j2 : (q : Int) < 4 := by omega
  have hc0 : ∀ u, (w.alloc u).cell? ⟨b, 0, none⟩ = some (.slice aL n cL) := fun u => (hB.below ((Below.refl _ _).alloc (Nat.le_refl _) u)).c0
  clear hB hb0 hw0 hno hN hA0
  go_enter Try.func43, Try.ntmps43
  go_wp2
  go_loopw [5] (fun vi wr => ∃ k : Nat, k ≤ n ∧ vi = .int .i64 k ∧ Below w0.heap.size w0 wr) (fun vi _ => n - (intOf vi).toNat)
  case atStart => exact ⟨0, by omega, rfl, by rw [HW0.out]; exact Below.refl _ _⟩
  case round =>
    obtain ⟨k, hk, rfl, hbr⟩ := hrel
    have hBr := HB0.out.below hbr
    have r0 := hBr.c0
    have HBR := hide hbr
    by_cases hkl : k < n
    · obtain ⟨g, rfl, hLn, _⟩ := hBr.ls (by omega)
      obtain ⟨y0, y1, y2, y3, y4, y5, y6⟩ := hLn.cells hkl
      obtain ⟨t1, t2, t3, t4⟩ := HN.out k hkl
      have hno := HNO.out k hkl
      generalize F k = x at *
      obtain ⟨x0, x1, x2, x3, x4, x5, x6⟩ := x
      simp only [] at y0 y1 y2 y3 y4 y5 y6 t1 t2 t3 t4 hno
      have hwr : IntKind.i64.wrap (x4 + x2) = x4 + x2 := by rw [IntKind.wrap_i64]; omega
      have m1 : (0 : Int) ≤ (k : Int) := by omega
      have m2 : (k : Int) < (n : Int) := by omega
      obtain ⟨wx, hwx⟩ : ∃ wx, wx = wr.alloc (.cells #[.int .i64 x0, .int .i64 x1, .int .i64 x2, .int .i64 x3, .int .i64 x4, .int .i64 x5, .int .i64 x6] 91) := ⟨_, rfl⟩
      have hbx : Below w0.heap.size w0 wx := by rw [hwx]; exact hbr.alloc hbr.size _
      have z0 : wx.cell? ⟨w.heap.size, 0, none⟩ = some (.int .i64 (q : Int)) := (hbx.cell (p := ⟨w.heap.size, 0, none⟩) HA.out.lt).trans HA.out.cells.1
      have z1 : wx.cell? ⟨w.heap.size, 1, none⟩ = some (.int .i64 aa) := (hbx.cell (p := ⟨w.heap.size, 1, none⟩) HA.out.lt).trans HA.out.cells.2.1
      have r1 : wx.cell? ⟨b, 1, none⟩ = some (.slice (some ⟨gS, 0, none⟩) 4 4) := (HB0.out.below hbx).c1
      have r2 : wx.cell? ⟨gS, q, none⟩ = some (.int .i64 ((st q : Nat) : Int)) := (HB0.out.below hbx).cs hq
      have l1 : wx.cell? ⟨wr.heap.size, 1, none⟩ = some (.int .i64 x1) := by rw [hwx]; exact box_cell _ _ _ _ _ rfl
      have l2 : wx.cell? ⟨wr.heap.size, 2, none⟩ = some (.int .i64 x2) := by rw [hwx]; exact box_cell _ _ _ _ _ rfl
      have l3 : wx.cell? ⟨wr.heap.size, 3, none⟩ = some (.int .i64 x3) := by rw [hwx]; exact box_cell _ _ _ _ _ rfl
      have l4 : wx.cell? ⟨wr.heap.size, 4, none⟩ = some (.int .i64 x4) := by rw [hwx]; exact box_cell _ _ _ _ _ rfl
      have l5 : wx.cell? ⟨wr.heap.size, 5, none⟩ = some (.int .i64 x5) := by rw [hwx]; exact box_cell _ _ _ _ _ rfl
      have HWX := hide hwx
      have HBX := hide hbx
      have HBN := hide (below_drewN hbx)
      clear hbr hLn hBr hwx hbx
      by_cases e1 : x1 = (q : Int)
      · subst e1
        have d1 : ((q : Int) == (q : Int)) = true := by simp
        by_cases e2 : x4 < x3
        · have d2 : decide (x4 < x3) = true := decide_eq_true e2
          by_cases e3 : x5 ≤ aa
          · have d3 : decide (x5 ≤ aa) = true := decide_eq_true e3
            have e4 := hno rfl e2 e3
            have d4 : ((x4 + x2) == ((st q : Nat) : Int)) = false := by rw [beq_eq_false_iff_ne]; exact e4
            clear hno e2 e3 e4
            go_wp2_with fail
            rw [← HWX.out]
            go_big_region
            go_wp2
            go_roundw
            case rel => exact ⟨k + 1, by omega, by go_num, by first | exact HBX.out | exact HBX.out.drew | exact HBN.out _⟩
            case measure => simp [intOf]; omega
          · have d3 : decide (x5 ≤ aa) = false := decide_eq_false e3
            clear hno e2 e3
            go_wp2_with fail
            rw [← HWX.out]
            go_big_region
            go_wp2
            go_roundw
            case rel => exact ⟨k + 1, by omega, by go_num, by first | exact HBX.out | exact HBX.out.drew | exact HBN.out _⟩
            case measure => simp [intOf]; omega
        · have d2 : decide (x4 < x3) = false := decide_eq_false e2
          clear hno e2
          go_wp2_with fail
          rw [← HWX.out]
          go_big_region
          go_wp2
          go_roundw
          case rel => exact ⟨k + 1, by omega, by go_num, by first | exact HBX.out | exact HBX.out.drew | exact HBN.out _⟩
          case measure => simp [intOf]; omega
      · have d1 : (x1 == (q : Int)) = false := by rw [beq_eq_false_iff_ne]; exact e1
        clear hno e1
        go_wp2_with fail
        rw [← HWX.out]
        go_big_region
        go_wp2
        go_roundw
        case rel => exact ⟨k + 1, by omega, by go_num, by first | exact HBX.out | exact HBX.out.drew | exact HBN.out _⟩
        case measure => simp [intOf]; omega
    · have ek : k = n := by omega
      subst ek
      clear hbr
      go_wp2
      go_ret
      exact ⟨rfl, HBE.out.trans (HBR.out.mono HBE.out.size)⟩
end Go.Proofs.Ytmndgoapkmhglab
namespace Go.Proofs.Ytmndgoapkmhglab
open Go.RowKit
def runE (s : ByteArray) (sc : List OpF) : Nat := if (textF s).1 ≠ 0 then (textF s).1 else if playK (seatsF s) sc then 0 else 11
def evCells (E : List EvF) (TV VV : Nat → Value) : List Value := (List.range E.length).flatMap fun i => [.int .i64 ((E[i]?.map EvF.k).getD 0), .int .i64 ((E[i]?.map EvF.a).getD 0), .int .i64 ((E[i]?.map EvF.did).getD 0), .int .i64 ((E[i]?.map EvF.n).getD 0), TV i, VV i]
structure EvsOwn (B : Nat) (w : World) (v : Value) (E : List EvF) (TV VV : Nat → Value) : Prop where
  row : w.ownsRow B 41 6 v E.length (evCells E TV VV)
  took : ∀ i, (h : i < E.length) → w.ownsRow B 3 1 (TV i) E[i].took.length (pCells E[i].took)
  vals : ∀ i, (h : i < E.length) → w.ownsRow B 3 1 (VV i) E[i].vals.length (iCells E[i].vals)
  apT : ∀ i j, i < E.length → j < E.length → i ≠ j → ∀ b, (TV i).ownBlock = some b → (TV j).ownBlock ≠ some b
  apV : ∀ i j, i < E.length → j < E.length → i ≠ j → ∀ b, (VV i).ownBlock = some b → (VV j).ownBlock ≠ some b
  apTV : ∀ i j, i < E.length → j < E.length → ∀ b, (TV i).ownBlock = some b → (VV j).ownBlock ≠ some b
  neT : ∀ i, i < E.length → ∀ b, (TV i).ownBlock = some b → v.ownBlock ≠ some b
  neV : ∀ i, i < E.length → ∀ b, (VV i).ownBlock = some b → v.ownBlock ≠ some b
def evsR (ts : List Tk) (L : List Dl) (ins : List (List Int)) (sc : List OpF) : List EvF := (runG (netR ts L) (valsR ts L ins) [] sc).map Prod.snd
def RunQ (s : ByteArray) (ins : List (List Int)) (sc : List OpF) (B : Nat) (w' : World) (v : Value) : Prop :=
  if runE s sc = 0 then ∀ L, RGood s L → Right (toks s) L → ∃ TV VV, EvsOwn B w' v (evsR (toks s) L ins sc) TV VV else ∃ a cap, v = .slice a 0 cap
theorem evsR_len (ts : List Tk) (L : List Dl) (ins : List (List Int)) (sc : List OpF) : (evsR ts L ins sc).length = sc.length := by
  unfold evsR
  obtain ⟨S, h1, h2, _⟩ := run_ext (netR ts L) (valsR ts L ins) sc []
  rw [List.length_map, h1, List.nil_append, ← h2, List.length_map]
end Go.Proofs.Ytmndgoapkmhglab
namespace Go.Proofs.Ytmndgoapkmhglab
theorem sp_uniq {ts : List Tk} (hF : ∀ i, TkF (tkAt ts i)) : ∀ (t t' : Ast) (i : Nat), Sp ts t i → Sp ts t' i → t = t' := by
  intro t
  induction t with
  | leaf =>
    intro t' i h h'
    cases t' with
    | leaf => rfl
    | neg a => exact absurd h'.1 h.2
    | ite a b c => exact absurd h'.1 h.2
    | dly b => exact absurd h'.1 h.2
    | bin a b => exact absurd h'.1 h.2
  | neg a iha =>
    intro t' i h h'
    cases t' with
    | leaf => exact absurd h.1 h'.2
    | neg a' => rw [iha a' _ h.2.2.1 h'.2.2.1]
    | ite a' b' c' => have e := h.2.1.symm.trans h'.2.1; exact absurd e (by decide)
    | dly b' => exact absurd h.2.1 (leaf_ne2 hF (by unfold leafT; rw [h'.2.1]; rfl)).1
    | bin a' b' => exact absurd h.2.1 (sp_first hF h'.2.1).1
  | ite a b c iha ihb ihc =>
    intro t' i h h'
    cases t' with
    | leaf => exact absurd h.1 h'.2
    | neg a' => have e := h.2.1.symm.trans h'.2.1; exact absurd e (by decide)
    | ite a' b' c' =>
      have e1 := iha a' _ h.2.2.1 h'.2.2.1
      subst e1
      have e2 := ihb b' _ h.2.2.2.1 h'.2.2.2.1
      subst e2
      rw [ihc c' _ h.2.2.2.2.1 h'.2.2.2.2.1]
    | dly b' => exact absurd h.2.1 (leaf_ne2 hF (by unfold leafT; rw [h'.2.1]; rfl)).2.1
    | bin a' b' => exact absurd h.2.1 (sp_first hF h'.2.1).2
  | dly b ihb =>
    intro t' i h h'
    have hlf : leafT (tkAt ts (i + 1)) = true := by unfold leafT; rw [h.2.1]; rfl
    cases t' with
    | leaf => exact absurd h.1 h'.2
    | neg a' => exact absurd h'.2.1 (leaf_ne2 hF hlf).1
    | ite a' b' c' => exact absurd h'.2.1 (leaf_ne2 hF hlf).2.1
    | dly b' => rw [ihb b' _ h.2.2.2.1 h'.2.2.2.1]
    | bin a' b' =>
      have hs := h'.2.1
      cases a' with
      | leaf => exact absurd h.2.2.1 (op_ne h'.2.2.1).2.2.2
      | neg x => exact absurd hs.1 (leaf_ne2 hF hlf).2.2.1
      | ite x y z => exact absurd hs.1 (leaf_ne2 hF hlf).2.2.1
      | dly x => exact absurd hs.1 (leaf_ne2 hF hlf).2.2.1
      | bin x y => exact absurd hs.1 (leaf_ne2 hF hlf).2.2.1
  | bin a b iha ihb =>
    intro t' i h h'
    cases t' with
    | leaf => exact absurd h.1 h'.2
    | neg a' => exact absurd h'.2.1 (sp_first hF h.2.1).1
    | ite a' b' c' => exact absurd h'.2.1 (sp_first hF h.2.1).2
    | dly b' =>
      have hlf : leafT (tkAt ts (i + 1)) = true := by unfold leafT; rw [h'.2.1]; rfl
      have hs := h.2.1
      cases a with
      | leaf => exact absurd h'.2.2.1 (op_ne h.2.2.1).2.2.2
      | neg x => exact absurd hs.1 (leaf_ne2 hF hlf).2.2.1
      | ite x y z => exact absurd hs.1 (leaf_ne2 hF hlf).2.2.1
      | dly x => exact absurd hs.1 (leaf_ne2 hF hlf).2.2.1
      | bin x y => exact absurd hs.1 (leaf_ne2 hF hlf).2.2.1
    | bin a' b' =>
      have e1 := iha a' _ h.2.1 h'.2.1
      subst e1
      rw [ihb b' _ h.2.2.2.1 h'.2.2.2.1]
def nrm (x : Dl) : Dl := if x.kind = 0 then ⟨0, x.i, .leaf⟩ else x
theorem dl_uniq {ts : List Tk} (hF : ∀ i, TkF (tkAt ts i)) {x y : Dl} (hi : x.i = y.i) (hx : DlOk ts x) (hy : DlOk ts y) : nrm x = nrm y := by
  obtain ⟨kx, ix, tx⟩ := x
  obtain ⟨ky, iy, ty⟩ := y
  simp only at hi
  subst hi
  unfold DlOk at hx hy
  simp only at hx hy
  rcases hx with ⟨h1, h2, _⟩ | ⟨h1, _, _, _, _, hs, _⟩ <;> rcases hy with ⟨g1, g2, _⟩ | ⟨g1, _, _, _, _, gs, _⟩
  · subst h1 g1; rfl
  · rcases g1 with ⟨_, g⟩ | ⟨_, g⟩
    · have e := h2.symm.trans g; exact absurd e (by decide)
    · have e := h2.symm.trans g; exact absurd e (by decide)
  · rcases h1 with ⟨_, h⟩ | ⟨_, h⟩
    · have e := g2.symm.trans h; exact absurd e (by decide)
    · have e := g2.symm.trans h; exact absurd e (by decide)
  · have e := sp_uniq hF tx ty _ hs gs
    subst e
    rcases h1 with ⟨rfl, h⟩ | ⟨rfl, h⟩ <;> rcases g1 with ⟨rfl, g⟩ | ⟨rfl, g⟩
    · rfl
    · have e := h.symm.trans g; exact absurd e (by decide)
    · have e := h.symm.trans g; exact absurd e (by decide)
    · rfl
theorem nrm_len {x y : Dl} (h : nrm x = nrm y) : x.len = y.len := by
  unfold nrm at h
  unfold Dl.len
  by_cases hx : x.kind = 0 <;> by_cases hy : y.kind = 0
  · rw [if_pos hx, if_pos hy]
  · rw [if_pos hx, if_neg hy] at h; rw [← h] at hy; exact absurd rfl hy
  · rw [if_neg hx, if_pos hy] at h; rw [h] at hx; exact absurd rfl hx
  · rw [if_neg hx, if_neg hy] at h; rw [h]
theorem spell_uniq {ts : List Tk} (hF : ∀ i, TkF (tkAt ts i)) : ∀ (L L' : List Dl) (i : Nat), Spell ts L i → Spell ts L' i → L.map nrm = L'.map nrm := by
  have hend : ∀ {x : Dl} {i : Nat}, x.i = i → DlOk ts x → (tkAt ts i).kind = 0 → False := fun {x i} hi hx hk => by
    subst hi
    have h0 := (hF x.i).k0 hk
    unfold DlOk at hx
    rcases hx with ⟨_, h, _⟩ | ⟨⟨_, h⟩ | ⟨_, h⟩, _⟩
    all_goals
      rw [show (tkAt ts x.i).l = _ from h] at h0
      revert h0
      decide
  intro L
  induction L with
  | nil =>
    intro L' i h h'
    cases L' with
    | nil => rfl
    | cons y r => exact (hend h'.1 h'.2.2.1 h.2).elim
  | cons x r ih =>
    intro L' i h h'
    cases L' with
    | nil => exact (hend h.1 h.2.2.1 h'.2).elim
    | cons y r' =>
      obtain ⟨h1, h2, h3, h4⟩ := h
      obtain ⟨g1, g2, g3, g4⟩ := h'
      have e := dl_uniq hF (h1.trans g1.symm) h3 g3
      rw [List.map_cons, List.map_cons, e, ih r' (i + x.len) h4 (by rw [nrm_len e]; exact g4)]
theorem eqL_nrm : ∀ (L : List Dl), eqL (L.map nrm) = eqL L := by
  intro L
  induction L with
  | nil => rfl
  | cons x r ih =>
    unfold eqL at *
    rw [List.map_cons, List.filter_cons, List.filter_cons, ih]
    unfold nrm
    by_cases h : x.kind = 0
    · simp [h]
    · simp [h]
theorem inL_nrm : ∀ (L : List Dl), (inL (L.map nrm)).map Dl.i = (inL L).map Dl.i := by
  intro L
  induction L with
  | nil => rfl
  | cons x r ih =>
    unfold inL at *
    rw [List.map_cons, List.filter_cons, List.filter_cons]
    unfold nrm at *
    by_cases h : x.kind = 0
    · simp [h, ih]
    · simp [h, ih]
theorem spell_same {ts : List Tk} (hF : ∀ i, TkF (tkAt ts i)) {L L' : List Dl} {i : Nat} (h : Spell ts L i) (h' : Spell ts L' i) : eqL L = eqL L' ∧ (inL L).map Dl.i = (inL L').map Dl.i := by
  have e := spell_uniq hF L L' i h h'
  exact ⟨by rw [← eqL_nrm L, e, eqL_nrm], by rw [← inL_nrm L, e, inL_nrm]⟩
theorem ix_nm (ts : List Tk) {l : List Dl} {w : List UInt8} : l.findIdx? (nmIs ts w) = (l.map (nameD ts)).findIdx? (fun b => b.data.toList == w) := by
  rw [List.findIdx?_map]; rfl
theorem sol_same {ts : List Tk} {L L' : List Dl} (he : eqL L = eqL L') (hi : (inL L).map Dl.i = (inL L').map Dl.i) (ins : List (List Int)) : sol ts L ins = sol ts L' ins := by
  have hV : ∀ R w n, valV ts L ins R w n = valV ts L' ins R w n := fun R w n => by
    unfold valV
    have e1 : inIx ts L w = inIx ts L' w := by
      unfold inIx
      rw [ix_nm, ix_nm]
      congr 1
      have e : ∀ l : List Dl, l.map (nameD ts) = (l.map Dl.i).map fun k => (tkAt ts (k + 1)).text := fun l => by rw [List.map_map]; rfl
      rw [e, e, hi]
    have e2 : eqIx ts L w = eqIx ts L' w := by unfold eqIx; rw [he]
    rw [e1, e2]
  have key : ∀ f j n, solF ts L ins f j n = solF ts L' ins f j n := by
    intro f
    induction f with
    | zero => intro j n; rfl
    | succ f ih =>
      intro j n
      have e : solF ts L ins f = solF ts L' ins f := by funext j n; exact ih j n
      simp only [solF, he]
      have : valV ts L ins (solF ts L ins f) = valV ts L' ins (solF ts L' ins f) := by funext w n; rw [hV, e]
      rw [this]
  funext j n
  unfold sol
  rw [he]
  exact key _ j n
end Go.Proofs.Ytmndgoapkmhglab
namespace Go.Proofs.Ytmndgoapkmhglab
open Go.RowKit
attribute [local go_sem ↓] Go.wp_at_zero Go.wp_at_succ
theorem val_congr {ds : List Dc} {ins : List (List Int)} {n : Nd} {k : Nat} {X X' Y Y' : Nat → Int} (h1 : ∀ c ∈ needs n, X c = X' c) (h2 : n.kind = 2 → kindAt ds n.decl ≠ 0 → X (rootAt ds n.decl) = X' (rootAt ds n.decl)) (h3 : n.kind = 5 → k ≠ 0 → Y n.b = Y' n.b) :
    valF ds ins n k X Y = valF ds ins n k X' Y' := by
  unfold valF
  by_cases k2 : n.kind = 2
  · rw [if_pos k2, if_pos k2]
    unfold nameF
    by_cases hk : kindAt ds n.decl = 0
    · rw [if_pos hk, if_pos hk]
    · rw [if_neg hk, if_neg hk, h2 k2 hk]
  rw [if_neg k2, if_neg k2]
  by_cases k3 : n.kind = 3
  · rw [if_pos k3, if_pos k3, h1 n.a (by simp [needs, k3])]
  rw [if_neg k3, if_neg k3]
  by_cases k4 : n.kind = 4
  · rw [if_pos k4, if_pos k4, h1 n.a (by simp [needs, k4]), h1 n.b (by simp [needs, k4]), h1 n.c (by simp [needs, k4])]
  rw [if_neg k4, if_neg k4]
  by_cases k5 : n.kind = 5
  · rw [if_pos k5, if_pos k5]
    by_cases hk : k = 0
    · rw [if_pos hk, if_pos hk, h1 n.a (by simp [needs, k5])]
    · rw [if_neg hk, if_neg hk, h3 k5 hk]
  rw [if_neg k5, if_neg k5]
  by_cases k6 : n.kind = 6
  · rw [if_pos k6, if_pos k6, h1 n.a (by simp [needs, k6]), h1 n.b (by simp [needs, k6])]
  rw [if_neg k6, if_neg k6]
structure DoneT (ds : List Dc) (ns : List Nd) (V : Nat → Int) (T : List Nat) (j : Nat) (X : Nat → Int) : Prop where
  all : ∀ t ∈ T.take j, ∀ d, ds[t]? = some d → ∀ i, d.root ≤ i → i < d.fin → dlAt ns i = false → X i = V i
theorem DoneT.set {ds : List Dc} {ns : List Nd} {V : Nat → Int} {T : List Nat} {j : Nat} {X : Nat → Int} (h : DoneT ds ns V T j X) (i : Nat) : DoneT ds ns V T j (fun c => if c = i then V i else X c) := by
  refine ⟨fun t ht d hd c h1 h2 h3 => ?_⟩
  by_cases e : c = i
  · simp [e]
  · simp only [if_neg e]; exact h.all t ht d hd c h1 h2 h3
theorem turn_val {ds : List Dc} {ns : List Nd} {ins : List (List Int)} {NV : Nat → Nat → Int} {T : List Nat} (hM : Meant ds ns ins NV) (hO : OrdOk ds (markAll ds ns 0 ds noM) T) {k j t : Nat} {X Y : Nat → Int} (hD : DoneT ds ns (NV k) T j X)
    (hY : k ≠ 0 → ∀ c, c < ns.length → Y c = NV (k - 1) c) (hpb : ∀ n ∈ ns, n.b < ns.length) (ht : T[j]? = some t) {d : Dc} (hd : ds[t]? = some d) {i : Nat} (hi : i < ns.length) (h1 : d.root ≤ i) (h2 : i < d.fin)
    (hl : (ns[i]'hi).delayed = false) (hin : ∀ c, i < c → c < d.fin → dlAt ns c = false → X c = NV k c) : valF ds ins (ns[i]'hi) k X Y = NV k i := by
  have hn : ns[i]? = some (ns[i]'hi) := List.getElem?_eq_getElem hi
  obtain ⟨d', hd', hk⟩ := hO.eqn t (List.mem_of_getElem? ht)
  rw [hd] at hd'
  cases hd'
  rw [hM.val i _ hn k]
  refine val_congr (fun c hc => ?_) (fun k2 hq => ?_) (fun k5 h0 => hY h0 _ (hpb _ (List.getElem_mem hi)))
  · obtain ⟨g1, g2, g3⟩ := hM.kids t d hd hk i _ hn h1 h2 c hc
    exact hin c g1 g2 (by rw [g3]; exact hl)
  · have hm := hM.hang t d hd hk i _ hn h1 h2 k2 hl hq
    obtain ⟨dd1, dd2⟩ := hM.decl _ (List.getElem_mem hi) k2
    have hlt : (ns[i]'hi).decl.toNat < ds.length := by omega
    have hdb : ds[(ns[i]'hi).decl.toNat]? = some (ds[(ns[i]'hi).decl.toNat]'hlt) := List.getElem?_eq_getElem hlt
    have e1 : kindAt ds (ns[i]'hi).decl = (ds[(ns[i]'hi).decl.toNat]'hlt).kind := by unfold kindAt; rw [List.getD_eq_getElem?_getD, hdb]; rfl
    have e2 : rootAt ds (ns[i]'hi).decl = (ds[(ns[i]'hi).decl.toNat]'hlt).root := by unfold rootAt; rw [List.getD_eq_getElem?_getD, hdb]; rfl
    rw [e1] at hq
    rw [e2]
    have hmem := hO.topo j t ht _ hm
    obtain ⟨_, r2⟩ := hM.root _ _ hdb hq
    obtain ⟨s1, s2⟩ := hM.segs _ _ hdb hq
    exact hD.all _ hmem _ hdb _ (Nat.le_refl _) s1 r2
theorem late_val {ds : List Dc} {ns : List Nd} {ins : List (List Int)} {NV : Nat → Nat → Int} (hM : Meant ds ns ins NV) {k : Nat} {X Y : Nat → Int}
    (hY : k ≠ 0 → ∀ c, c < ns.length → Y c = NV (k - 1) c) (hpb : ∀ n ∈ ns, n.b < ns.length) {i : Nat} (hi : i < ns.length) (hp : ∀ c, c < ns.length → dlAt ns c = false → X c = NV k c) (hq : ∀ c, i < c → c < ns.length → X c = NV k c) : valF ds ins (ns[i]'hi) k X Y = NV k i := by
  have hn : ns[i]? = some (ns[i]'hi) := List.getElem?_eq_getElem hi
  obtain ⟨a, d, hd, hk, h1, h2⟩ := hM.cover i hi
  rw [hM.val i _ hn k]
  refine val_congr (fun c hc => ?_) (fun k2 hz => ?_) (fun k5 h0 => hY h0 _ (hpb _ (List.getElem_mem hi)))
  · obtain ⟨g1, g2, g3⟩ := hM.kids a d hd hk i _ hn h1 h2 c hc
    have := (hM.segs a d hd hk).2
    exact hq c g1 (by omega)
  · obtain ⟨dd1, dd2⟩ := hM.decl _ (List.getElem_mem hi) k2
    have hlt : (ns[i]'hi).decl.toNat < ds.length := by omega
    have hdb : ds[(ns[i]'hi).decl.toNat]? = some (ds[(ns[i]'hi).decl.toNat]'hlt) := List.getElem?_eq_getElem hlt
    have e1 : kindAt ds (ns[i]'hi).decl = (ds[(ns[i]'hi).decl.toNat]'hlt).kind := by unfold kindAt; rw [List.getD_eq_getElem?_getD, hdb]; rfl
    have e2 : rootAt ds (ns[i]'hi).decl = (ds[(ns[i]'hi).decl.toNat]'hlt).root := by unfold rootAt; rw [List.getD_eq_getElem?_getD, hdb]; rfl
    rw [e1] at hz
    rw [e2]
    obtain ⟨r1, r2⟩ := hM.root _ _ hdb hz
    exact hp _ r1 r2
theorem ready_any (w : World) (g r n ch cd : Nat) (H D : Nat → Bool) (hg : w.rowIs g 4 n (fun j => .bool (H j))) (hr : w.rowIs r 4 n (fun j => .bool (D j))) (hn : n ≤ 1501) :
    Calls Try.prog 98 #[.slice (some ⟨g, 0, none⟩) n ch, .slice (some ⟨r, 0, none⟩) n cd] w fun e w' => e = .returned (.bool (decide (∀ j, j < n → H j = true → D j = true))) ∧ w = w' := by
  go_enter Try.func98, Try.ntmps98
  go_wp2
  go_loopw [9] (fun vi wr => ∃ i : Nat, i ≤ n ∧ vi = .int .i64 i ∧ w = wr ∧ ∀ j, j < i → H j = true → D j = true) (fun vi _ => n - (intOf vi).toNat)
  case atStart => exact ⟨0, Nat.zero_le _, rfl, rfl, fun j hj => by omega⟩
  case round =>
    obtain ⟨i, hi, rfl, rfl, hall⟩ := hrel
    by_cases hlt : i < n
    · have x1 := hg.cell hlt
      have x2 := hr.cell hlt
      have j1 : (0 : Int) ≤ (i : Int) := by omega
      have j2 : (i : Int) < (n : Int) := by omega
      have HALL := hide hall
      clear hall
      by_cases hh : H i = true
      · by_cases hd : D i = true
        · go_wp2
          go_roundw
          case rel => exact ⟨i + 1, by omega, by go_num, by first | rfl | trivial, fun j hj h => by rcases Nat.lt_succ_iff_lt_or_eq.1 hj with h' | rfl; exact HALL.out j h' h; exact hd⟩
          case measure => simp [intOf]; omega
        · have hd' : D i = false := by simpa using hd
          have HF : Hid (decide (∀ j, j < n → H j = true → D j = true) = false) := hide (by rw [decide_eq_false_iff_not]; exact fun h => hd (h i hlt hh))
          clear hd
          go_wp2
          go_ret
          exact ⟨by rw [HF.out]; rfl, rfl⟩
      · have hh' : H i = false := by simpa using hh
        have HNO := hide hh
        clear hh
        go_wp2
        go_roundw
        case rel => exact ⟨i + 1, by omega, by go_num, by first | rfl | trivial, fun j hj h => by rcases Nat.lt_succ_iff_lt_or_eq.1 hj with h' | rfl; exact HALL.out j h' h; exact absurd h HNO.out⟩
        case measure => simp [intOf]; omega
    · have HF : Hid (decide (∀ j, j < n → H j = true → D j = true) = true) := hide (by rw [decide_eq_true_iff]; exact fun j hj => hall j (by omega))
      clear hall
      go_wp2
      go_ret
      exact ⟨by rw [HF.out]; rfl, rfl⟩
end Go.Proofs.Ytmndgoapkmhglab
namespace Go.Proofs.Ytmndgoapkmhglab
open Go.ChangeShapes Go.WideShapes Go.RowKit Go.Deep
theorem Try.cellsInts : Try.prog.cellsOf 38 = 1 := by kernel_rfl
theorem Try.cellsInt : Try.prog.cellsOf 3 = 1 := by kernel_rfl
theorem Try.bytesInts : Try.prog.bytesOf 38 = 24 := by kernel_rfl
theorem Try.bytesInt : Try.prog.bytesOf 3 = 8 := by kernel_rfl
theorem Try.laidOut : laidOutB Try.prog = true := by kernel_rfl
theorem plain_add (b o r : Nat) : (⟨b, o, none⟩ : Addr).add r = ⟨b, o + r, none⟩ := Addr.add_lit b o r
theorem spot_none {w : World} {a : Addr} {v : Value} (h : w.cell? (a.add 0) = some v) : a.spot = none := by
  obtain ⟨b, o, sp⟩ := a
  simpa [Addr.add] using World.cell?_spot h
theorem weights_all {H : Type} {P : Program} {e : TypeId} {d : DataW H} : ∀ (l : List (DataW H)), d ∈ l → ∀ n ∈ d.weights P e, n ∈ DataW.weightsAll P e l := by
  intro l
  induction l with
  | nil => intro h; simp at h
  | cons x r ih =>
    intro h n hn
    simp only [DataW.weightsAll, List.mem_append]
    rcases List.mem_cons.1 h with rfl | h
    · exact .inl hn
    · exact .inr (ih h n hn)
set_option maxRecDepth 100000 in
theorem open_lists {H : Type} {enc : TypeId × Value → H} {W : World} {A0 : Option Addr} {len0 cap0 : Nat} {d : DataW H} {ps : List MemPlace} (h : DataW.Trod enc Try.prog W 0 (fun _ => true) true 31 (.slice A0 len0 cap0) d ps)
    (hw : ∀ n ∈ d.weights Try.prog 31, n ≤ reachBytes) :
    ∃ (ins : List (List Int)) (AS : Nat → Option Addr) (CS : Nat → Nat), len0 = ins.length ∧ ArgL W A0 cap0 ins AS CS ∧ ∀ l ∈ ins, ∀ x ∈ l, (Lit.int .i64 x).wf = true := by
  obtain ⟨fuel, hf⟩ := h
  have hrb : reachBytes = 140737488351232 := rfl
  rcases open_int_rows Try.underlying31 Try.underlying38 Try.underlying3 Try.cellsInts Try.cellsInt hf with ⟨hcs, hx⟩ | ⟨a, len, cap, A, L, C, Z, hcs, _, hl, hm, hx, hrows⟩
  · simp [Value.cells] at hcs
    obtain ⟨rfl, rfl, rfl⟩ := hcs
    exact ⟨[], fun _ => none, fun _ => 0, rfl, ⟨by simp, fun _ => rfl, fun hp => by simp at hp, fun r hr => by simp at hr, fun r hr => by simp at hr⟩, fun l hl => by simp at hl⟩
  · simp [Value.cells] at hcs
    obtain ⟨rfl, rfl, rfl⟩ := hcs
    simp only [Prod.mk.injEq] at hx
    obtain ⟨rfl, rfl⟩ := hx
    have hsz : (len0 + (cap0 - len0)) * 24 ≤ reachBytes := by
      have := hw ((len0 + (cap0 - len0)) * 24) (by simp [DataW.weights, Try.underlying31, Try.bytesInts])
      exact this
    have hrow : ∀ r, r < len0 → (A r ≠ none → C r * 8 ≤ reachBytes) := fun r hr hne => by
      obtain ⟨_, h1, _, h2, _, h3, _⟩ := hrows r (by omega)
      refine hw _ ?_
      simp only [DataW.weights, Try.underlying31, List.mem_cons, List.mem_append]
      refine .inr (.inl (weights_all (d := intRow .i64 (A r) (L r) (Z r)) _ (List.mem_map.2 ⟨r, List.mem_range.2 hr, rfl⟩) _ ?_))
      cases hA : A r with
      | none => exact absurd hA hne
      | some a' =>
        simp only [intRow, DataW.weights, Try.underlying38, List.mem_cons]
        refine .inl ?_
        rw [Try.bytesInt]
        simp [lits]
        omega
    have hLl : ∀ r, r < len0 → ((Z r).take (L r)).length = L r := fun r hr => by
      obtain ⟨_, h1, _, h2, _⟩ := hrows r (by omega)
      rw [List.length_take]; omega
    have hget : ∀ r, (hr : r < ((List.range len0).map fun r => (Z r).take (L r)).length) → ((List.range len0).map fun r => (Z r).take (L r))[r] = (Z r).take (L r) := fun r hr => by simp
    refine ⟨(List.range len0).map fun r => (Z r).take (L r), A, C, by simp, ⟨by simp; omega, fun h => (by cases h), fun hp => ?_, fun r hr => ?_, fun r hr => ?_⟩, fun l hl x hx => ?_⟩
    · simp at hp
      obtain ⟨b, o, sp⟩ := a
      have hs : sp = none := spot_none (hrows 0 (by omega)).1
      subst hs
      refine ⟨b, o, rfl, ?_, fun r hr => ?_⟩
      · have := World.block_lt_of_cell? _ _ (hrows 0 (by omega)).1
        simpa [Addr.add] using this
      · have hr' : r < len0 := by simpa using hr
        rw [hget r hr, hLl r hr', ← plain_add]
        exact (hrows r (by omega)).1
    · have hr' : r < len0 := by simpa using hr
      obtain ⟨_, h1, _, h2, _, h3, h4⟩ := hrows r (by omega)
      rw [hget r hr]
      have hCr : A r = none ∨ C r * 8 ≤ reachBytes := by
        by_cases hA : A r = none
        · exact .inl hA
        · exact .inr (hrow r hr' hA)
      refine ⟨⟨A r, C r, by rw [hLl r hr'], ?_, fun hp => ?_⟩, fun hA => ?_, ?_⟩
      · rw [hLl r hr']
        rcases hCr with hA | hC
        · have := h3 hA; omega
        · omega
      · rw [hLl r hr'] at hp
        cases hA : A r with
        | none => have := h3 hA; omega
        | some a' =>
          obtain ⟨_, hcell⟩ := h4 a' hA
          obtain ⟨b, o, sp⟩ := a'
          have hs : sp = none := spot_none (hcell 0 (by omega))
          subst hs
          refine ⟨b, o, rfl, ?_, fun c hc => ?_⟩
          · have := World.block_lt_of_cell? _ _ (hcell 0 (by omega))
            simpa [Addr.add] using this
          · rw [hLl r hr'] at hc
            rw [← plain_add, hcell c (by omega)]
            simp [List.getElem_take, List.getD_eq_getElem?_getD, List.getElem?_eq_getElem (show c < (Z r).length by omega)]
      · have := h3 hA
        rw [List.eq_nil_iff_length_eq_zero, hLl r hr']
        omega
      · rw [hLl r hr']
        rcases hCr with hA | hC
        · have := h3 hA; omega
        · omega
    · have hr' : r < len0 := by simpa using hr
      rw [hget r hr, hLl r hr']
      exact (hrows r (by omega)).2.1
    · obtain ⟨r, hr, rfl⟩ := List.mem_map.1 hl
      obtain ⟨_, _, _, _, h5, _⟩ := hrows r (by have := List.mem_range.1 hr; omega)
      exact h5 x (List.mem_of_mem_take hx)
section
variable {H : Type} {enc : TypeId × Value → H} {P : Program} {w : World} {base : Nat} {spare : Nat → Bool} {held : Bool}
theorem trod_four {t t0 t1 t2 t3 : TypeId} {fs : Array Field} {fuel : Nat} {cs : List Value} {x : DataW H × List MemPlace} (hu : P.underlying t = some (.struct fs)) (hf : fs.toList.map (fun f => (f.type, f.offset)) = [(t0, 0), (t1, 1), (t2, 2), (t3, 3)]) (hc : P.cellsOf t = 4)
    (c0 : P.cellsOf t0 = 1) (c1 : P.cellsOf t1 = 1) (c2 : P.cellsOf t2 = 1) (c3 : P.cellsOf t3 = 1) (h : DataW.trod enc P w base spare held fuel t cs = some x) :
    ∃ v0 v1 v2 v3 y0 y1 y2 y3 n, cs = [v0, v1, v2, v3] ∧ x.1 = .agg [y0.1, y1.1, y2.1, y3.1] ∧ DataW.trod enc P w base spare held n t0 [v0] = some y0 ∧ DataW.trod enc P w base spare held n t1 [v1] = some y1 ∧ DataW.trod enc P w base spare held n t2 [v2] = some y2 ∧ DataW.trod enc P w base spare held n t3 [v3] = some y3 ∧
      ∀ m, (m ∈ y0.1.weights P t0 ∨ m ∈ y1.1.weights P t1 ∨ m ∈ y2.1.weights P t2 ∨ m ∈ y3.1.weights P t3) → m ∈ x.1.weights P t := by
  obtain ⟨xs, n, _, rfl, hl, hlen, hg⟩ := DataW.trod_struct hu h
  obtain ⟨f0, r0, q0, e0, hf⟩ := List.map_eq_cons_iff.1 hf
  obtain ⟨f1, r1, rfl, e1, hf⟩ := List.map_eq_cons_iff.1 hf
  obtain ⟨f2, r2, rfl, e2, hf⟩ := List.map_eq_cons_iff.1 hf
  obtain ⟨f3, r3, rfl, e3, hf⟩ := List.map_eq_cons_iff.1 hf
  have hr := List.map_eq_nil_iff.1 hf
  subst hr
  simp only [Prod.mk.injEq] at e0 e1 e2 e3
  obtain ⟨rfl, o0⟩ := e0
  obtain ⟨rfl, o1⟩ := e1
  obtain ⟨rfl, o2⟩ := e2
  obtain ⟨rfl, o3⟩ := e3
  have hfs : fs = #[f0, f1, f2, f3] := by cases fs; simp_all
  subst hfs
  rw [hc] at hl
  match xs, hlen, cs, hl with
  | [y0, y1, y2, y3], _, [v0, v1, v2, v3], _ =>
    have g0 := hg 0 f0 rfl
    have g1 := hg 1 f1 rfl
    have g2 := hg 2 f2 rfl
    have g3 := hg 3 f3 rfl
    simp [o0, o1, o2, o3, c0, c1, c2, c3] at g0 g1 g2 g3
    refine ⟨v0, v1, v2, v3, y0, y1, y2, y3, n, rfl, rfl, g0, g1, g2, g3, fun m hm => ?_⟩
    simp only [List.map_cons, List.map_nil, DataW.weights, hu, DataW.weightsEach, List.mem_append, List.not_mem_nil, or_false]
    exact hm
end
end Go.Proofs.Ytmndgoapkmhglab
