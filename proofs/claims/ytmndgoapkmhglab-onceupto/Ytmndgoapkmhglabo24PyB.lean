import Derived.Deep.OwnRows
import Derived.Test.Ytmndgoapkmhglabo00Base
import Derived.Test.Ytmndgoapkmhglabo06Dec
import Derived.Test.Ytmndgoapkmhglabo07PlyP
import Derived.Test.Ytmndgoapkmhglabo08ParB
import Derived.Test.Ytmndgoapkmhglabo23JudI
namespace Go.Proofs.Ytmndgoapkmhglab
open Go.RowKit
def pCells (l : List Nat) : List Value := l.map fun (n : Nat) => Value.int .i64 (n : Int)
theorem pCells_snoc (l : List Nat) (n : Nat) : pCells (l ++ [n]) = pCells l ++ [.int .i64 (n : Int)] := by simp [pCells]
theorem Try.infoInt : (Try.prog.info? 3).map (fun i => (i.zero, i.size, i.bytes)) = some (some (.int .i64 0), 1, 8) := by kernel_rfl
structure WrF where
  src : Int
  dst : Int
  full : Bool
  unt : Bool
  comes : Int
  known : Int
def WrF.cell (x : WrF) : Nat → Value
  | 0 => .int .i64 x.src
  | 1 => .int .i64 x.dst
  | 2 => .bool x.full
  | 3 => .bool x.unt
  | 4 => .int .i64 x.comes
  | _ => .int .i64 x.known
def Wires (w : World) (g n : Nat) (F : Nat → WrF) : Prop := ∃ m f, w.rowIs g 141 m f ∧ ∀ l, l < n → ∀ j, j < 6 → l * 6 + j < m ∧ f (l * 6 + j) = (F l).cell j
theorem Wires.lt {w : World} {g n : Nat} {F : Nat → WrF} (h : Wires w g n F) : g < w.heap.size := by obtain ⟨m, f, h1, _⟩ := h; exact h1.lt
theorem Wires.froz {w : World} {g n : Nat} {F : Nat → WrF} (h : Wires w g n F) (i : Nat) : w.frozen? ⟨g, i, none⟩ = false := by obtain ⟨m, f, h1, _⟩ := h; exact h1.frozen i
theorem Wires.cell {w : World} {g n : Nat} {F : Nat → WrF} (h : Wires w g n F) {l : Nat} (hl : l < n) {j : Nat} (hj : j < 6) : w.cell? ⟨g, l * 6 + j, none⟩ = some ((F l).cell j) := by
  obtain ⟨m, f, h1, h2⟩ := h
  obtain ⟨h3, h4⟩ := h2 l hl j hj
  rw [h1.cell h3, h4]
theorem Wires.cells {w : World} {g n : Nat} {F : Nat → WrF} (h : Wires w g n F) {l : Nat} (hl : l < n) : w.cell? ⟨g, l * 6, none⟩ = some (.int .i64 (F l).src) ∧ w.cell? ⟨g, l * 6 + 1, none⟩ = some (.int .i64 (F l).dst) ∧ w.cell? ⟨g, l * 6 + 2, none⟩ = some (.bool (F l).full) ∧ w.cell? ⟨g, l * 6 + 3, none⟩ = some (.bool (F l).unt) ∧ w.cell? ⟨g, l * 6 + 4, none⟩ = some (.int .i64 (F l).comes) ∧ w.cell? ⟨g, l * 6 + 5, none⟩ = some (.int .i64 (F l).known) :=
  ⟨h.cell hl (j := 0) (by omega), h.cell hl (j := 1) (by omega), h.cell hl (j := 2) (by omega), h.cell hl (j := 3) (by omega), h.cell hl (j := 4) (by omega), h.cell hl (j := 5) (by omega)⟩
theorem Wires.of_block {w w' : World} {g n : Nat} {F : Nat → WrF} (h : Wires w g n F) (e : w'.heap[g]? = w.heap[g]?) : Wires w' g n F := by
  obtain ⟨m, f, h1, h2⟩ := h
  exact ⟨m, f, h1.of_block e, h2⟩
theorem Wires.set {w : World} {g n : Nat} {F F' : Nat → WrF} (h : Wires w g n F) {l j : Nat} (hj : j < 6) (v : Value) (hF : ∀ l', l' < n → ∀ j', j' < 6 → (F' l').cell j' = if l' = l ∧ j' = j then v else (F l').cell j') : Wires (w.setCell ⟨g, l * 6 + j, none⟩ v) g n F' := by
  obtain ⟨m, f, h1, h2⟩ := h
  refine ⟨m, _, h1.set (l * 6 + j) v, fun l' hl' j' hj' => ⟨(h2 l' hl' j' hj').1, ?_⟩⟩
  rw [hF l' hl' j' hj']
  show (if l' * 6 + j' = l * 6 + j then v else f (l' * 6 + j')) = _
  by_cases e : l' = l ∧ j' = j
  · rw [if_pos e, if_pos (by obtain ⟨rfl, rfl⟩ := e; rfl)]
  · rw [if_neg e, if_neg (by omega), (h2 l' hl' j' hj').2]
theorem Wires.congr {w : World} {g n : Nat} {F F' : Nat → WrF} (h : Wires w g n F) (e : ∀ l, l < n → F l = F' l) : Wires w g n F' := by
  obtain ⟨m, f, h1, h2⟩ := h
  exact ⟨m, f, h1, fun l hl j hj => by rw [← e l hl]; exact h2 l hl j hj⟩
def scF (vE vV vW : Value) (nx : Nat → Nat) (hd : Nat → Bool) : Nat → Value
  | 0 => vE
  | 1 => vV
  | 2 => vW
  | i + 3 => if i % 2 = 0 then .int .i64 ((nx (i / 2) : Nat) : Int) else .bool (hd (i / 2))
structure Scn (w : World) (X : Nat → Prop) (b : Nat) (aW : Option Addr) (n cW : Nat) (vE vV : Value) (F : Nat → WrF) (nx : Nat → Nat) (hd : Nat → Bool) : Prop where
  row : w.rowIs b 139 11 (scF vE vV (.slice aW n cW) nx hd)
  wi : 0 < n → ∃ g, aW = some ⟨g, 0, none⟩ ∧ Wires w g n F ∧ b ≠ g
  xb : ¬ X b
  xg : ∀ g, aW = some ⟨g, 0, none⟩ → ¬ X g
  xl : ∀ k, X k → k < w.heap.size
  few : n ≤ 6100
  az : n = 0 → aW = none
def scX (X : Nat → Prop) (b : Nat) (aW : Option Addr) (k : Nat) : Prop := X k ∨ k = b ∨ aW = some ⟨k, 0, none⟩
section
variable {w w' : World} {X : Nat → Prop} {b : Nat} {aW : Option Addr} {n cW : Nat} {vE vV : Value} {F : Nat → WrF} {nx : Nat → Nat} {hd : Nat → Bool}
theorem Scn.lt (h : Scn w X b aW n cW vE vV F nx hd) : b < w.heap.size := h.row.lt
theorem Scn.c0 (h : Scn w X b aW n cW vE vV F nx hd) : w.cell? ⟨b, 0, none⟩ = some vE := h.row.cell (i := 0) (by omega)
theorem Scn.c1 (h : Scn w X b aW n cW vE vV F nx hd) : w.cell? ⟨b, 1, none⟩ = some vV := h.row.cell (i := 1) (by omega)
theorem Scn.c2 (h : Scn w X b aW n cW vE vV F nx hd) : w.cell? ⟨b, 2, none⟩ = some (.slice aW n cW) := h.row.cell (i := 2) (by omega)
theorem Scn.cn (h : Scn w X b aW n cW vE vV F nx hd) {p : Nat} (hp : p < 4) : w.cell? ⟨b, 3 + p * 2, none⟩ = some (.int .i64 ((nx p : Nat) : Int)) := by
  rw [h.row.cell (i := 3 + p * 2) (by omega), Nat.add_comm]
  show some (if p * 2 % 2 = 0 then _ else _) = _
  rw [if_pos (by omega), Nat.mul_div_cancel _ (by omega)]
theorem Scn.ch (h : Scn w X b aW n cW vE vV F nx hd) {p : Nat} (hp : p < 4) : w.cell? ⟨b, 3 + p * 2 + 1, none⟩ = some (.bool (hd p)) := by
  rw [h.row.cell (i := 3 + p * 2 + 1) (by omega), show 3 + p * 2 + 1 = (p * 2 + 1) + 3 by omega]
  show some (if (p * 2 + 1) % 2 = 0 then _ else _) = _
  rw [if_neg (by omega), show (p * 2 + 1) / 2 = p by omega]
theorem Scn.froz (h : Scn w X b aW n cW vE vV F nx hd) (i : Nat) : w.frozen? ⟨b, i, none⟩ = false := h.row.frozen i
theorem Scn.fr (h : Scn w X b aW n cW vE vV F nx hd) (hf : Fr (scX X b aW) w w') : Scn w' X b aW n cW vE vV F nx hd :=
  ⟨h.row.of_block (hf.block b (.inr (.inl rfl))), fun hp => by
    obtain ⟨g, e, h1, h2⟩ := h.wi hp
    exact ⟨g, e, h1.of_block (hf.block g (.inr (.inr e))), h2⟩, h.xb, h.xg, fun k hk => Nat.lt_of_lt_of_le (h.xl k hk) hf.size, h.few, h.az⟩
theorem Scn.sl (h : Scn w X b aW n cW vE vV F nx hd) : ∀ k, scX X b aW k → k < w.heap.size := by
  rintro k (hk | rfl | hk)
  · exact h.xl k hk
  · exact h.lt
  · rcases Nat.eq_zero_or_pos n with hn | hp
    rotate_left
    · obtain ⟨g, e, h1, _⟩ := h.wi hp
      rw [e] at hk
      cases hk
      exact h1.lt
    · rw [h.az hn] at hk; cases hk
theorem Scn.grown (h : Scn w X b aW n cW vE vV F nx hd) {ob : Option Nat} (hg : w.grownBy w' ob) (hk : ∀ k, ob = some k → ¬ scX X b aW k) : Scn w' X b aW n cW vE vV F nx hd ∧ Fr X w w' := by
  have hf : Fr (scX X b aW) w w' := ⟨hg.os, hg.tape, hg.output, hg.size, fun k hx => hg.block k (h.sl k hx) (fun e => hk k e.symm hx)⟩
  exact ⟨h.fr hf, hf.mono fun k hx => .inl hx⟩
theorem Scn.below (h : Scn w X b aW n cW vE vV F nx hd) (hb : Below w.heap.size w w') : Scn w' X b aW n cW vE vV F nx hd :=
  ⟨h.row.of_block (hb.block b h.lt), fun hp => by
    obtain ⟨g, e, h1, h2⟩ := h.wi hp
    exact ⟨g, e, h1.of_block (hb.block g h1.lt), h2⟩, h.xb, h.xg, fun k hk => Nat.lt_of_lt_of_le (h.xl k hk) hb.size, h.few, h.az⟩
theorem Scn.more (h : Scn w X b aW n cW vE vV F nx hd) {Y : Nat → Prop} (h1 : ¬ Y b) (h2 : ∀ g, aW = some ⟨g, 0, none⟩ → ¬ Y g) (h3 : ∀ k, Y k → k < w.heap.size) : Scn w Y b aW n cW vE vV F nx hd := ⟨h.row, h.wi, h1, h2, h3, h.few, h.az⟩
theorem Scn.congr (h : Scn w X b aW n cW vE vV F nx hd) {F' : Nat → WrF} {nx' : Nat → Nat} {hd' : Nat → Bool} (e : ∀ l, l < n → F l = F' l) (e1 : ∀ p, p < 4 → nx p = nx' p) (e2 : ∀ p, p < 4 → hd p = hd' p) : Scn w X b aW n cW vE vV F' nx' hd' := by
  refine ⟨h.row.congr fun i hi => ?_, fun hp => ?_, h.xb, h.xg, h.xl, h.few, h.az⟩
  · match i, hi with
    | 0, _ => rfl
    | 1, _ => rfl
    | 2, _ => rfl
    | i + 3, hi =>
      show (if i % 2 = 0 then _ else _) = (if i % 2 = 0 then _ else _)
      rw [e1 (i / 2) (by omega), e2 (i / 2) (by omega)]
  · obtain ⟨g, e3, h1, h2⟩ := h.wi hp
    exact ⟨g, e3, h1.congr e, h2⟩
theorem Scn.setW (h : Scn w X b aW n cW vE vV F nx hd) {F' : Nat → WrF} {g l j : Nat} (hg : aW = some ⟨g, 0, none⟩) (hl : l < n) (hj : j < 6) (v : Value) (hF : ∀ l', l' < n → ∀ j', j' < 6 → (F' l').cell j' = if l' = l ∧ j' = j then v else (F l').cell j') :
    Scn (w.setCell ⟨g, l * 6 + j, none⟩ v) X b aW n cW vE vV F' nx hd := by
  obtain ⟨g', e, h1, h2⟩ := h.wi (by omega)
  have eg : g' = g := by rw [hg] at e; cases e; rfl
  subst eg
  exact ⟨h.row.setOther (a := ⟨g', l * 6 + j, none⟩) h2 v, fun _ => ⟨g', e, h1.set hj v hF, h2⟩, h.xb, h.xg, fun k hk => by simpa using h.xl k hk, h.few, h.az⟩
theorem Scn.setN (h : Scn w X b aW n cW vE vV F nx hd) {p : Nat} (hp : p < 4) (x : Nat) : Scn (w.setCell ⟨b, 3 + p * 2, none⟩ (.int .i64 (x : Int))) X b aW n cW vE vV F (fun q => if q = p then x else nx q) hd := by
  refine ⟨(h.row.set (3 + p * 2) _).congr fun i hi => ?_, fun hq => ?_, h.xb, h.xg, fun k hk => by simpa using h.xl k hk, h.few, h.az⟩
  · match i, hi with
    | 0, _ => rw [if_neg (by omega)]; rfl
    | 1, _ => rw [if_neg (by omega)]; rfl
    | 2, _ => rw [if_neg (by omega)]; rfl
    | i + 3, hi =>
      show _ = if i % 2 = 0 then Value.int .i64 (((if i / 2 = p then x else nx (i / 2)) : Nat) : Int) else _
      by_cases e : i + 3 = 3 + p * 2
      · rw [if_pos e, if_pos (by omega), if_pos (by omega)]
      · rw [if_neg e]
        show (if i % 2 = 0 then _ else _) = _
        by_cases e2 : i % 2 = 0
        · rw [if_pos e2, if_pos e2, if_neg (by omega)]
        · rw [if_neg e2, if_neg e2]
  · obtain ⟨g, e, h1, h2⟩ := h.wi hq
    exact ⟨g, e, h1.of_block (heap_setCell_other w ⟨b, _, none⟩ g _ (Ne.symm h2)), h2⟩
theorem Scn.setH (h : Scn w X b aW n cW vE vV F nx hd) {p : Nat} (hp : p < 4) (x : Bool) : Scn (w.setCell ⟨b, 3 + p * 2 + 1, none⟩ (.bool x)) X b aW n cW vE vV F nx (fun q => if q = p then x else hd q) := by
  refine ⟨(h.row.set (3 + p * 2 + 1) _).congr fun i hi => ?_, fun hq => ?_, h.xb, h.xg, fun k hk => by simpa using h.xl k hk, h.few, h.az⟩
  · match i, hi with
    | 0, _ => rw [if_neg (by omega)]; rfl
    | 1, _ => rw [if_neg (by omega)]; rfl
    | 2, _ => rw [if_neg (by omega)]; rfl
    | i + 3, hi =>
      show _ = if i % 2 = 0 then _ else Value.bool (if i / 2 = p then x else hd (i / 2))
      by_cases e : i + 3 = 3 + p * 2 + 1
      · rw [if_pos e, if_neg (by omega), if_pos (by omega)]
      · rw [if_neg e]
        show (if i % 2 = 0 then _ else _) = _
        by_cases e2 : i % 2 = 0
        · rw [if_pos e2, if_pos e2]
        · rw [if_neg e2, if_neg e2, if_neg (by omega)]
  · obtain ⟨g, e, h1, h2⟩ := h.wi hq
    exact ⟨g, e, h1.of_block (heap_setCell_other w ⟨b, _, none⟩ g _ (Ne.symm h2)), h2⟩
end
def ActAt (w : World) (A : Nat) (o : OpF) : Prop := w.rowIs A 43 4 (fun i => if i = 0 then .int .i64 o.k else if i = 1 then .int .i64 o.a else if i = 2 then .int .i64 o.b else .int .i64 o.c)
theorem ActAt.cells {w : World} {A : Nat} {o : OpF} (h : ActAt w A o) : w.cell? ⟨A, 0, none⟩ = some (.int .i64 o.k) ∧ w.cell? ⟨A, 1, none⟩ = some (.int .i64 o.a) ∧ w.cell? ⟨A, 2, none⟩ = some (.int .i64 o.b) ∧ w.cell? ⟨A, 3, none⟩ = some (.int .i64 o.c) :=
  ⟨h.cell (i := 0) (by omega), h.cell (i := 1) (by omega), h.cell (i := 2) (by omega), h.cell (i := 3) (by omega)⟩
theorem ActAt.boxed (w : World) (o : OpF) : ActAt (w.alloc (.cells #[.int .i64 o.k, .int .i64 o.a, .int .i64 o.b, .int .i64 o.c] 43)) w.heap.size o :=
  World.rowIs_alloc w #[.int .i64 o.k, .int .i64 o.a, .int .i64 o.b, .int .i64 o.c] _ _ (fun i hi => by
    have : i < 4 := hi
    have : i = 0 ∨ i = 1 ∨ i = 2 ∨ i = 3 := by omega
    rcases this with rfl | rfl | rfl | rfl <;> rfl)
theorem cnt_len (P : PastF) (pl : Int) : cntF P pl 1 + cntF P pl 2 ≤ P.length := by
  refine past_ind (p := fun P => cntF P pl 1 + cntF P pl 2 ≤ P.length) (by simp [cntF]) (fun P x ih => ?_) P
  rw [cntF_snoc, cntF_snoc, List.length_append]
  have : (if isD pl 1 x = true then 1 else 0) + (if isD pl 2 x = true then 1 else 0) ≤ 1 := by
    unfold isD
    by_cases h1 : x.2.did = 1
    · rw [h1]; simp; split <;> omega
    · by_cases h2 : x.2.did = 2
      · rw [h2]; simp; split <;> omega
      · simp [h1, h2]
  simp
  omega
section
variable (N : List LnF) (V : Int → Nat → List Int) (sc : List OpF)
def pastI (i : Nat) : PastF := runG N V [] (sc.take i)
theorem past_succ {i : Nat} (hi : i < sc.length) : pastI N V sc (i + 1) = pastI N V sc i ++ [(sc[i], wakeF N V (pastI N V sc i) sc[i])] := by
  unfold pastI
  rw [List.take_succ_eq_append_getElem hi, run_app]
  rfl
theorem past_get {i : Nat} (hi : i < sc.length) : ((runG N V [] sc).map Prod.snd)[i]? = some (wakeF N V (pastI N V sc i) sc[i]) := by
  have e : runG N V [] sc = runG N V (pastI N V sc (i + 1)) (sc.drop (i + 1)) := by
    unfold pastI
    rw [← run_app, List.take_append_drop]
  obtain ⟨S, h1, _, _⟩ := run_ext N V (sc.drop (i + 1)) (pastI N V sc (i + 1))
  obtain ⟨S0, f1, f2, _⟩ := run_ext N V (sc.take i) []
  have hl : (pastI N V sc i).length = i := by
    unfold pastI
    rw [f1, List.nil_append, ← List.length_map (f := Prod.fst), f2, List.length_take]
    omega
  rw [e, h1, past_succ N V sc hi, List.map_append, List.map_append, List.append_assoc, List.getElem?_append_right (by rw [List.length_map, hl]; exact Nat.le_refl _), List.length_map, hl, Nat.sub_self]
  rfl
theorem past_len {i : Nat} (hi : i ≤ sc.length) : (pastI N V sc i).length = i := by
  obtain ⟨S0, f1, f2, _⟩ := run_ext N V (sc.take i) []
  unfold pastI
  rw [f1, List.nil_append, ← List.length_map (f := Prod.fst), f2, List.length_take]
  omega
variable {N} {sc}
theorem past_all (hA : Apart N) (hS : ActsOk sc) {i : Nat} (hi : i < sc.length) : PastOk N (pastI N V sc i) (sc[i]).a ∧ RunInv N (pastI N V sc i) := by
  have hg : (sc.take i).Pairwise (fun x y => x.a ≤ y.a ∧ (x.k = y.k → x.a + x.b < y.a ∧ x.a + x.c < y.a)) := List.Pairwise.sublist (List.take_sublist _ _) hS.gap
  have h := run_ind hA V (p := fun _ => True) (fun _ _ _ _ _ _ => trivial) (sc.take i) [] (fun x hx => hS.nn x (List.mem_of_mem_take hx)) (by simpa using hg) (fun t _ => past_start N t) (inv_start N) trivial
  refine ⟨h.2.2 _ (fun x hx => ?_), h.2.1⟩
  obtain ⟨S0, f1, f2, _⟩ := run_ext N V (sc.take i) []
  have hm : x.1 ∈ sc.take i := by rw [← f2, ← List.nil_append S0, ← f1]; exact List.mem_map.2 ⟨x, hx, rfl⟩
  obtain ⟨j, hj, e⟩ := List.getElem_of_mem hm
  rw [List.length_take] at hj
  rw [List.getElem_take] at e
  rw [← e]
  have hp := hS.gap
  rw [List.pairwise_iff_getElem] at hp
  exact (hp j i (by omega) hi (by omega)).1
end
def LkQ (s : ByteArray) (B : Nat) (w' : World) (v : Value) : Prop :=
  if (textF s).1 = 0 then ∀ L, RGood s L → ROk (toks s) L → w'.ownsRow B 89 3 v (routesR (toks s) L).length (rtCells (routesR (toks s) L)) else ∃ a cap, v = .slice a 0 cap
end Go.Proofs.Ytmndgoapkmhglab
namespace Go.Proofs.Ytmndgoapkmhglab
open Go.RowKit
attribute [local go_sem ↓] Go.wp_at_zero Go.wp_at_succ
set_option maxHeartbeats 2000000 in
set_option maxRecDepth 100000 in
theorem pfull_any {w : World} {X : Nat → Prop} {b : Nat} {aW : Option Addr} {n cW : Nat} {vE vV : Value} {F : Nat → WrF} {nx : Nat → Nat} {hd : Nat → Bool} (h : Scn w X b aW n cW vE vV F nx hd) (o : OpF) :
    Calls Try.prog 101 #[.pointer (some ⟨b, 0, none⟩), .agg #[.int .i64 o.k, .int .i64 o.a, .int .i64 o.b, .int .i64 o.c]] w fun e w' => e = .returned (.bool ((List.range n).all fun l => !decide ((F l).dst = o.k) || (F l).full)) ∧ Below w.heap.size w w' := by
  obtain ⟨w0, hw0⟩ : ∃ w0, w0 = w.alloc (.cells #[.int .i64 o.k, .int .i64 o.a, .int .i64 o.b, .int .i64 o.c] 43) := ⟨_, rfl⟩
  have hb0 : Below w.heap.size w w0 := by rw [hw0]; exact (Below.refl _ _).alloc (Nat.le_refl _) _
  have hA : ActAt w0 w.heap.size o := by rw [hw0]; exact ActAt.boxed w o
  have hs0 := h.below hb0
  have c2 := hs0.c2
  have hfew := h.few
  have HA := hide hA
  have HS := hide hs0
  have HB0 := hide hb0
  rw [hw0] at c2
  have HW0 := hide hw0
  clear hb0 hA hs0 h hw0
  go_enter Try.func101, Try.ntmps101
  go_wp2
  go_loopw [12] (fun vi wr => ∃ l : Nat, l ≤ n ∧ vi = .int .i64 l ∧ Below w0.heap.size w0 wr ∧ ((List.range l).all fun l => !decide ((F l).dst = o.k) || (F l).full) = true) (fun vi _ => n - (intOf vi).toNat)
  case atStart => exact ⟨0, Nat.zero_le _, rfl, by rw [HW0.out]; exact Below.refl _ _, rfl⟩
  case round =>
    obtain ⟨l, hl, rfl, hbr, hall⟩ := hrel
    have HAL := hide hall
    have HBR := hide hbr
    have HWR : Hid (Below w.heap.size w wr) := hide (HB0.out.trans (hbr.mono HB0.out.size))
    clear hall c2
    by_cases hil : l < n
    · obtain ⟨g, rfl, hW, hne⟩ := (HS.out.below hbr).wi (by omega)
      obtain ⟨x0, x1, x2, x3, x4, x5⟩ := hW.cells hil
      have k0 : ∀ u, (wr.alloc u).cell? ⟨w.heap.size, 0, none⟩ = some (.int .i64 o.k) := fun u => (((hbr.alloc hbr.size u).cell (p := ⟨w.heap.size, 0, none⟩) HA.out.lt).trans HA.out.cells.1)
      have j3 : (0 : Int) ≤ (l : Int) := by omega
      have j4 : (l : Int) < (n : Int) := by omega
      have HST := hide (@all_step l (fun l => !decide ((F l).dst = o.k) || (F l).full) HAL.out)
      have HFL : Hid ((!decide ((F l).dst = o.k) || (F l).full) = false → ((List.range n).all fun l => !decide ((F l).dst = o.k) || (F l).full) = false) := hide (fun e => all_fail hil e)
      clear hW hbr
      obtain ⟨p1, hp1⟩ : ∃ p1, ((F l).dst == o.k) = p1 := ⟨_, rfl⟩
      have hd1 : decide ((F l).dst = o.k) = p1 := by rw [← hp1]; rfl
      rw [hd1] at HST HFL
      clear hd1
      cases p1 with
      | false =>
        go_wp2
        go_roundw
        case rel => exact ⟨l + 1, by omega, by go_num, HBR.out.alloc HBR.out.size _, HST.out rfl⟩
        case measure => simp [intOf]; omega
      | true =>
        obtain ⟨fl, hfl⟩ : ∃ fl, (F l).full = fl := ⟨_, rfl⟩
        rw [hfl] at HST HFL x2
        clear hfl
        cases fl with
        | false =>
          go_wp2
          go_ret
          exact ⟨by rw [HFL.out rfl]; rfl, HWR.out.alloc HWR.out.size _⟩
        | true =>
          go_wp2
          go_roundw
          case rel => exact ⟨l + 1, by omega, by go_num, HBR.out.alloc HBR.out.size _, HST.out rfl⟩
          case measure => simp [intOf]; omega
    · have ek : l = n := by omega
      subst ek
      clear hbr
      go_wp2
      go_ret
      exact ⟨by rw [HAL.out]; rfl, HWR.out⟩
set_option maxHeartbeats 2000000 in
set_option maxRecDepth 100000 in
theorem pfree_any {w : World} {X : Nat → Prop} {b : Nat} {aW : Option Addr} {n cW : Nat} {vE vV : Value} {F : Nat → WrF} {nx : Nat → Nat} {hd : Nat → Bool} (h : Scn w X b aW n cW vE vV F nx hd) (o : OpF) :
    Calls Try.prog 103 #[.pointer (some ⟨b, 0, none⟩), .agg #[.int .i64 o.k, .int .i64 o.a, .int .i64 o.b, .int .i64 o.c]] w fun e w' => e = .returned (.bool ((List.range n).all fun l => !decide ((F l).src = o.k) || (!(F l).unt && decide ((F l).known ≤ o.a)))) ∧ Below w.heap.size w w' := by
  obtain ⟨w0, hw0⟩ : ∃ w0, w0 = w.alloc (.cells #[.int .i64 o.k, .int .i64 o.a, .int .i64 o.b, .int .i64 o.c] 43) := ⟨_, rfl⟩
  have hb0 : Below w.heap.size w w0 := by rw [hw0]; exact (Below.refl _ _).alloc (Nat.le_refl _) _
  have hA : ActAt w0 w.heap.size o := by rw [hw0]; exact ActAt.boxed w o
  have hs0 := h.below hb0
  have c2 := hs0.c2
  have hfew := h.few
  have HA := hide hA
  have HS := hide hs0
  have HB0 := hide hb0
  rw [hw0] at c2
  have HW0 := hide hw0
  clear hb0 hA hs0 h hw0
  go_enter Try.func103, Try.ntmps103
  go_wp2
  go_loopw [12] (fun vi wr => ∃ l : Nat, l ≤ n ∧ vi = .int .i64 l ∧ Below w0.heap.size w0 wr ∧ ((List.range l).all fun l => !decide ((F l).src = o.k) || (!(F l).unt && decide ((F l).known ≤ o.a))) = true) (fun vi _ => n - (intOf vi).toNat)
  case atStart => exact ⟨0, Nat.zero_le _, rfl, by rw [HW0.out]; exact Below.refl _ _, rfl⟩
  case round =>
    obtain ⟨l, hl, rfl, hbr, hall⟩ := hrel
    have HAL := hide hall
    have HBR := hide hbr
    have HWR : Hid (Below w.heap.size w wr) := hide (HB0.out.trans (hbr.mono HB0.out.size))
    clear hall c2
    by_cases hil : l < n
    · obtain ⟨g, rfl, hW, hne⟩ := (HS.out.below hbr).wi (by omega)
      obtain ⟨x0, x1, x2, x3, x4, x5⟩ := hW.cells hil
      have k0 : ∀ u, (wr.alloc u).cell? ⟨w.heap.size, 0, none⟩ = some (.int .i64 o.k) := fun u => (((hbr.alloc hbr.size u).cell (p := ⟨w.heap.size, 0, none⟩) HA.out.lt).trans HA.out.cells.1)
      have k1 : ∀ u, (wr.alloc u).cell? ⟨w.heap.size, 1, none⟩ = some (.int .i64 o.a) := fun u => (((hbr.alloc hbr.size u).cell (p := ⟨w.heap.size, 1, none⟩) HA.out.lt).trans HA.out.cells.2.1)
      have j3 : (0 : Int) ≤ (l : Int) := by omega
      have j4 : (l : Int) < (n : Int) := by omega
      have HST := hide (@all_step l (fun l => !decide ((F l).src = o.k) || (!(F l).unt && decide ((F l).known ≤ o.a))) HAL.out)
      have HFL : Hid ((!decide ((F l).src = o.k) || (!(F l).unt && decide ((F l).known ≤ o.a))) = false → ((List.range n).all fun l => !decide ((F l).src = o.k) || (!(F l).unt && decide ((F l).known ≤ o.a))) = false) := hide (fun e => all_fail hil e)
      clear hW hbr
      obtain ⟨p1, hp1⟩ : ∃ p1, ((F l).src == o.k) = p1 := ⟨_, rfl⟩
      have hd1 : decide ((F l).src = o.k) = p1 := by rw [← hp1]; rfl
      rw [hd1] at HST HFL
      clear hd1
      cases p1 with
      | false =>
        go_wp2
        go_roundw
        case rel => exact ⟨l + 1, by omega, by go_num, HBR.out.alloc HBR.out.size _, HST.out rfl⟩
        case measure => simp [intOf]; omega
      | true =>
        obtain ⟨fl, hfl⟩ : ∃ fl, (F l).unt = fl := ⟨_, rfl⟩
        rw [hfl] at HST HFL x3
        clear hfl
        cases fl with
        | true =>
          go_wp2
          go_ret
          exact ⟨by rw [HFL.out rfl]; rfl, HWR.out.alloc HWR.out.size _⟩
        | false =>
          by_cases hkn : (F l).known ≤ o.a
          · have hkn' : ¬ (F l).known > o.a := by omega
            rw [decide_eq_true hkn] at HST
            clear hkn HFL
            go_wp2
            go_roundw
            case rel => exact ⟨l + 1, by omega, by go_num, HBR.out.alloc HBR.out.size _, HST.out rfl⟩
            case measure => simp [intOf]; omega
          · have hkn' : (F l).known > o.a := by omega
            rw [decide_eq_false hkn] at HFL
            clear hkn HST
            go_wp2
            go_ret
            exact ⟨by rw [HFL.out rfl]; rfl, HWR.out.alloc HWR.out.size _⟩
    · have ek : l = n := by omega
      subst ek
      clear hbr
      go_wp2
      go_ret
      exact ⟨by rw [HAL.out]; rfl, HWR.out⟩
end Go.Proofs.Ytmndgoapkmhglab
