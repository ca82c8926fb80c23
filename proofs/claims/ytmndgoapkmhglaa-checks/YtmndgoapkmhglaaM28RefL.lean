import Derived.Test.YtmndgoapkmhglaaM17AstO
import Derived.Test.YtmndgoapkmhglaaM19ROkP
import Derived.Test.YtmndgoapkmhglaaM27RefG
namespace Go.Proofs.Ytmndgoapkmhglaa
open Go.RowKit
attribute [local go_sem ↓] Go.wp_at_zero Go.wp_at_succ

/-- a declaration as the document's own reader has it. -/
structure RDc where
  name : ByteArray
  tok : Nat
  input : Bool
  truth : Bool
  place : Nat
  body : Nat

def rdc (ts : List Tk) (x : Dl) : RDc := if x.kind = 0 then ⟨nameD ts x, x.i + 1, true, false, 0, 0⟩ else ⟨nameD ts x, x.i + 1, false, x.kind == 2, placeD ts x, x.i + 5⟩
def RDc.cells (d : RDc) : List Value := [.string d.name, .int .i64 (d.tok : Int), .bool d.input, .bool d.truth, .int .i64 (d.place : Int), .int .i64 (d.body : Int)]
def rdCells (l : List RDc) : List Value := l.flatMap RDc.cells
theorem rdCells_snoc (l : List RDc) (t : RDc) : rdCells (l ++ [t]) = rdCells l ++ t.cells := by simp [rdCells]
theorem rd_len (t : RDc) : t.cells.length = 6 := rfl

theorem Try.infoRDecl : (Try.prog.info? 138).map (fun i => (i.zero, i.size, i.bytes)) = some (some (.agg #[.string ⟨#[]⟩, .int .i64 0, .bool false, .bool false, .int .i64 0, .int .i64 0]), 6, 48) := by kernel_rfl

/-- a row in a program that is being laid. -/
structure Rw where
  v : Value
  e : Nat
  sz : Nat
  n : Nat
  xs : List Value

/-- a program that is being laid: its block, and its rows, each its own. -/
structure RPV (w : World) (B q : Nat) (vT : Value) (R : Nat → Rw) : Prop where
  lt : q < w.heap.size
  blk : w.heap[q]? = some (.cells #[vT, (R 1).v, (R 2).v, (R 3).v, (R 4).v] 135)
  own : ∀ f, w.ownsRow B (R f).e (R f).sz (R f).v (R f).n (R f).xs
  nq : ∀ f, (R f).v.ownBlock ≠ some q
  dis : ∀ f f' k, f ≠ f' → (R f).v.ownBlock = some k → (R f').v.ownBlock ≠ some k

theorem RPV.below {w w' : World} {B q : Nat} {vT : Value} {R : Nat → Rw} (h : RPV w B q vT R) (hb : Below w.heap.size w w') : RPV w' B q vT R :=
  ⟨Nat.lt_of_lt_of_le h.lt hb.size, (hb.block q h.lt).trans h.blk, fun f => bel_own (h.own f) hb, h.nq, h.dis⟩

def putR (R : Nat → Rw) (f : Nat) (r : Rw) : Nat → Rw := fun k => if k = f then r else R k

theorem putR_at (R : Nat → Rw) (f : Nat) (r : Rw) : putR R f r f = r := by unfold putR; rw [if_pos rfl]
theorem putR_ne (R : Nat → Rw) (f k : Nat) (r : Rw) (h : k ≠ f) : putR R f r k = R k := by unfold putR; rw [if_neg h]
theorem putR_put (R : Nat → Rw) (f : Nat) (r r' : Rw) : putR (putR R f r) f r' = putR R f r' := by funext k; unfold putR; split <;> rfl

theorem RPV.push {w w1 : World} {B q : Nat} {vT : Value} {R : Nat → Rw} (h : RPV w B q vT R) (f : Nat) (r : Rw) (hr : R f = r) (hf : 1 ≤ f ∧ f ≤ 4) {g cap n : Nat} {xs : List Value} (hgrow : w.grownBy w1 r.v.ownBlock)
    (hown : w1.ownsRow B r.e r.sz (.slice (some ⟨g, 0, none⟩) n cap) n xs) (hat : r.v.ownBlock = some g ∨ w.heap.size ≤ g) :
    RPV (w1.setCell ⟨q, f, none⟩ (.slice (some ⟨g, 0, none⟩) n cap)) B q vT (putR R f ⟨.slice (some ⟨g, 0, none⟩) n cap, r.e, r.sz, n, xs⟩) := by
  subst hr
  have gq : g ≠ q := by
    rcases hat with hg | hg
    · rintro rfl; exact h.nq f hg
    · have := h.lt; omega
  have hg2 : w1.grownBy (w1.setCell ⟨q, f, none⟩ (.slice (some ⟨g, 0, none⟩) n cap)) (some q) := ⟨rfl, rfl, rfl, by simp, fun k _ hk => heap_setCell_other w1 ⟨q, f, none⟩ k _ (fun e => hk (by simp [e]))⟩
  have hbb : w1.heap[q]? = w.heap[q]? := hgrow.block q h.lt (Ne.symm (h.nq f))
  have hnew : ∀ f', f' ≠ f → ∀ k, (R f').v.ownBlock = some k → k ≠ g := by
    intro f' hne k hk
    rcases hat with hg | hg
    · rintro rfl; exact h.dis f' f k hne hk hg
    · have := ((h.own f').lt k hk).2; omega
  refine ⟨?_, ?_, fun f' => ?_, fun f' => ?_, fun f1 f2 k hne => ?_⟩
  · have := hgrow.size; have := h.lt; simp; omega
  · rw [heap_setCell_same w1 q f _ _ _ (hbb.trans h.blk)]
    obtain ⟨h1, h4⟩ := hf
    have hc : f = 1 ∨ f = 2 ∨ f = 3 ∨ f = 4 := by omega
    rcases hc with rfl | rfl | rfl | rfl <;> rfl
  · unfold putR
    split
    · exact hown.kept hg2 (.inr (by simp [Value.ownBlock, gq]))
    · rename_i hne
      refine ((h.own f').kept hgrow ?_).kept hg2 (.inr (h.nq f'))
      cases hv : (R f').v.ownBlock with
      | none => exact .inl rfl
      | some k => exact .inr (fun e => h.dis f' f k hne hv e.symm)
  · unfold putR
    split
    · simp [Value.ownBlock, gq]
    · exact h.nq f'
  · unfold putR
    split
    · rename_i e1
      rw [if_neg (fun e2 => hne (e1.trans e2.symm))]
      intro hk h2
      have : g = k := by simpa [Value.ownBlock] using hk
      exact hnew f2 (fun e2 => hne (e1.trans e2.symm)) k h2 this.symm
    · rename_i e1
      intro hk
      split
      · intro h2
        have : g = k := by simpa [Value.ownBlock] using h2
        exact hnew f1 e1 k hk this.symm
      · exact h.dis f1 f2 k hne hk

def R0 : Nat → Rw := fun f => if f = 1 then ⟨.slice none 0 0, 3, 1, 0, []⟩ else ⟨.slice none 0 0, 138, 6, 0, []⟩

theorem R0_nil (f : Nat) : (putR R0 1 ⟨.slice none 0 0, 3, 1, 0, []⟩ f).v = .slice none 0 0 ∧ (putR R0 1 ⟨.slice none 0 0, 3, 1, 0, []⟩ f).n = 0 ∧ (putR R0 1 ⟨.slice none 0 0, 3, 1, 0, []⟩ f).xs = [] := by
  unfold putR R0
  split
  · exact ⟨rfl, rfl, rfl⟩
  · exact ⟨rfl, rfl, rfl⟩

/-- the rows of a program. -/
def RRw (n : Nat) (xs : List Value) (v vA vI vQ : Value) (A I Q : List RDc) : Nat → Rw := fun f =>
  if f = 1 then ⟨v, 3, 1, n, xs⟩ else if f = 2 then ⟨vA, 138, 6, A.length, rdCells A⟩ else if f = 3 then ⟨vI, 138, 6, I.length, rdCells I⟩
  else if f = 4 then ⟨vQ, 138, 6, Q.length, rdCells Q⟩ else ⟨.slice none 0 0, 138, 6, 0, []⟩
theorem RRw_put2 (n : Nat) (xs : List Value) (v vA vI vQ u : Value) (A I Q : List RDc) (d : RDc) : putR (RRw n xs v vA vI vQ A I Q) 2 ⟨u, 138, 6, A.length + 1, rdCells A ++ d.cells⟩ = RRw n xs v u vI vQ (A ++ [d]) I Q := by
  funext f; unfold putR RRw
  by_cases h : f = 2
  · subst h; simp [rdCells_snoc]
  · rw [if_neg h]; simp [h]
theorem RRw_put3 (n : Nat) (xs : List Value) (v vA vI vQ u : Value) (A I Q : List RDc) (d : RDc) : putR (RRw n xs v vA vI vQ A I Q) 3 ⟨u, 138, 6, I.length + 1, rdCells I ++ d.cells⟩ = RRw n xs v vA u vQ A (I ++ [d]) Q := by
  funext f; unfold putR RRw
  by_cases h : f = 3
  · subst h; simp [rdCells_snoc]
  · rw [if_neg h]; simp [h]
theorem RRw_put4 (n : Nat) (xs : List Value) (v vA vI vQ u : Value) (A I Q : List RDc) (d : RDc) : putR (RRw n xs v vA vI vQ A I Q) 4 ⟨u, 138, 6, Q.length + 1, rdCells Q ++ d.cells⟩ = RRw n xs v vA vI u A I (Q ++ [d]) := by
  funext f; unfold putR RRw
  by_cases h : f = 4
  · subst h; simp [rdCells_snoc]
  · rw [if_neg h]; simp [h]
theorem RRw_start (n : Nat) (xs : List Value) (v : Value) : putR R0 1 ⟨v, 3, 1, n, xs⟩ = RRw n xs v (.slice none 0 0) (.slice none 0 0) (.slice none 0 0) [] [] [] := by
  funext f; unfold putR R0 RRw
  by_cases h : f = 1
  · simp [h]
  · rw [if_neg h, if_neg h, if_neg h]
    by_cases h2 : f = 2
    · simp [h2, rdCells]
    · by_cases h3 : f = 3
      · simp [h3, rdCells]
      · by_cases h4 : f = 4
        · simp [h4, rdCells]
        · simp [h2, h3, h4]

/-- a program that is being laid, and a declaration in its box. -/
structure St (w0 W : World) (q N : Nat) (vT : Value) (R : Nat → Rw) (d : RDc) : Prop where
  rp : RPV W w0.heap.size q vT R
  blk : W.heap[N]? = some (.cells #[.string d.name, .int .i64 (d.tok : Int), .bool d.input, .bool d.truth, .int .i64 (d.place : Int), .int .i64 (d.body : Int)] 138)
  nq : N ≠ q
  nr : ∀ f, (R f).v.ownBlock ≠ some N
  bel : Below w0.heap.size w0 W
  q0 : w0.heap.size ≤ q

theorem St.push {w0 W w3 : World} {q N : Nat} {vT : Value} {R : Nat → Rw} {d : RDc} (h : St w0 W q N vT R d) (f : Nat) (r : Rw) (hr : R f = r) (hf : 1 ≤ f ∧ f ≤ 4) (o : Obj) {g cap n : Nat} {xs : List Value}
    (hgrow : (W.alloc o).drew.grownBy w3 r.v.ownBlock) (hown : w3.ownsRow w0.heap.size r.e r.sz (.slice (some ⟨g, 0, none⟩) n cap) n xs) (hat : r.v.ownBlock = some g ∨ g = W.heap.size + 1) :
    St w0 (w3.setCell ⟨q, f, none⟩ (.slice (some ⟨g, 0, none⟩) n cap)) q N vT (putR R f ⟨.slice (some ⟨g, 0, none⟩) n cap, r.e, r.sz, n, xs⟩) d := by
  have hlt : N < W.heap.size := by
    rcases Nat.lt_or_ge N W.heap.size with hl | hg
    · exact hl
    · have := h.blk; rw [Array.getElem?_eq_none hg] at this; cases this
  have hNr : r.v.ownBlock ≠ some N := hr ▸ h.nr f
  have hgN : g ≠ N := by
    rcases hat with hg | hg
    · rintro rfl; exact hNr hg
    · omega
  have hb : Below W.heap.size W (W.alloc o).drew := ((Below.refl _ _).alloc (Nat.le_refl _) o).drew
  have hsz : (W.alloc o).drew.heap.size = W.heap.size + 1 := by simp
  have hbe : ∀ k, r.v.ownBlock = some k → w0.heap.size ≤ k := fun k hk => ((hr ▸ h.rp.own f : W.ownsRow w0.heap.size r.e r.sz r.v r.n r.xs).lt k hk).1
  refine ⟨(h.rp.below hb).push f r hr hf hgrow hown (hat.imp id (fun e => by rw [hsz]; omega)), ?_, h.nq, fun f' => ?_, ?_, h.q0⟩
  · rw [heap_setCell_other w3 ⟨q, f, none⟩ N _ h.nq, hgrow.block N (by rw [hsz]; omega) (Ne.symm hNr)]
    rw [hb.block N hlt]; exact h.blk
  · unfold putR
    split
    · simp [Value.ownBlock, hgN]
    · exact h.nr f'
  · refine Below.setCell ?_ h.q0 _
    exact (h.bel.trans (hb.mono h.bel.size)).grown hgrow (by rw [hsz]; have := h.bel.size; omega) (fun j hj => hbe j hj)

theorem St.cells {w0 W : World} {q N : Nat} {vT : Value} {R : Nat → Rw} {d : RDc} (h : St w0 W q N vT R d) :
    N < W.heap.size ∧ q < W.heap.size ∧ (W.cell? ⟨N, 0, none⟩ = some (.string d.name) ∧ W.cell? ⟨N, 1, none⟩ = some (.int .i64 (d.tok : Int)) ∧ W.cell? ⟨N, 2, none⟩ = some (.bool d.input) ∧ W.cell? ⟨N, 3, none⟩ = some (.bool d.truth) ∧ W.cell? ⟨N, 4, none⟩ = some (.int .i64 (d.place : Int)) ∧ W.cell? ⟨N, 5, none⟩ = some (.int .i64 (d.body : Int))) := by
  have hlt : N < W.heap.size := by
    rcases Nat.lt_or_ge N W.heap.size with hl | hg
    · exact hl
    · have := h.blk; rw [Array.getElem?_eq_none hg] at this; cases this
  exact ⟨hlt, h.rp.lt, cell_of_row W N 0 _ _ _ h.blk, cell_of_row W N 1 _ _ _ h.blk, cell_of_row W N 2 _ _ _ h.blk, cell_of_row W N 3 _ _ _ h.blk, cell_of_row W N 4 _ _ _ h.blk, cell_of_row W N 5 _ _ _ h.blk⟩

theorem St.row {w0 W : World} {q N : Nat} {vT : Value} {R : Nat → Rw} {d : RDc} (h : St w0 W q N vT R d) (f : Nat) (r : Rw) (hr : R f = r) (hf : 1 ≤ f ∧ f ≤ 4) :
    (∀ o, (W.alloc o).cell? ⟨q, f, none⟩ = some r.v) ∧ (∀ o, (W.alloc o).frozen? ⟨q, f, none⟩ = false) ∧ W.cell? ⟨q, f, none⟩ = some r.v ∧ W.frozen? ⟨q, f, none⟩ = false ∧ W.ownsRow w0.heap.size r.e r.sz r.v r.n r.xs ∧ r.v.ownBlock ≠ some q := by
  subst hr
  have c : W.cell? ⟨q, f, none⟩ = some (R f).v := by
    have hc : f = 1 ∨ f = 2 ∨ f = 3 ∨ f = 4 := by omega
    rcases hc with rfl | rfl | rfl | rfl
    · exact cell_of_row W q 1 _ _ _ h.rp.blk
    · exact cell_of_row W q 2 _ _ _ h.rp.blk
    · exact cell_of_row W q 3 _ _ _ h.rp.blk
    · exact cell_of_row W q 4 _ _ _ h.rp.blk
  have fz : W.frozen? ⟨q, f, none⟩ = false := frozen_of_row W q f _ _ h.rp.blk
  exact ⟨fun o => by rw [World.cell?_alloc_past _ _ _ h.rp.lt]; exact c, fun o => by rw [World.frozen?_alloc_past _ _ _ h.rp.lt]; exact fz, c, fz, h.rp.own f, h.rp.nq f⟩

theorem St.below {w0 W W' : World} {q N : Nat} {vT : Value} {R : Nat → Rw} {d : RDc} (h : St w0 W q N vT R d) (hb : Below W.heap.size W W') : St w0 W' q N vT R d := by
  have hlt := h.cells.1
  exact ⟨h.rp.below hb, (hb.block N hlt).trans h.blk, h.nq, h.nr, h.bel.trans (hb.mono h.bel.size), h.q0⟩

theorem St.poke {w0 W : World} {q N : Nat} {vT : Value} {R : Nat → Rw} {d : RDc} (h : St w0 W q N vT R d) (hN : w0.heap.size ≤ N) (tr : Bool) (pl bo : Nat) :
    St w0 (((W.setCell ⟨N, 3, none⟩ (.bool tr)).setCell ⟨N, 4, none⟩ (.int .i64 (pl : Int))).setCell ⟨N, 5, none⟩ (.int .i64 (bo : Int))) q N vT R ⟨d.name, d.tok, d.input, tr, pl, bo⟩ := by
  have keep : ∀ (W : World) (k : Nat) (u : Value), RPV W w0.heap.size q vT R → RPV (W.setCell ⟨N, k, none⟩ u) w0.heap.size q vT R := fun W k u hr =>
    ⟨by have := hr.lt; simpa using this, (heap_setCell_other W ⟨N, k, none⟩ q _ (Ne.symm h.nq)).trans hr.blk,
     fun f => (hr.own f).kept (row := some N) ⟨rfl, rfl, rfl, by simp, fun j _ hj => heap_setCell_other W ⟨N, k, none⟩ j _ (fun e => hj (by simp [e]))⟩ (.inr (h.nr f)), hr.nq, hr.dis⟩
  refine ⟨keep _ _ _ (keep _ _ _ (keep _ _ _ h.rp)), ?_, h.nq, h.nr, ((h.bel.setCell hN _).setCell hN _).setCell hN _, h.q0⟩
  rw [heap_setCell_same _ N 5 _ _ _ (heap_setCell_same _ N 4 _ _ _ (heap_setCell_same _ N 3 _ _ _ h.blk))]
  rfl

end Go.Proofs.Ytmndgoapkmhglaa

namespace Go.Proofs.Ytmndgoapkmhglaa
open Go.RowKit
attribute [local go_sem ↓] Go.wp_at_zero Go.wp_at_succ

/-- a program as the document's own reader has laid it. -/
structure RProg (w : World) (q g cap : Nat) (ts : List Tk) (L : List Dl) (vE vA vI vQ : Value) : Prop where
  lt : q < w.heap.size
  c0 : w.cell? ⟨q, 0, none⟩ = some (.slice (some ⟨g, 0, none⟩) ts.length cap)
  c1 : w.cell? ⟨q, 1, none⟩ = some vE
  c2 : w.cell? ⟨q, 2, none⟩ = some vA
  c3 : w.cell? ⟨q, 3, none⟩ = some vI
  c4 : w.cell? ⟨q, 4, none⟩ = some vQ
  toks : TokAt w g cap ts
  ends : w.ownsRow 0 3 1 vE ts.length (pCells ((List.range ts.length).map (behindF ts)))
  all : w.ownsRow 0 138 6 vA L.length (rdCells (L.map (rdc ts)))
  ins : w.ownsRow 0 138 6 vI (inL L).length (rdCells ((inL L).map (rdc ts)))
  eqs : w.ownsRow 0 138 6 vQ (eqL L).length (rdCells ((eqL L).map (rdc ts)))

theorem RProg.below {w w' : World} {q g cap : Nat} {ts : List Tk} {L : List Dl} {vE vA vI vQ : Value} (h : RProg w q g cap ts L vE vA vI vQ) (hb : Below w.heap.size w w') : RProg w' q g cap ts L vE vA vI vQ :=
  ⟨Nat.lt_of_lt_of_le h.lt hb.size, (hb.cell h.lt).trans h.c0, (hb.cell h.lt).trans h.c1, (hb.cell h.lt).trans h.c2, (hb.cell h.lt).trans h.c3, (hb.cell h.lt).trans h.c4, h.toks.below hb, bel_own h.ends hb, bel_own h.all hb, bel_own h.ins hb, bel_own h.eqs hb⟩

abbrev RDc.val (d : RDc) : Value := .agg #[.string d.name, .int .i64 (d.tok : Int), .bool d.input, .bool d.truth, .int .i64 (d.place : Int), .int .i64 (d.body : Int)]

theorem rd_later {w wr : World} {g cap : Nat} {ts : List Tk} {l : List Dl} (h : w.ownsRow 0 138 6 (.slice (some ⟨g, 0, none⟩) l.length cap) l.length (rdCells (l.map (rdc ts)))) (hb : Below w.heap.size w wr) (hg : g < w.heap.size) {k : Nat} (hk : k < l.length) (a : RDc) (ha : a = rdc ts (l[k]'hk)) :
    wr.cell? ⟨g, k * 6, none⟩ = some (.string a.name) ∧ wr.cell? ⟨g, k * 6 + 1, none⟩ = some (.int .i64 (a.tok : Int)) ∧ wr.cell? ⟨g, k * 6 + 2, none⟩ = some (.bool a.input) ∧ wr.cell? ⟨g, k * 6 + 3, none⟩ = some (.bool a.truth) ∧
    wr.cell? ⟨g, k * 6 + 4, none⟩ = some (.int .i64 (a.place : Int)) ∧ wr.cell? ⟨g, k * 6 + 5, none⟩ = some (.int .i64 (a.body : Int)) := by
  have hcr : ∀ j, j < 6 → wr.cell? ⟨g, k * 6 + j, none⟩ = a.cells[j]? := fun j hj => by
    rw [hb.cell (p := ⟨g, k * 6 + j, none⟩) hg, h.cellAt (k * 6 + j) (by omega)]
    have e := flat_get RDc.cells 6 rd_len (l.map (rdc ts)) k j (by simpa using hk) hj
    rw [List.getElem_map, ← ha] at e
    exact e
  exact ⟨hcr 0 (by omega), hcr 1 (by omega), hcr 2 (by omega), hcr 3 (by omega), hcr 4 (by omega), hcr 5 (by omega)⟩

theorem end_later {w wr : World} {g cap : Nat} {ts : List Tk} (h : w.ownsRow 0 3 1 (.slice (some ⟨g, 0, none⟩) ts.length cap) ts.length (pCells ((List.range ts.length).map (behindF ts)))) (hb : Below w.heap.size w wr) (hg : g < w.heap.size) {k : Nat} (hk : k < ts.length) :
    wr.cell? ⟨g, k, none⟩ = some (.int .i64 (behindF ts k : Nat)) := by
  rw [hb.cell (p := ⟨g, k, none⟩) hg, h.cellAt k (by omega)]
  unfold pCells
  rw [List.getElem?_map, List.getElem?_map, List.getElem?_range hk]
  rfl

set_option maxHeartbeats 1000000 in
theorem rplace_any (w : World) (q g cap : Nat) (ts : List Tk) (L : List Dl) (vE vA vI vQ : Value) (h : RProg w q g cap ts L vE vA vI vQ) (d : RDc) (hd : d.tok < ts.length) :
    Calls Try.prog 112 #[.pointer (some ⟨q, 0, none⟩), d.val] w fun e w' => e = .returned (.int .i64 ((tkAt ts d.tok).pos : Nat)) ∧ Below w.heap.size w w' := by
  have c0 : ∀ o, (w.alloc o).cell? ⟨q, 0, none⟩ = some (.slice (some ⟨g, 0, none⟩) ts.length cap) := fun o => by rw [World.cell?_alloc_past _ _ _ h.lt]; exact h.c0
  obtain ⟨a, ha⟩ : ∃ a, a = rtok (tkAt ts d.tok) := ⟨_, rfl⟩
  have x2 : ∀ o, (w.alloc o).cell? ⟨g, d.tok * 4 + 2, none⟩ = some (.int .i64 (a.pos : Int)) := fun o => by
    rw [World.cell?_alloc_past _ _ _ h.toks.lt]; exact (h.toks.cells (Below.refl _ _) hd a ha).2.2.1
  have HP : Hid ((tkAt ts d.tok).pos = a.pos) := hide (by rw [ha]; rfl)
  have j1 : (0 : Int) ≤ (d.tok : Int) := by omega
  have j2 : (d.tok : Int) < (ts.length : Int) := by omega
  clear h ha
  go_enter Try.func112, Try.ntmps112
  go_wp2_with fail
  go_quiet (fail)
  go_wp2
  go_ret
  exact ⟨by rw [HP.out]; rfl, below_drewN ((Below.refl _ _).alloc (Nat.le_refl _) _) _⟩

/-- a place, or -1. -/
def optI (o : Option Nat) : Value := .int .i64 (match o with | some a => (a : Int) | none => -1)

end Go.Proofs.Ytmndgoapkmhglaa

namespace Go.Proofs.Ytmndgoapkmhglaa
open Go.RowKit
attribute [local go_sem ↓] Go.wp_at_zero Go.wp_at_succ

theorem rdc_tok (ts : List Tk) (x : Dl) : (rdc ts x).tok = x.i + 1 ∧ (rdc ts x).name = nameD ts x := by unfold rdc; split <;> exact ⟨rfl, rfl⟩
theorem ROk.tok {ts : List Tk} {L : List Dl} (h : ROk ts L) {x : Dl} (hx : x ∈ L) : (rdc ts x).tok < ts.length := by
  have := (h.mem hx).1; have := Dl.len_pos x; rw [(rdc_tok ts x).1]; omega

theorem rdc_pos (ts : List Tk) (x : Dl) : (tkAt ts (rdc ts x).tok).pos = posD ts x := by rw [(rdc_tok ts x).1]; rfl

theorem pos_le (s : ByteArray) (i : Nat) : (tkAt (toks s) i).pos ≤ s.size := by
  obtain ⟨h1, _⟩ := tk_pos _ 0 s.data.toList rfl
  rw [toks_list]
  by_cases h : i < (tk 0 s.data.toList).length
  · rw [tkAt_left h]; have := (h1 _ (tkAt_mem h)).2; rw [size_list]; omega
  · by_cases e : i = (tk 0 s.data.toList).length
    · rw [e, tkAt_mid]; exact Nat.le_refl _
    · have : tkAt (tk 0 s.data.toList ++ [⟨0, s.size, ⟨#[]⟩⟩]) i = tkEnd := by
        unfold tkAt
        rw [List.getD_eq_getElem?_getD, List.getElem?_eq_none (by simp; omega)]
        rfl
      rw [this]; exact Nat.zero_le _

/-- the cells of one declaration of a row, with the row's own address. -/
theorem row_at {w : World} {v : Value} {ts : List Tk} {l : List Dl} (h : w.ownsRow 0 138 6 v l.length (rdCells (l.map (rdc ts)))) {k : Nat} (hk : k < l.length) :
    ∃ g cap, v = .slice (some ⟨g, 0, none⟩) l.length cap ∧ g < w.heap.size ∧ ∀ wr, Below w.heap.size w wr → ∀ a, a = rdc ts (l[k]'hk) → wr.cell? ⟨g, k * 6, none⟩ = some (.string a.name) ∧ wr.cell? ⟨g, k * 6 + 1, none⟩ = some (.int .i64 (a.tok : Int)) ∧ wr.cell? ⟨g, k * 6 + 2, none⟩ = some (.bool a.input) ∧ wr.cell? ⟨g, k * 6 + 3, none⟩ = some (.bool a.truth) ∧
    wr.cell? ⟨g, k * 6 + 4, none⟩ = some (.int .i64 (a.place : Int)) ∧ wr.cell? ⟨g, k * 6 + 5, none⟩ = some (.int .i64 (a.body : Int)) := by
  obtain ⟨g, cap, rfl, _, h2⟩ := h.form (by omega)
  exact ⟨g, cap, rfl, h2, fun wr hb a ha => rd_later h hb h2 hk a ha⟩

set_option maxHeartbeats 1000000 in
theorem rmany_any (w : World) (q g cap : Nat) (ts : List Tk) (L : List Dl) (vE vA vI vQ : Value) (h : RProg w q g cap ts L vE vA vI vQ) (ho : ROk ts L) (hp : ∀ i, (tkAt ts i).pos ≤ 1500) :
    Calls Try.prog 73 #[.pointer (some ⟨q, 0, none⟩)] w fun e w' => e = .returned (optI (manyR ts L)) ∧ Below w.heap.size w w' := by
  obtain ⟨av, cv, hv, _⟩ := own_shape h.eqs
  obtain ⟨ai, ci, hi, _⟩ := own_shape h.ins
  obtain ⟨hm1, hm2, hm3⟩ := ho.many
  have c4 : w.cell? ⟨q, 4, none⟩ = some (.slice av (eqL L).length cv) := by rw [h.c4, hv]
  have c3 : w.cell? ⟨q, 3, none⟩ = some (.slice ai (inL L).length ci) := by rw [h.c3, hi]
  have HR := hide h
  have HO := hide ho
  have hp := hp
  clear h ho
  by_cases hq : 12 < (eqL L).length
  · obtain ⟨gq, cq, hvq, hgq, hcq⟩ := row_at HR.out.eqs hq
    obtain ⟨x, hx⟩ : ∃ x, x = (eqL L)[12]'hq := ⟨_, rfl⟩
    have hxm : x ∈ L := (List.mem_filter.1 (by rw [hx]; exact List.getElem_mem hq)).1
    obtain ⟨y0, y1, y2, y3, y4, y5⟩ := hcq w (Below.refl _ _) (rdc ts x) (by rw [hx])
    have hE : ((eqL L)[12]?).map (posD ts) = some (posD ts x) := by rw [List.getElem?_eq_getElem hq, ← hx]; rfl
    rw [hvq] at hv
    cases hv
    have ht := HO.out.tok hxm
    have hpos := rdc_pos ts x
    have hp12 : posD ts x ≤ 1500 := hp _
    have HTX := hide ht
    have HPX := hide hpos
    have i1 : (12 : Int) < ((eqL L).length : Int) := by omega
    clear hcq hxm hx ht hpos
    by_cases hi4 : 4 < (inL L).length
    · obtain ⟨gi, cI, hvi, hgi, hci⟩ := row_at HR.out.ins hi4
      obtain ⟨z, hz⟩ : ∃ z, z = (inL L)[4]'hi4 := ⟨_, rfl⟩
      have hzm : z ∈ L := (List.mem_filter.1 (by rw [hz]; exact List.getElem_mem hi4)).1
      have hI : ((inL L)[4]?).map (posD ts) = some (posD ts z) := by rw [List.getElem?_eq_getElem hi4, ← hz]; rfl
      rw [hvi] at hi
      cases hi
      have hti := HO.out.tok hzm
      have hposi := rdc_pos ts z
      have hp4 : posD ts z ≤ 1500 := hp _
      have HCI := hide (fun wr hb => hci wr hb (rdc ts z) (by rw [hz]))
      have HTI := hide hti
      have HPI := hide hposi
      have i2 : (4 : Int) < ((inL L).length : Int) := by omega
      clear hci hzm hz hti hposi
      go_enter Try.func73, Try.ntmps73
      go_wp2_with fail
      refine (rplace_any w q g cap ts L _ _ _ _ HR.out (rdc ts x) HTX.out).mono ?_
      rintro e w1 ⟨rfl, hb1⟩
      rw [HPX.out]
      obtain ⟨n1, hn1⟩ : ∃ n, n = posD ts x := ⟨_, rfl⟩
      rw [← hn1]
      rw [← hn1] at hp12
      have HN1 := hide hn1
      have HB1 := hide hb1
      have c3' := (hb1.cell (p := ⟨q, 3, none⟩) HR.out.lt).trans c3
      clear hn1 y0 y1 y2 y3 y4 y5 c3 c4 hb1
      obtain ⟨z0, z1, z2, z3, z4, z5⟩ := HCI.out w1 HB1.out
      go_wp2_with fail
      refine (rplace_any w1 q g cap ts L _ _ _ _ (HR.out.below HB1.out) (rdc ts z) HTI.out).mono ?_
      rintro e w2 ⟨rfl, hb2⟩
      rw [HPI.out]
      obtain ⟨n2, hn2⟩ : ∃ n, n = posD ts z := ⟨_, rfl⟩
      rw [← hn2]
      rw [← hn2] at hp4
      have HN2 := hide hn2
      have HB2 := hide hb2
      clear hn2 hb2
      have m1 : ¬ (n1 : Int) < 0 := by omega
      by_cases hlt : n2 < n1
      · have m2 : (n2 : Int) < (n1 : Int) := by omega
        have HF : Hid (manyR ts L = some n2) := hide (by unfold manyR; rw [hE, hI, ← HN1.out, ← HN2.out]; simp only [less]; rw [if_pos hlt])
        clear hlt hE hI
        go_wp2
        go_ret
        exact ⟨by rw [HF.out]; rfl, HB1.out.trans (HB2.out.mono HB1.out.size)⟩
      · have m2 : ¬ (n2 : Int) < (n1 : Int) := by omega
        have HF : Hid (manyR ts L = some n1) := hide (by unfold manyR; rw [hE, hI, ← HN1.out, ← HN2.out]; simp only [less]; rw [if_neg hlt])
        clear hlt hE hI
        go_wp2
        go_ret
        exact ⟨by rw [HF.out]; rfl, HB1.out.trans (HB2.out.mono HB1.out.size)⟩
    · have i2 : ¬ (4 : Int) < ((inL L).length : Int) := by omega
      have hI : ((inL L)[4]?).map (posD ts) = none := by rw [List.getElem?_eq_none (by omega)]; rfl
      go_enter Try.func73, Try.ntmps73
      go_wp2_with fail
      refine (rplace_any w q g cap ts L _ _ _ _ HR.out (rdc ts x) HTX.out).mono ?_
      rintro e w1 ⟨rfl, hb1⟩
      rw [HPX.out]
      obtain ⟨n1, hn1⟩ : ∃ n, n = posD ts x := ⟨_, rfl⟩
      rw [← hn1]
      rw [← hn1] at hp12
      have HN1 := hide hn1
      have HB1 := hide hb1
      have c3' := (hb1.cell (p := ⟨q, 3, none⟩) HR.out.lt).trans c3
      clear hn1 y0 y1 y2 y3 y4 y5 c3 c4 hb1
      have HF : Hid (manyR ts L = some n1) := hide (by unfold manyR; rw [hE, hI, ← HN1.out]; rfl)
      clear hE hI
      go_wp2
      go_ret
      exact ⟨by rw [HF.out]; rfl, HB1.out⟩
  · have i1 : ¬ (12 : Int) < ((eqL L).length : Int) := by omega
    have hE : ((eqL L)[12]?).map (posD ts) = none := by rw [List.getElem?_eq_none (by omega)]; rfl
    by_cases hi4 : 4 < (inL L).length
    · obtain ⟨gi, cI, hvi, hgi, hci⟩ := row_at HR.out.ins hi4
      obtain ⟨z, hz⟩ : ∃ z, z = (inL L)[4]'hi4 := ⟨_, rfl⟩
      have hzm : z ∈ L := (List.mem_filter.1 (by rw [hz]; exact List.getElem_mem hi4)).1
      have hI : ((inL L)[4]?).map (posD ts) = some (posD ts z) := by rw [List.getElem?_eq_getElem hi4, ← hz]; rfl
      rw [hvi] at hi
      cases hi
      have hti := HO.out.tok hzm
      have hposi := rdc_pos ts z
      have hp4 : posD ts z ≤ 1500 := hp _
      have HCI := hide (fun wr hb => hci wr hb (rdc ts z) (by rw [hz]))
      have HTI := hide hti
      have HPI := hide hposi
      have i2 : (4 : Int) < ((inL L).length : Int) := by omega
      clear hci hzm hz hti hposi
      obtain ⟨z0, z1, z2, z3, z4, z5⟩ := HCI.out w (Below.refl _ _)
      go_enter Try.func73, Try.ntmps73
      go_wp2_with fail
      refine (rplace_any w q g cap ts L _ _ _ _ HR.out (rdc ts z) HTI.out).mono ?_
      rintro e w2 ⟨rfl, hb2⟩
      rw [HPI.out]
      obtain ⟨n2, hn2⟩ : ∃ n, n = posD ts z := ⟨_, rfl⟩
      rw [← hn2]
      rw [← hn2] at hp4
      have HN2 := hide hn2
      have HB2 := hide hb2
      clear hn2 hb2
      have HF : Hid (manyR ts L = some n2) := hide (by unfold manyR; rw [hE, hI, ← HN2.out]; rfl)
      clear hE hI
      go_wp2
      go_ret
      exact ⟨by rw [HF.out]; rfl, HB2.out⟩
    · have i2 : ¬ (4 : Int) < ((inL L).length : Int) := by omega
      have hI : ((inL L)[4]?).map (posD ts) = none := by rw [List.getElem?_eq_none (by omega)]; rfl
      have HF : Hid (manyR ts L = none) := hide (by unfold manyR; rw [hE, hI]; rfl)
      clear hE hI
      go_enter Try.func73, Try.ntmps73
      go_wp2_with fail
      go_ret
      exact ⟨by rw [HF.out]; rfl, Below.refl _ _⟩

end Go.Proofs.Ytmndgoapkmhglaa

namespace Go.Proofs.Ytmndgoapkmhglaa
open Go.RowKit
attribute [local go_sem ↓] Go.wp_at_zero Go.wp_at_succ

theorem any_range {p : Nat → Bool} (n k : Nat) (h : k < n) : (List.range' k (n - k)).any p = (p k || (List.range' (k + 1) (n - (k + 1))).any p) := by
  rw [show n - k = (n - (k + 1)) + 1 by omega, List.range'_succ, List.any_cons]

set_option maxHeartbeats 1000000 in
theorem rdelayed_any (w : World) (q g cap : Nat) (ts : List Tk) (L : List Dl) (vE vA vI vQ : Value) (h : RProg w q g cap ts L vE vA vI vQ) (ho : ROk ts L) (fr j : Nat) (hfj : fr ≤ j) (hj : j < ts.length) :
    Calls Try.prog 143 #[.pointer (some ⟨q, 0, none⟩), .int .i64 (fr : Int), .int .i64 (j : Int)] w fun e w' => e = .returned (.bool (delayedR ts fr j)) ∧ Below w.heap.size w w' := by
  have hlen := ho.len
  obtain ⟨gE, capE, rfl, _, hgE⟩ := h.ends.form (by omega)
  have HR := hide h
  have HO := hide ho
  clear h ho
  go_enter Try.func143, Try.ntmps143
  go_wp2
  go_loopw [7] (fun f wr => ∃ k : Nat, k ≤ j ∧ f = .int .i64 k ∧ Below w.heap.size w wr ∧ ((List.range' k (j - k)).any fun f => lAt ts f == kFby && decide (j < behindF ts (f + 1))) = delayedR ts fr j) (fun f _ => j - (intOf f).toNat)
  case atStart => exact ⟨fr, hfj, rfl, Below.refl _ _, rfl⟩
  case round =>
    obtain ⟨k, hk, rfl, hbel, hrec⟩ := hrel
    have c0 := (HR.out.below hbel).c0
    have c1 := (HR.out.below hbel).c1
    by_cases hlt : k < j
    · obtain ⟨a, ha⟩ : ∃ a, a = rtok (tkAt ts k) := ⟨_, rfl⟩
      obtain ⟨x0, x1, x2, x3⟩ := HR.out.toks.cells hbel (show k < ts.length by omega) a ha
      have hkw := (HO.out.F k).kw kFby (by decide)
      rw [← ha] at hkw
      have r1 := end_later HR.out.ends hbel hgE (show k + 1 < ts.length by omega)
      have j1 : (0 : Int) ≤ (k : Int) := by omega
      have j2 : (k : Int) < (ts.length : Int) := by omega
      have j3 : (0 : Int) ≤ (k : Int) + 1 := by omega
      have j4 : (k : Int) + 1 < (ts.length : Int) := by omega
      have j5 : (k : Int) < (j : Int) := by omega
      have hbl := behindF_le ts (k + 1) (by omega)
      rw [any_range _ _ hlt] at hrec
      generalize behindF ts (k + 1) = b at r1 hrec hbl
      by_cases hf : a.l = kFby
      · have q1 := str_yes (t := a.word) hf
        simp only [kFby] at q1
        have hl : (lAt ts k == kFby) = true := by rw [beq_iff_eq]; exact hkw.1 hf
        rw [hl, Bool.true_and] at hrec
        by_cases hb : j < b
        · have q2 : (j : Int) < (b : Int) := by omega
          rw [decide_eq_true hb, Bool.true_or] at hrec
          have HRC := hide hrec
          clear hrec hl hf hb hkw ha
          go_wp2
          go_ret
          exact ⟨by rw [← HRC.out]; rfl, by first | exact hbel | exact below_drewN hbel _⟩
        · have q2 : ¬ (j : Int) < (b : Int) := by omega
          rw [decide_eq_false hb, Bool.false_or] at hrec
          have HRC := hide hrec
          clear hrec hl hf hb hkw ha
          go_wp2
          go_roundw
          case rel => exact ⟨k + 1, by omega, by go_num, by first | exact hbel | exact below_drewN hbel _, HRC.out⟩
          case measure => simp [intOf]; omega
      · have q1 := str_no (t := a.word) hf
        simp only [kFby] at q1
        have hl : (lAt ts k == kFby) = false := by rw [beq_eq_false_iff_ne]; exact fun e => hf (hkw.2 e)
        rw [hl, Bool.false_and, Bool.false_or] at hrec
        have HRC := hide hrec
        clear hrec hl hf hkw ha
        go_wp2
        go_roundw
        case rel => exact ⟨k + 1, by omega, by go_num, by first | exact hbel | exact below_drewN hbel _, HRC.out⟩
        case measure => simp [intOf]; omega
    · have e0 : j - k = 0 := by omega
      rw [e0] at hrec
      have HRC := hide hrec
      have z1 : ¬ (k : Int) < (j : Int) := by omega
      clear hrec e0
      go_wp2
      go_ret
      exact ⟨by rw [← HRC.out]; rfl, hbel⟩

end Go.Proofs.Ytmndgoapkmhglaa
