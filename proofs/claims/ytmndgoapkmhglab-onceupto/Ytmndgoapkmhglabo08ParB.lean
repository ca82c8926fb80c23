import Derived.Test.Ytmndgoapkmhglabo01ScanB
import Derived.Test.Ytmndgoapkmhglabo02BoxC
namespace Go.Proofs.Ytmndgoapkmhglab
open Go.RowKit
attribute [local go_sem ↓] Go.wp_at_zero Go.wp_at_succ
theorem own_shape {w : World} {base e size n : Nat} {v : Value} {xs : List Value} (h : w.ownsRow base e size v n xs) : ∃ a cap, v = .slice a n cap ∧ (0 < n → ∃ g, a = some ⟨g, 0, none⟩ ∧ base ≤ g ∧ g < w.heap.size) := by
  rcases Nat.eq_zero_or_pos n with hz | hp
  · subst hz
    rcases h.2 with ⟨rfl, _⟩ | ⟨g, cap, cur, rfl, _⟩
    · exact ⟨none, 0, rfl, fun h => absurd h (by omega)⟩
    · exact ⟨_, cap, rfl, fun h => absurd h (by omega)⟩
  · obtain ⟨g, cap, rfl, h1, h2⟩ := h.form hp
    exact ⟨_, cap, rfl, fun _ => ⟨g, rfl, h1, h2⟩⟩
def Nd.cells (n : Nd) : List Value :=
  [.int .i64 (n.kind : Int), .int .i64 (n.pos : Int), .int .i64 (n.value : Int), .string n.name, .int .i64 n.decl, .int .i64 (n.op : Int), .int .i64 (n.a : Int), .int .i64 (n.b : Int), .int .i64 (n.c : Int), .bool n.delayed, .bool n.behind]
def ndCells (l : List Nd) : List Value := l.flatMap Nd.cells
def Dc.cells (d : Dc) : List Value :=
  [.int .i64 (d.kind : Int), .int .i64 (d.number : Int), .string d.name, .int .i64 (d.pos : Int), .int .i64 (d.place : Int), .int .i64 (d.root : Int), .int .i64 (d.fin : Int)]
def dcCells (l : List Dc) : List Value := l.flatMap Dc.cells
theorem ndCells_snoc (l : List Nd) (t : Nd) : ndCells (l ++ [t]) = ndCells l ++ t.cells := by simp [ndCells]
theorem dcCells_snoc (l : List Dc) (t : Dc) : dcCells (l ++ [t]) = dcCells l ++ t.cells := by simp [dcCells]
theorem flat_get {α : Type} (f : α → List Value) (k : Nat) (hk : ∀ x, (f x).length = k) : ∀ (l : List α) (i j : Nat) (h : i < l.length), j < k → (l.flatMap f)[i * k + j]? = (f (l[i]'h))[j]? := by
  intro l
  induction l with
  | nil => intro i j h; simp at h
  | cons x l ih =>
    intro i j h hj
    rw [List.flatMap_cons]
    cases i with
    | zero =>
      rw [List.getElem?_append_left (by rw [hk]; omega)]
      simp
    | succ i =>
      have e : (i + 1) * k + j = k + (i * k + j) := by rw [Nat.add_mul]; omega
      rw [e, List.getElem?_append_right (by rw [hk]; omega), hk]
      have e2 : k + (i * k + j) - k = i * k + j := by omega
      rw [e2, ih i j (by simpa using h) hj]
      simp
theorem flat_set {α : Type} (f : α → List Value) (k : Nat) (hk : ∀ x, (f x).length = k) (x : α) : ∀ (l : List α) (i : Nat) (_ : i < l.length),
    (l.set i x).flatMap f = (l.flatMap f).take (i * k) ++ f x ++ (l.flatMap f).drop (i * k + k) := by
  intro l
  induction l with
  | nil => intro i h; simp at h
  | cons y l ih =>
    intro i h
    cases i with
    | zero =>
      simp only [List.set_cons_zero, List.flatMap_cons, Nat.zero_mul, List.take_zero, List.nil_append, Nat.zero_add]
      rw [List.drop_append_of_le_length (by rw [hk]; omega), List.drop_of_length_le (by rw [hk]; omega), List.nil_append]
    | succ i =>
      rw [List.set_cons_succ, List.flatMap_cons, ih i (by simpa using h), List.flatMap_cons]
      have e : (i + 1) * k = (f y).length + i * k := by rw [hk, Nat.add_mul]; omega
      have e2 : (i + 1) * k + k = (f y).length + (i * k + k) := by rw [e]; omega
      rw [e2, e, List.take_append, List.drop_append, List.take_of_length_le (l := f y) (by omega), List.drop_of_length_le (l := f y) (by omega)]
      simp
theorem tk_len (t : Tk) : t.cells.length = 3 := rfl
theorem nd_len (t : Nd) : t.cells.length = 11 := rfl
theorem dc_len (t : Dc) : t.cells.length = 7 := rfl
structure Fr (X : Nat → Prop) (w w' : World) : Prop where
  os : w'.os = w.os
  tape : w'.tape = w.tape
  output : w'.output = w.output
  size : w.heap.size ≤ w'.heap.size
  block : ∀ k, X k → w'.heap[k]? = w.heap[k]?
theorem Fr.refl (X : Nat → Prop) (w : World) : Fr X w w := ⟨rfl, rfl, rfl, Nat.le_refl _, fun _ _ => rfl⟩
theorem Fr.trans {X : Nat → Prop} {a b c : World} (h : Fr X a b) (k : Fr X b c) : Fr X a c :=
  ⟨k.os.trans h.os, k.tape.trans h.tape, k.output.trans h.output, Nat.le_trans h.size k.size, fun n hn => (k.block n hn).trans (h.block n hn)⟩
theorem Fr.mono {X Y : Nat → Prop} {a b : World} (h : Fr X a b) (hY : ∀ k, Y k → X k) : Fr Y a b := ⟨h.os, h.tape, h.output, h.size, fun k hk => h.block k (hY k hk)⟩
theorem Fr.of_below {X : Nat → Prop} {N : Nat} {a b : World} (h : Below N a b) (hX : ∀ k, X k → k < N) : Fr X a b := ⟨h.os, h.tape, h.output, h.size, fun k hk => h.block k (hX k hk)⟩
theorem Fr.to_below {N : Nat} {a b : World} (h : Fr (fun k => k < N) a b) : Below N a b := ⟨h.os, h.tape, h.output, h.size, fun k hk => h.block k hk⟩
theorem Fr.setCell {X : Nat → Prop} {a b : World} (h : Fr X a b) {n i : Nat} (hn : ¬ X n) (u : Value) : Fr X a (b.setCell ⟨n, i, none⟩ u) :=
  ⟨h.os, h.tape, h.output, by simpa using h.size, fun k hk => (heap_setCell_other b ⟨n, i, none⟩ k u (by rintro rfl; exact hn hk)).trans (h.block k hk)⟩
structure ParV (w : World) (X : Nat → Prop) (b : Nat) (ts : List Tk) (p : PS) (vt vd vn : Value) : Prop where
  at_b : w.heap[b]? = some (.cells #[vt, .int .i64 (p.next : Int), .int .i64 (p.depth : Int), .int .i64 (p.delays : Int), vd, vn] 148)
  toks : w.ownsRow 0 150 3 vt ts.length (tkCells ts)
  decls : w.ownsRow 0 126 7 vd p.decls.length (dcCells p.decls)
  nodes : w.ownsRow 0 171 11 vn p.nodes.length (ndCells p.nodes)
  tb : vt.ownBlock ≠ some b
  db : vd.ownBlock ≠ some b
  nb : vn.ownBlock ≠ some b
  td : ∀ g, vt.ownBlock = some g → vd.ownBlock ≠ some g
  tn : ∀ g, vt.ownBlock = some g → vn.ownBlock ≠ some g
  dn : ∀ g, vd.ownBlock = some g → vn.ownBlock ≠ some g
  xlt : ∀ k, X k → k < w.heap.size
  xb : ¬ X b
  xd : ∀ g, vd.ownBlock = some g → ¬ X g
  xn : ∀ g, vn.ownBlock = some g → ¬ X g
  xt : ∀ g, vt.ownBlock = some g → ¬ X g
def Par (w : World) (X : Nat → Prop) (b : Nat) (ts : List Tk) (p : PS) : Prop := ∃ vt vd vn, ParV w X b ts p vt vd vn
theorem ParV.lt {w : World} {X : Nat → Prop} {b : Nat} {ts : List Tk} {p : PS} {vt vd vn : Value} (h : ParV w X b ts p vt vd vn) : b < w.heap.size := by
  rcases Nat.lt_or_ge b w.heap.size with hlt | hge
  · exact hlt
  · have := h.at_b; rw [Array.getElem?_eq_none hge] at this; cases this
theorem ParV.cell {w : World} {X : Nat → Prop} {b : Nat} {ts : List Tk} {p : PS} {vt vd vn : Value} (h : ParV w X b ts p vt vd vn) :
    w.cell? ⟨b, 0, none⟩ = some vt ∧ w.cell? ⟨b, 1, none⟩ = some (.int .i64 (p.next : Int)) ∧ w.cell? ⟨b, 2, none⟩ = some (.int .i64 (p.depth : Int)) ∧
    w.cell? ⟨b, 3, none⟩ = some (.int .i64 (p.delays : Int)) ∧ w.cell? ⟨b, 4, none⟩ = some vd ∧ w.cell? ⟨b, 5, none⟩ = some vn := by
  refine ⟨?_, ?_, ?_, ?_, ?_, ?_⟩ <;> (rw [cell_of_row w b _ _ _ _ h.at_b]; rfl)
theorem ParV.froz {w : World} {X : Nat → Prop} {b : Nat} {ts : List Tk} {p : PS} {vt vd vn : Value} (h : ParV w X b ts p vt vd vn) (i : Nat) : w.frozen? ⟨b, i, none⟩ = false :=
  frozen_of_row w b i _ _ h.at_b
theorem ParV.below {w w' : World} {X : Nat → Prop} {b : Nat} {ts : List Tk} {p : PS} {vt vd vn : Value} (h : ParV w X b ts p vt vd vn) (hb : Below w.heap.size w w') : ParV w' X b ts p vt vd vn := by
  have hg : w.grownBy w' none := ⟨hb.os, hb.tape, hb.output, hb.size, fun k hk _ => hb.block k hk⟩
  have aux : ∀ v : Value, v.ownBlock = none ∨ v.ownBlock ≠ none := fun v => by cases v.ownBlock <;> simp
  exact ⟨(hb.block b h.lt).trans h.at_b, h.toks.kept hg (aux _), h.decls.kept hg (aux _), h.nodes.kept hg (aux _), h.tb, h.db, h.nb, h.td, h.tn, h.dn, fun k hk => Nat.lt_of_lt_of_le (h.xlt k hk) hb.size, h.xb, h.xd, h.xn, h.xt⟩
theorem ParV.set {w : World} {X : Nat → Prop} {b : Nat} {ts : List Tk} {p p' : PS} {vt vd vn : Value} (h : ParV w X b ts p vt vd vn) (i : Nat) (u : Value)
    (hd : p'.decls = p.decls) (hn : p'.nodes = p.nodes)
    (hc : (#[vt, .int .i64 (p.next : Int), .int .i64 (p.depth : Int), .int .i64 (p.delays : Int), vd, vn] : Array Value).setIfInBounds i u = #[vt, .int .i64 (p'.next : Int), .int .i64 (p'.depth : Int), .int .i64 (p'.delays : Int), vd, vn]) :
    ParV (w.setCell ⟨b, i, none⟩ u) X b ts p' vt vd vn ∧ Fr X w (w.setCell ⟨b, i, none⟩ u) := by
  have hg : w.grownBy (w.setCell ⟨b, i, none⟩ u) (some b) := ⟨rfl, rfl, rfl, by simp, fun k _ hk => heap_setCell_other w ⟨b, i, none⟩ k u (fun e => hk (by simp [e]))⟩
  refine ⟨⟨?_, h.toks.kept hg (.inr h.tb), ?_, ?_, h.tb, h.db, h.nb, h.td, h.tn, h.dn, fun k hk => by simpa using h.xlt k hk, h.xb, h.xd, h.xn, h.xt⟩, (Fr.refl _ _).setCell h.xb _⟩
  · rw [heap_setCell_same w b i _ _ u h.at_b, hc]
  · rw [hd]; exact h.decls.kept hg (.inr h.db)
  · rw [hn]; exact h.nodes.kept hg (.inr h.nb)
theorem tkAt_cells {w : World} {B g cap : Nat} {ts : List Tk} (h : w.ownsRow B 150 3 (.slice (some ⟨g, 0, none⟩) ts.length cap) ts.length (tkCells ts)) {i : Nat} (hi : i < ts.length) :
    w.cell? ⟨g, i * 3, none⟩ = some (.int .i64 ((tkAt ts i).kind : Int)) ∧ w.cell? ⟨g, i * 3 + 1, none⟩ = some (.int .i64 ((tkAt ts i).pos : Int)) ∧ w.cell? ⟨g, i * 3 + 2, none⟩ = some (.string (tkAt ts i).text) := by
  have e : tkAt ts i = ts[i]'hi := by simp [tkAt, hi]
  have hj : ∀ j, j < 3 → w.cell? ⟨g, i * 3 + j, none⟩ = (ts[i]'hi).cells[j]? := fun j hj => by
    rw [h.cellAt (i * 3 + j) (by omega)]
    exact flat_get Tk.cells 3 tk_len ts i j hi hj
  rw [e]
  exact ⟨hj 0 (by omega), hj 1 (by omega), hj 2 (by omega)⟩
theorem Try.fieldTok0 (x y z : Value) (w : World) : (Instr.field 150 (.agg #[x, y, z]) 0).run Try.prog w = .ok x w := by kernel_rfl
theorem Try.fieldTok1 (x y z : Value) (w : World) : (Instr.field 150 (.agg #[x, y, z]) 1).run Try.prog w = .ok y w := by kernel_rfl
theorem Try.fieldTok2 (x y z : Value) (w : World) : (Instr.field 150 (.agg #[x, y, z]) 2).run Try.prog w = .ok z w := by kernel_rfl
abbrev Tk.val (t : Tk) : Value := .agg #[.int .i64 (t.kind : Int), .int .i64 (t.pos : Int), .string t.text]
abbrev Nd.val (n : Nd) : Value :=
  .agg #[.int .i64 (n.kind : Int), .int .i64 (n.pos : Int), .int .i64 (n.value : Int), .string n.name, .int .i64 n.decl, .int .i64 (n.op : Int), .int .i64 (n.a : Int), .int .i64 (n.b : Int), .int .i64 (n.c : Int), .bool n.delayed, .bool n.behind]
abbrev Dc.val (d : Dc) : Value :=
  .agg #[.int .i64 (d.kind : Int), .int .i64 (d.number : Int), .string d.name, .int .i64 (d.pos : Int), .int .i64 (d.place : Int), .int .i64 (d.root : Int), .int .i64 (d.fin : Int)]
set_option maxHeartbeats 1000000 in
set_option maxRecDepth 100000 in
theorem here_any (w : World) (X : Nat → Prop) (b : Nat) (ts : List Tk) (p : PS) (h : Par w X b ts p) (hn : p.next < ts.length) (hl : ts.length ≤ 1501) :
    Calls Try.prog 79 #[.pointer (some ⟨b, 0, none⟩)] w fun e w' => e = .returned (.agg #[.int .i64 ((p.hd ts).kind : Int), .int .i64 ((p.hd ts).pos : Int), .string (p.hd ts).text]) ∧ Below w.heap.size w w' := by
  obtain ⟨vt, vd, vn, hp⟩ := h
  obtain ⟨c0, c1, _⟩ := hp.cell
  obtain ⟨g, cap, rfl, _, glt⟩ := hp.toks.form (by omega)
  obtain ⟨t0, t1, t2⟩ := tkAt_cells hp.toks hn
  have lb := hp.lt
  have i0 : (0 : Int) ≤ (p.next : Int) := by omega
  have i1 : (p.next : Int) < (ts.length : Int) := by omega
  have e : p.hd ts = tkAt ts p.next := rfl
  rw [e]
  generalize tkAt ts p.next = t at *
  generalize p.next = k at *
  clear e hp
  go_enter Try.func79, Try.ntmps79
  go_wp2_with fail
  go_region_held3 (fun w' => w'.cell? ⟨b, 0, none⟩ = some (.slice (some ⟨g, 0, none⟩) ts.length cap) ∧ w'.cell? ⟨b, 1, none⟩ = some (.int .i64 (k : Int)) ∧
     w'.cell? ⟨g, k * 3, none⟩ = some (.int .i64 (t.kind : Int)) ∧ w'.cell? ⟨g, k * 3 + 1, none⟩ = some (.int .i64 (t.pos : Int)) ∧ w'.cell? ⟨g, k * 3 + 2, none⟩ = some (.string t.text)) (go_keep) (fail)
  rename_i hHeld
  clear hHeld
  go_wp2
  exact bodyPost_ret (v := t.val) (by simp [results, Try.results79, go_sem]) rfl ⟨rfl, ((Below.refl _ _).alloc (Nat.le_refl _) _).drew⟩
set_option maxHeartbeats 1000000 in
set_option maxRecDepth 100000 in
theorem step_any (w : World) (X : Nat → Prop) (b : Nat) (ts : List Tk) (p : PS) (h : Par w X b ts p) (hn : p.next < ts.length) (hl : ts.length ≤ 1501) :
    Calls Try.prog 127 #[.pointer (some ⟨b, 0, none⟩)] w fun e w' => e = .returned (.tuple #[]) ∧ Par w' X b ts (p.adv ts) ∧ Fr X w w' := by
  obtain ⟨vt, vd, vn, hp⟩ := h
  obtain ⟨c0, c1, _⟩ := hp.cell
  have f1 := hp.froz 1
  obtain ⟨g, cap, rfl, _, glt⟩ := hp.toks.form (by omega)
  have lb := hp.lt
  have hpn : ∀ n, ParV (w.drewN n) X b ts p _ vd vn := fun n => hp.below (below_drewN (Below.refl _ _) n)
  have HX : Hid (∀ n, Fr X w (w.drewN n)) := hide (fun n => Fr.of_below (below_drewN (Below.refl _ _) n) hp.xlt)
  have HPN := hide hpn
  clear hpn
  by_cases hs : p.next + 1 < ts.length
  · have i1 : (p.next : Int) + 1 < (ts.length : Int) := by omega
    go_enter Try.func127, Try.ntmps127
    go_wp2_with fail
    go_quiet (fail)
    go_wp2
    go_end0
    refine ⟨rfl, ?_⟩
    have e : p.adv ts = { p with next := p.next + 1 } := by unfold PS.adv; rw [if_pos hs]
    obtain ⟨h1, h2⟩ := (HPN.out nq).set (p' := p.adv ts) 1 (.int .i64 ((p.next : Int) + 1)) (by simp) (by simp) (by rw [e]; simp)
    exact ⟨⟨_, _, _, h1⟩, (HX.out nq).trans h2⟩
  · have i1 : ¬ (p.next : Int) + 1 < (ts.length : Int) := by omega
    go_enter Try.func127, Try.ntmps127
    go_wp2_with fail
    go_quiet (fail)
    go_wp2
    go_end0
    refine ⟨rfl, ?_⟩
    have e : p.adv ts = p := by unfold PS.adv; rw [if_neg hs]
    rw [e]
    exact ⟨⟨_, _, _, HPN.out nq⟩, HX.out nq⟩
theorem Par.below {w w' : World} {X : Nat → Prop} {b : Nat} {ts : List Tk} {p : PS} (h : Par w X b ts p) (hb : Below w.heap.size w w') : Par w' X b ts p := by
  obtain ⟨vt, vd, vn, hp⟩ := h
  exact ⟨vt, vd, vn, hp.below hb⟩
theorem Par.xlt {w : World} {X : Nat → Prop} {b : Nat} {ts : List Tk} {p : PS} (h : Par w X b ts p) : ∀ k, X k → k < w.heap.size := by
  obtain ⟨vt, vd, vn, hp⟩ := h
  exact hp.xlt
theorem Par.fr {w w' : World} {X : Nat → Prop} {b : Nat} {ts : List Tk} {p : PS} (h : Par w X b ts p) (hb : Below w.heap.size w w') : Fr X w w' := Fr.of_below hb h.xlt
theorem Par.more {w w' : World} {X Y : Nat → Prop} {b : Nat} {ts : List Tk} {p : PS} (h : Par w X b ts p) (hb : Below w.heap.size w w') (hY : ∀ k, Y k → X k ∨ (w.heap.size ≤ k ∧ k < w'.heap.size)) : Par w' Y b ts p := by
  obtain ⟨vt, vd, vn, hp⟩ := h
  have hp' := hp.below hb
  refine ⟨vt, vd, vn, hp'.at_b, hp'.toks, hp'.decls, hp'.nodes, hp.tb, hp.db, hp.nb, hp.td, hp.tn, hp.dn, ?_, ?_, ?_, ?_, ?_⟩
  · intro k hk
    rcases hY k hk with h1 | h1
    · exact hp'.xlt k h1
    · exact h1.2
  · intro hk
    rcases hY b hk with h1 | h1
    · exact hp.xb h1
    · have := hp.lt; omega
  · intro g hg hk
    rcases hY g hk with h1 | h1
    · exact hp.xd g hg h1
    · have := (hp.decls.lt g hg).2; omega
  · intro g hg hk
    rcases hY g hk with h1 | h1
    · exact hp.xn g hg h1
    · have := (hp.nodes.lt g hg).2; omega
  · intro g hg hk
    rcases hY g hk with h1 | h1
    · exact hp.xt g hg h1
    · have := (hp.toks.lt g hg).2; omega
theorem Par.less {w : World} {X Y : Nat → Prop} {b : Nat} {ts : List Tk} {p : PS} (h : Par w X b ts p) (hY : ∀ k, Y k → X k) : Par w Y b ts p := by
  obtain ⟨vt, vd, vn, hp⟩ := h
  exact ⟨vt, vd, vn, hp.at_b, hp.toks, hp.decls, hp.nodes, hp.tb, hp.db, hp.nb, hp.td, hp.tn, hp.dn, fun k hk => hp.xlt k (hY k hk), fun hk => hp.xb (hY b hk), fun g hg hk => hp.xd g hg (hY g hk), fun g hg hk => hp.xn g hg (hY g hk), fun g hg hk => hp.xt g hg (hY g hk)⟩
theorem Par.poke {w : World} {X : Nat → Prop} {b N i : Nat} {u : Value} {ts : List Tk} {p : PS} (h : Par w X b ts p) (hN : X N) : Par (w.setCell ⟨N, i, none⟩ u) X b ts p := by
  obtain ⟨vt, vd, vn, h⟩ := h
  have hb : b ≠ N := by rintro rfl; exact h.xb hN
  have hg : w.grownBy (w.setCell ⟨N, i, none⟩ u) (some N) := ⟨rfl, rfl, rfl, by simp, fun k _ hk => heap_setCell_other w ⟨N, i, none⟩ k u (fun e => hk (by simp [e]))⟩
  exact ⟨vt, vd, vn, (heap_setCell_other w ⟨N, i, none⟩ b u hb).trans h.at_b, h.toks.kept hg (.inr fun e => h.xt N e hN), h.decls.kept hg (.inr fun e => h.xd N e hN), h.nodes.kept hg (.inr fun e => h.xn N e hN), h.tb, h.db, h.nb, h.td, h.tn, h.dn, fun k hk => by simpa using h.xlt k hk, h.xb, h.xd, h.xn, h.xt⟩
def Res (w' : World) (X : Nat → Prop) (b : Nat) (ts : List Tk) (dl : Nat) (e : Ending) (ok : PS → Value) (no : Ending → Prop) : Except Nat PS → Prop
  | .ok p' => e = .returned (ok p') ∧ Par w' X b ts p'
  | .error k => no e ∧ ∃ p', Par w' X b ts p' ∧ p'.next = k ∧ k < ts.length ∧ p'.delays = dl
theorem bel_own {w w' : World} {base e size n : Nat} {v : Value} {xs : List Value} (h : w.ownsRow base e size v n xs) (hb : Below w.heap.size w w') : w'.ownsRow base e size v n xs :=
  h.kept (row := none) ⟨hb.os, hb.tape, hb.output, hb.size, fun k hk _ => hb.block k hk⟩ (by cases v.ownBlock <;> simp)
theorem own_zero {w : World} {B e size n : Nat} {v : Value} {xs : List Value} (h : w.ownsRow B e size v n xs) : w.ownsRow 0 e size v n xs := by
  refine ⟨h.1, ?_⟩
  rcases h.2 with h0 | ⟨g, cap, cur, hv, _, hr⟩
  · exact .inl h0
  · exact .inr ⟨g, cap, cur, hv, Nat.zero_le _, hr⟩
theorem hat_le {o : Option Nat} {g H S : Nat} (h : o = some g ∨ g = H) (hS : S ≤ H) : o = some g ∨ S ≤ g := h.imp id (fun e => by omega)
end Go.Proofs.Ytmndgoapkmhglab
namespace Go.Proofs.Ytmndgoapkmhglab
open Go.RowKit
attribute [local go_sem ↓] Go.wp_at_zero Go.wp_at_succ
attribute [local go_sem] Try.fieldTok0 Try.fieldTok1 Try.fieldTok2
set_option maxHeartbeats 1000000 in
set_option maxRecDepth 100000 in
theorem take_yes (w : World) (X : Nat → Prop) (b : Nat) (ts : List Tk) (p : PS) (l : List UInt8) (h : Par w X b ts p) (hn : p.next < ts.length) (hl : ts.length ≤ 1501) (he : (p.hd ts).l = l) :
    Calls Try.prog 129 #[.pointer (some ⟨b, 0, none⟩), .string ⟨l.toArray⟩] w fun e w' => e = .returned (.bool true) ∧ Par w' X b ts (p.adv ts) ∧ Fr X w w' := by
  have hX := h.xlt
  have q1 := str_yes he
  clear he
  go_enter Try.func129, Try.ntmps129
  go_wp2_with fail
  refine (here_any w X b ts p h hn hl).mono ?_
  rintro e w1 ⟨rfl, hb1⟩
  go_wp2_with fail
  refine (step_any w1 X b ts p (h.below hb1) hn hl).mono ?_
  rintro e w2 ⟨rfl, hp2, hb2⟩
  go_wp2_with fail
  go_ret
  exact ⟨rfl, hp2, (Fr.of_below hb1 hX).trans hb2⟩
set_option maxHeartbeats 1000000 in
set_option maxRecDepth 100000 in
theorem take_no (w : World) (X : Nat → Prop) (b : Nat) (ts : List Tk) (p : PS) (l : List UInt8) (h : Par w X b ts p) (hn : p.next < ts.length) (hl : ts.length ≤ 1501) (he : (p.hd ts).l ≠ l) :
    Calls Try.prog 129 #[.pointer (some ⟨b, 0, none⟩), .string ⟨l.toArray⟩] w fun e w' => e = .returned (.bool false) ∧ Par w' X b ts p ∧ Fr X w w' := by
  have hX := h.xlt
  have q1 := str_no he
  clear he
  go_enter Try.func129, Try.ntmps129
  go_wp2_with fail
  refine (here_any w X b ts p h hn hl).mono ?_
  rintro e w1 ⟨rfl, hb1⟩
  go_wp2_with fail
  go_ret
  exact ⟨rfl, h.below hb1, Fr.of_below hb1 hX⟩
theorem take_any (w : World) (X : Nat → Prop) (b : Nat) (ts : List Tk) (p : PS) (l : List UInt8) (h : Par w X b ts p) (hn : p.next < ts.length) (hl : ts.length ≤ 1501) :
    Calls Try.prog 129 #[.pointer (some ⟨b, 0, none⟩), .string ⟨l.toArray⟩] w fun e w' =>
      Res w' X b ts p.delays e (fun _ => .bool true) (fun e => e = .returned (.bool false)) (p.take ts l) ∧ Fr X w w' := by
  by_cases he : (p.hd ts).l = l
  · refine (take_yes w X b ts p l h hn hl he).mono ?_
    rintro e w' ⟨h1, h2, h3⟩
    refine ⟨?_, h3⟩
    unfold PS.take
    rw [if_pos he]
    exact ⟨h1, h2⟩
  · refine (take_no w X b ts p l h hn hl he).mono ?_
    rintro e w' ⟨h1, h2, h3⟩
    refine ⟨?_, h3⟩
    unfold PS.take
    rw [if_neg he]
    exact ⟨h1, p, h2, rfl, hn, rfl⟩
set_option maxHeartbeats 1000000 in
theorem valueOf_any (t : ByteArray) (w : World) (ht : t.size ≤ 18) (hd : ∀ c ∈ t.data.toList, 48 ≤ c.toNat ∧ c.toNat ≤ 57) :
    Calls Try.prog 135 #[.string t] w fun e w' => e = .returned (.int .i64 (valOf t.data.toList : Nat)) ∧ w = w' := by
  go_enter Try.func135, Try.ntmps135
  go_wp2
  go_loop [3, 4] (fun v i => ∃ k : Nat, k ≤ t.size ∧ i = .int .i64 k ∧ v = .int .i64 (valN t.data.toList k : Nat)) (fun _ i => t.size - (intOf i).toNat)
  case atStart => exact ⟨0, by omega, rfl, rfl⟩
  case round =>
    obtain ⟨k, hk, rfl, rfl⟩ := hrel
    by_cases hlt : k < t.size
    · have hl : k < t.data.toList.length := by rw [size_len]; exact hlt
      have hb := valN_17 t.data.toList hd k (by omega) (by omega)
      have HV : Hid (valN t.data.toList (k + 1) = valN t.data.toList k * 10 + ((t[k]'hlt).toNat - 48)) := hide (by rw [valN_succ _ k hl]; rfl)
      have h48 : 48 ≤ (t[k]'hlt).toNat ∧ (t[k]'hlt).toNat ≤ 57 := hd _ (List.getElem_mem (h := hl))
      obtain ⟨h48, h57⟩ := h48
      clear hd
      generalize valN t.data.toList k = V at *
      go_wp2
      go_round
      case rel => exact ⟨k + 1, by omega, by go_num, by rw [HV.out]; go_num⟩
      case measure => simp [intOf]; omega
    · go_wp2
      go_ret
      exact ⟨ret_intN (by rw [← valN_all, size_len, show k = t.size by omega]), rfl⟩
set_option maxHeartbeats 1000000 in
theorem isLiteral_any (n : Nd) (w : World) :
    Calls Try.prog 143 #[n.val] w fun e w' => e = .returned (.bool (isLit n)) ∧ Below w.heap.size w w' := by
  by_cases h0 : n.kind = 0
  · have HF : Hid (isLit n = true) := hide (by simp [isLit, h0])
    have q0 : ((n.kind : Int) == 0) = true := by rw [h0]; rfl
    clear h0
    go_enter Try.func143, Try.ntmps143
    go_wp2
    go_ret
    exact ⟨by rw [HF.out]; rfl, (Below.refl _ _).alloc (Nat.le_refl _) _⟩
  · have q0 : ((n.kind : Int) == 0) = false := by rw [beq_eq_false_iff_ne]; omega
    by_cases h1 : n.kind = 1
    · have HF : Hid (isLit n = true) := hide (by simp [isLit, h1])
      have q1 : ((n.kind : Int) == 1) = true := by rw [h1]; rfl
      clear h0 h1
      go_enter Try.func143, Try.ntmps143
      go_wp2
      go_ret
      exact ⟨by rw [HF.out]; rfl, (Below.refl _ _).alloc (Nat.le_refl _) _⟩
    · have HF : Hid (isLit n = false) := hide (by simp [isLit, h0, h1])
      have q1 : ((n.kind : Int) == 1) = false := by rw [beq_eq_false_iff_ne]; omega
      clear h0 h1
      go_enter Try.func143, Try.ntmps143
      go_wp2
      go_ret
      exact ⟨by rw [HF.out]; rfl, (Below.refl _ _).alloc (Nat.le_refl _) _⟩
def opVal (o : Option Nat) : Value := match o with
  | some k => .tuple #[.int .i64 (k : Int), .bool true]
  | none => .tuple #[.int .i64 0, .bool false]
set_option maxHeartbeats 2000000 in
theorem operation_any (t : ByteArray) (w : World) :
    Calls Try.prog 145 #[.string t] w fun e w' => e = .returned (opVal (opOf t.data.toList)) ∧ w = w' := by
  have hc : t.data.toList = [43] ∨ t.data.toList = [45] ∨ t.data.toList = [42] ∨ t.data.toList = [47] ∨ t.data.toList = [60] ∨ t.data.toList = [61] ∨ t.data.toList = [38] ∨ t.data.toList = [124] ∨
      (t.data.toList ≠ [43] ∧ t.data.toList ≠ [45] ∧ t.data.toList ≠ [42] ∧ t.data.toList ≠ [47] ∧ t.data.toList ≠ [60] ∧ t.data.toList ≠ [61] ∧ t.data.toList ≠ [38] ∧ t.data.toList ≠ [124]) := by
    simp only [Ne]
    generalize t.data.toList = l
    by_cases h1 : l = [43]
    · exact .inl h1
    by_cases h2 : l = [45]
    · exact .inr (.inl h2)
    by_cases h3 : l = [42]
    · exact .inr (.inr (.inl h3))
    by_cases h4 : l = [47]
    · exact .inr (.inr (.inr (.inl h4)))
    by_cases h5 : l = [60]
    · exact .inr (.inr (.inr (.inr (.inl h5))))
    by_cases h6 : l = [61]
    · exact .inr (.inr (.inr (.inr (.inr (.inl h6)))))
    by_cases h7 : l = [38]
    · exact .inr (.inr (.inr (.inr (.inr (.inr (.inl h7))))))
    by_cases h8 : l = [124]
    · exact .inr (.inr (.inr (.inr (.inr (.inr (.inr (.inl h8)))))))
    exact .inr (.inr (.inr (.inr (.inr (.inr (.inr (.inr ⟨h1, h2, h3, h4, h5, h6, h7, h8⟩)))))))
  rcases hc with h | h | h | h | h | h | h | h | ⟨h1, h2, h3, h4, h5, h6, h7, h8⟩
  all_goals try (
    have HF := hide (congrArg opOf h)
    have et := str_yes h
    clear h
    go_enter Try.func145, Try.ntmps145
    go_wp2
    go_ret2
    exact ⟨by rw [HF.out]; rfl, rfl⟩)
  have HF : Hid (opOf t.data.toList = none) := hide (by unfold opOf; rw [if_neg h1, if_neg h2, if_neg h3, if_neg h4, if_neg h5, if_neg h6, if_neg h7, if_neg h8])
  have q1 := str_no h1
  have q2 := str_no h2
  have q3 := str_no h3
  have q4 := str_no h4
  have q5 := str_no h5
  have q6 := str_no h6
  have q7 := str_no h7
  have q8 := str_no h8
  clear h1 h2 h3 h4 h5 h6 h7 h8
  go_enter Try.func145, Try.ntmps145
  go_wp2
  go_ret2
  exact ⟨by rw [HF.out]; rfl, rfl⟩
end Go.Proofs.Ytmndgoapkmhglab
