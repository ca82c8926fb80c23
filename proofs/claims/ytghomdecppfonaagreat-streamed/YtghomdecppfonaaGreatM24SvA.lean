import Derived.Test.YtghomdecppfonaaGreatM13StrB
import Derived.Test.YtghomdecppfonaaGreatM15RefClass
import Derived.Test.YtghomdecppfonaaGreatM23RefHa
namespace Go.Proofs.YtghomdecppfonaaGreat
open Go.RowKit
attribute [local go_sem ↓] Go.wp_at_zero Go.wp_at_succ

/-- a program as the document's own reader has laid it. -/
structure RProg (w : World) (q g cap : Nat) (ts : List Tk) (L : List Dl) (vE vA vI vQ : Value) : Prop where
  lt : q < w.heap.size
  c0 : w.cell? ⟨q, 0, none⟩ = some (.slice (some ⟨g, 0, none⟩) ts.length cap)
  c1 : w.cell? ⟨q, 1, none⟩ = some vE
  c2 : w.cell? ⟨q, 2, none⟩ = some vA
  c3 : w.cell? ⟨q, 3, none⟩ = some vI
  c4 : w.cell? ⟨q, 4, none⟩ = some vQ
  toks : TokAt w g cap ts
  ends : w.ownsRow 0 3 1 vE ts.length (pCells ((List.range ts.length).map (behindF ts)))
  all : w.ownsRow 0 104 6 vA L.length (rdCells (L.map (rdc ts)))
  ins : w.ownsRow 0 104 6 vI (inL L).length (rdCells ((inL L).map (rdc ts)))
  eqs : w.ownsRow 0 104 6 vQ (eqL L).length (rdCells ((eqL L).map (rdc ts)))

theorem RProg.below {w w' : World} {q g cap : Nat} {ts : List Tk} {L : List Dl} {vE vA vI vQ : Value} (h : RProg w q g cap ts L vE vA vI vQ) (hb : Below w.heap.size w w') : RProg w' q g cap ts L vE vA vI vQ :=
  ⟨Nat.lt_of_lt_of_le h.lt hb.size, (hb.cell h.lt).trans h.c0, (hb.cell h.lt).trans h.c1, (hb.cell h.lt).trans h.c2, (hb.cell h.lt).trans h.c3, (hb.cell h.lt).trans h.c4, h.toks.below hb, bel_own h.ends hb, bel_own h.all hb, bel_own h.ins hb, bel_own h.eqs hb⟩

/-- what holds of a text's tokens and declarations. -/
structure ROk (ts : List Tk) (L : List Dl) : Prop where
  F : ∀ i, TkF (tkAt ts i)
  E : ∀ i, (tkAt ts i).kind = 0 → ts.length ≤ i + 1
  len : ts.length ≤ 1501
  pos : 0 < ts.length
  sp : Spell ts L 0

theorem ROk.mem {ts : List Tk} {L : List Dl} (h : ROk ts L) {x : Dl} (hx : x ∈ L) : x.i + x.len < ts.length ∧ DlOk ts x := (spell_mem L 0 h.sp x hx).2
theorem ROk.eq {ts : List Tk} {L : List Dl} (h : ROk ts L) {x : Dl} (hx : x ∈ eqL L) : x ∈ L ∧ x.kind ≠ 0 ∧ Sp ts x.t (x.i + 5) ∧ x.i + 5 + x.t.len < ts.length ∧ placeD ts x < 4 := by
  have hm := List.mem_filter.1 hx
  have hk : x.kind ≠ 0 := by simpa using hm.2
  obtain ⟨h1, h2⟩ := h.mem hm.1
  have hl : x.len = x.t.len + 6 := by unfold Dl.len; rw [if_neg hk]
  refine ⟨hm.1, hk, ?_, by omega, ?_⟩
  · rcases h2 with ⟨h, _⟩ | ⟨_, _, _, _, _, h, _⟩
    · exact absurd h hk
    · exact h
  · rcases h2 with ⟨h, _⟩ | ⟨_, _, _, h, _⟩
    · exact absurd h hk
    · exact h.2
theorem spell_len {ts : List Tk} : ∀ (L : List Dl) (i : Nat), Spell ts L i → L.length + i ≤ ts.length := by
  intro L
  induction L with
  | nil => intro i h; have := h.1; simp; omega
  | cons x r ih => intro i h; have := ih _ h.2.2.2; have := Dl.len_pos x; simp; omega
theorem ROk.many {ts : List Tk} {L : List Dl} (h : ROk ts L) : L.length ≤ 1501 ∧ (eqL L).length ≤ 1501 ∧ (inL L).length ≤ 1501 := by
  have h1 := spell_len L 0 h.sp
  have h2 := h.len
  have h3 := List.length_filter_le (fun x : Dl => x.kind != 0) L
  have h4 := List.length_filter_le (fun x : Dl => x.kind == 0) L
  exact ⟨by omega, by unfold eqL; omega, by unfold inL; omega⟩

abbrev RDc.val (d : RDc) : Value := .agg #[.string d.name, .int .i64 (d.tok : Int), .bool d.input, .bool d.truth, .int .i64 (d.place : Int), .int .i64 (d.body : Int)]

theorem rd_later {w wr : World} {g cap : Nat} {ts : List Tk} {l : List Dl} (h : w.ownsRow 0 104 6 (.slice (some ⟨g, 0, none⟩) l.length cap) l.length (rdCells (l.map (rdc ts)))) (hb : Below w.heap.size w wr) (hg : g < w.heap.size) {k : Nat} (hk : k < l.length) (a : RDc) (ha : a = rdc ts (l[k]'hk)) :
    wr.cell? ⟨g, k * 6, none⟩ = some (.string a.name) ∧ wr.cell? ⟨g, k * 6 + 1, none⟩ = some (.int .i64 (a.tok : Int)) ∧ wr.cell? ⟨g, k * 6 + 2, none⟩ = some (.bool a.input) ∧ wr.cell? ⟨g, k * 6 + 3, none⟩ = some (.bool a.truth) ∧
    wr.cell? ⟨g, k * 6 + 4, none⟩ = some (.int .i64 (a.place : Int)) ∧ wr.cell? ⟨g, k * 6 + 5, none⟩ = some (.int .i64 (a.body : Int)) := by
  have hcr : ∀ j, j < 6 → wr.cell? ⟨g, k * 6 + j, none⟩ = a.cells[j]? := fun j hj => by
    rw [hb.cell (p := ⟨g, k * 6 + j, none⟩) hg, h.cellAt (k * 6 + j) (by omega)]
    have e := flat_get RDc.cells 6 rd_len (l.map (rdc ts)) k j (by simpa using hk) hj
    rw [List.getElem_map, ← ha] at e
    exact e
  exact ⟨hcr 0 (by omega), hcr 1 (by omega), hcr 2 (by omega), hcr 3 (by omega), hcr 4 (by omega), hcr 5 (by omega)⟩

theorem end_later {w wr : World} {g cap : Nat} {ts : List Tk} (h : w.ownsRow 0 3 1 (.slice (some ⟨g, 0, none⟩) ts.length cap) ts.length (pCells ((List.range ts.length).map (behindF ts)))) (hb : Below w.heap.size w wr) (hg : g < w.heap.size) {k : Nat} (hk : k < ts.length) :
    wr.cell? ⟨g, k, none⟩ = some (.int .i64 (behindF ts k : Nat)) := by
  rw [hb.cell (p := ⟨g, k, none⟩) hg, h.cellAt k (by omega)]
  unfold pCells
  rw [List.getElem?_map, List.getElem?_map, List.getElem?_range hk]
  rfl

set_option maxHeartbeats 1000000 in
theorem rplace_any (w : World) (q g cap : Nat) (ts : List Tk) (L : List Dl) (vE vA vI vQ : Value) (h : RProg w q g cap ts L vE vA vI vQ) (d : RDc) (hd : d.tok < ts.length) :
    Calls Tryz.prog 49 #[.pointer (some ⟨q, 0, none⟩), d.val] w fun e w' => e = .returned (.int .i64 ((tkAt ts d.tok).pos : Nat)) ∧ Below w.heap.size w w' := by
  have c0 : ∀ o, (w.alloc o).cell? ⟨q, 0, none⟩ = some (.slice (some ⟨g, 0, none⟩) ts.length cap) := fun o => by rw [World.cell?_alloc_past _ _ _ h.lt]; exact h.c0
  obtain ⟨a, ha⟩ : ∃ a, a = rtok (tkAt ts d.tok) := ⟨_, rfl⟩
  have x2 : ∀ o, (w.alloc o).cell? ⟨g, d.tok * 4 + 2, none⟩ = some (.int .i64 (a.pos : Int)) := fun o => by
    rw [World.cell?_alloc_past _ _ _ h.toks.lt]; exact (h.toks.cells (Below.refl _ _) hd a ha).2.2.1
  have HP : Hid ((tkAt ts d.tok).pos = a.pos) := hide (by rw [ha]; rfl)
  have j1 : (0 : Int) ≤ (d.tok : Int) := by omega
  have j2 : (d.tok : Int) < (ts.length : Int) := by omega
  clear h ha
  go_enter Tryz.func49, Tryz.ntmps49
  go_wp2_with fail
  go_quiet (fail)
  go_wp2
  go_ret
  exact ⟨by rw [HP.out]; rfl, below_drewN ((Below.refl _ _).alloc (Nat.le_refl _) _) _⟩

/-- a place, or -1. -/
def optI (o : Option Nat) : Value := .int .i64 (match o with | some a => (a : Int) | none => -1)

end Go.Proofs.YtghomdecppfonaaGreat

/- Lists of numbers as they lie; rows of numbers of one's own. -/
namespace Go.Proofs.YtghomdecppfonaaGreat
open Go.RowKit
attribute [local go_sem ↓] Go.wp_at_zero Go.wp_at_succ

/-- numbers, as they lie. -/
def RowAt (w : World) (v : Value) (zs : List Int) : Prop :=
  ∃ (A : Option Addr) (C : Nat), v = .slice A zs.length C ∧ zs.length ≤ 35184372088832 ∧ (0 < zs.length → ∃ b o, A = some ⟨b, o, none⟩ ∧ b < w.heap.size ∧ ∀ c, (h : c < zs.length) → w.cell? ⟨b, o + c, none⟩ = some (.int .i64 zs[c]))
/-- lists of numbers, as they lie. -/
def LsAt (w : World) (v : Value) (ins : List (List Int)) : Prop :=
  ∃ (A : Option Addr) (C : Nat), v = .slice A ins.length C ∧ ins.length ≤ 8796093022208 ∧ (0 < ins.length → ∃ b o, A = some ⟨b, o, none⟩ ∧ b < w.heap.size ∧ ∀ r, (h : r < ins.length) → ∃ x, w.cell? ⟨b, o + r, none⟩ = some x ∧ RowAt w x ins[r])

theorem RowAt.below {w w' : World} {v : Value} {zs : List Int} (h : RowAt w v zs) (hb : Below w.heap.size w w') : RowAt w' v zs := by
  obtain ⟨A, C, hv, hm, hc⟩ := h
  refine ⟨A, C, hv, hm, fun hp => ?_⟩
  obtain ⟨b, o, h1, h2, h3⟩ := hc hp
  exact ⟨b, o, h1, Nat.lt_of_lt_of_le h2 hb.size, fun c hc => (hb.cell (p := ⟨b, o + c, none⟩) h2).trans (h3 c hc)⟩
theorem LsAt.below {w w' : World} {v : Value} {ins : List (List Int)} (h : LsAt w v ins) (hb : Below w.heap.size w w') : LsAt w' v ins := by
  obtain ⟨A, C, hv, hm, hc⟩ := h
  refine ⟨A, C, hv, hm, fun hp => ?_⟩
  obtain ⟨b, o, h1, h2, h3⟩ := hc hp
  refine ⟨b, o, h1, Nat.lt_of_lt_of_le h2 hb.size, fun r hr => ?_⟩
  obtain ⟨x, hx, hr⟩ := h3 r hr
  exact ⟨x, (hb.cell (p := ⟨b, o + r, none⟩) h2).trans hx, hr.below hb⟩

/-- rows of numbers of one's own: m of them, of n numbers each. -/
structure MatI (w : World) (g m n : Nat) (R : Nat → Nat) (F : Nat → Nat → Int) : Prop where
  outer : ∀ i, i < m → w.cell? ⟨g, i, none⟩ = some (.slice (some ⟨R i, 0, none⟩) n n)
  rows : ∀ i, i < m → w.rowIs (R i) 3 n (fun j => .int .i64 (F i j))
  inj : ∀ i j, i < m → j < m → R i = R j → i = j
  ne : ∀ i, i < m → R i ≠ g

theorem MatI.congr {w : World} {g m n : Nat} {R : Nat → Nat} {F F' : Nat → Nat → Int} (h : MatI w g m n R F) (e : ∀ i j, i < m → j < n → F i j = F' i j) : MatI w g m n R F' :=
  ⟨h.outer, fun i hi => (h.rows i hi).congr (fun j hj => by rw [e i j hi hj]), h.inj, h.ne⟩
theorem MatI.cell {w : World} {g m n : Nat} {R : Nat → Nat} {F : Nat → Nat → Int} (h : MatI w g m n R F) {i j : Nat} (hi : i < m) (hj : j < n) : w.cell? ⟨R i, j, none⟩ = some (.int .i64 (F i j)) := (h.rows i hi).cell hj
theorem MatI.froz {w : World} {g m n : Nat} {R : Nat → Nat} {F : Nat → Nat → Int} (h : MatI w g m n R F) {i : Nat} (hi : i < m) (j : Nat) : w.frozen? ⟨R i, j, none⟩ = false := (h.rows i hi).frozen j
theorem MatI.set {w : World} {g m n : Nat} {R : Nat → Nat} {F : Nat → Nat → Int} (h : MatI w g m n R F) {a : Nat} (ha : a < m) (b : Nat) (v : Int) : MatI (w.setCell ⟨R a, b, none⟩ (.int .i64 v)) g m n R (fun i k => if i = a ∧ k = b then v else F i k) := by
  refine ⟨fun i hi => ?_, fun i hi => ?_, h.inj, h.ne⟩
  · rw [← h.outer i hi]
    exact World.cell?_setCell_other _ _ _ _ (by intro e; exact h.ne a ha (congrArg Addr.block e))
  · by_cases e : i = a
    · subst e
      refine ((h.rows i hi).set b (.int .i64 v)).congr (fun j _ => ?_)
      by_cases ej : j = b
      · subst ej; simp
      · simp [ej]
    · refine ((h.rows i hi).setOther (a := ⟨R a, b, none⟩) (fun e2 => e (h.inj i a hi ha e2)) (.int .i64 v)).congr (fun j _ => ?_)
      simp [e]
/-- other blocks may turn. -/
theorem MatI.keep {w w' : World} {g m n : Nat} {R : Nat → Nat} {F : Nat → Nat → Int} (h : MatI w g m n R F) (hg : w'.heap[g]? = w.heap[g]?) (hr : ∀ i, i < m → w'.heap[R i]? = w.heap[R i]?) : MatI w' g m n R F :=
  ⟨fun i hi => (World.cell?_of_block (w := w) (a := ⟨g, i, none⟩) hg).trans (h.outer i hi), fun i hi => (h.rows i hi).of_block (hr i hi), h.inj, h.ne⟩
theorem MatI.lt {w : World} {g m n : Nat} {R : Nat → Nat} {F : Nat → Nat → Int} (h : MatI w g m n R F) (hm : 0 < m) : g < w.heap.size := World.block_lt_of_cell? _ _ (h.outer 0 hm)
theorem MatI.below {w w' : World} {g m n : Nat} {R : Nat → Nat} {F : Nat → Nat → Int} (h : MatI w g m n R F) (hb : Below w.heap.size w w') : MatI w' g m n R F :=
  ⟨fun i hi => (hb.cell (p := ⟨g, i, none⟩) (h.lt (by omega))).trans (h.outer i hi), fun i hi => (h.rows i hi).of_block (hb.block _ (World.rowIs.lt (h.rows i hi))), h.inj, h.ne⟩

end Go.Proofs.YtghomdecppfonaaGreat

/- reckon: single operations; element. -/
namespace Go.Proofs.YtghomdecppfonaaGreat
open Go.RowKit
attribute [local go_sem ↓] Go.wp_at_zero Go.wp_at_succ

theorem truth_any (w : World) (b : Bool) :
    Calls Tryz.prog 91 #[.bool b] w fun e w' => e = .returned (.int .i64 (b2i b)) ∧ w = w' := by
  cases b
  all_goals
    go_enter Tryz.func91, Tryz.ntmps91
    go_wp2
    go_ret
    exact ⟨rfl, rfl⟩

theorem rknot_any (w : World) (a : Int) :
    Calls Tryz.prog 68 #[.int .i64 a] w fun e w' => e = .returned (.int .i64 (b2i (decide (a = 0)))) ∧ w = w' := by
  have HN := hide (fun W b => truth_any W b)
  go_enter Tryz.func68, Tryz.ntmps68
  go_wp2_with fail
  refine (HN.out _ _).mono ?_
  rintro e w1 ⟨rfl, rfl⟩
  go_wp2
  go_ret
  exact ⟨rfl, rfl⟩

def choF (a b c : Int) : Int := if a ≠ 0 then b else c
theorem choose_any (w : World) (a b c : Int) :
    Calls Tryz.prog 69 #[.int .i64 a, .int .i64 b, .int .i64 c] w fun e w' => e = .returned (.int .i64 (choF a b c)) ∧ w = w' := by
  by_cases h : a = 0
  · have HF : Hid (choF a b c = c) := hide (by unfold choF; rw [if_neg (by simpa using h)])
    have q : (a != 0) = false := by rw [h]; rfl
    clear h
    go_enter Tryz.func69, Tryz.ntmps69
    go_wp2
    go_ret
    exact ⟨by rw [HF.out]; rfl, rfl⟩
  · have HF : Hid (choF a b c = b) := hide (by unfold choF; rw [if_pos h])
    have q : (a != 0) = true := by rw [bne_iff_ne]; exact h
    clear h
    go_enter Tryz.func69, Tryz.ntmps69
    go_wp2
    go_ret
    exact ⟨by rw [HF.out]; rfl, rfl⟩

def quoF (a b : Int) : Int := if b = 0 then 0 else if b = -1 then w64 (0 - a) else w64 (a.tdiv b)
theorem quotient_any (w : World) (a b : Int) :
    Calls Tryz.prog 92 #[.int .i64 a, .int .i64 b] w fun e w' => e = .returned (.int .i64 (quoF a b)) ∧ w = w' := by
  by_cases h : b = 0
  · have HF : Hid (quoF a b = 0) := hide (by unfold quoF; rw [if_pos h])
    have q : (b == 0) = true := by rw [h]; rfl
    clear h
    go_enter Tryz.func92, Tryz.ntmps92
    go_wp2
    go_ret
    exact ⟨by rw [HF.out]; rfl, rfl⟩
  have q : (b == 0) = false := by rw [beq_eq_false_iff_ne]; exact h
  by_cases h1 : b = -1
  · have HF : Hid (quoF a b = w64 (-a)) := hide (by unfold quoF; rw [if_neg h, if_pos h1, Int.zero_sub])
    have q1 : (b == -1) = true := by rw [h1]; rfl
    clear h h1
    go_enter Tryz.func92, Tryz.ntmps92
    go_wp2
    go_ret
    exact ⟨by rw [HF.out]; rfl, rfl⟩
  · have HF : Hid (quoF a b = w64 (a.tdiv b)) := hide (by unfold quoF; rw [if_neg h, if_neg h1])
    have q1 : (b == -1) = false := by rw [beq_eq_false_iff_ne]; exact h1
    clear h1
    go_enter Tryz.func92, Tryz.ntmps92
    go_wp2
    go_ret
    exact ⟨by rw [HF.out]; rfl, rfl⟩

set_option maxHeartbeats 2000000 in
theorem pair_any (op : Nat) (w : World) (x y : Int) :
    Calls Tryz.prog 70 #[.int .i64 (op : Int), .int .i64 x, .int .i64 y] w fun e w' => e = .returned (.int .i64 (pairF op x y)) ∧ w = w' := by
  have HN := hide (fun W b => truth_any W b)
  have HQ := hide (fun W => quotient_any W x y)
  have no : ∀ k : Nat, op ≠ k → ((op : Int) == (k : Int)) = false := fun k h => by rw [beq_eq_false_iff_ne]; omega
  by_cases h5 : op = 5
  · have HF : Hid (pairF op x y = w64 (x + y)) := hide (by rw [h5]; rfl)
    have q : ((op : Int) == 5) = true := by rw [h5]; rfl
    clear h5 no
    go_enter Tryz.func70, Tryz.ntmps70
    go_wp2
    go_ret
    exact ⟨by rw [HF.out]; rfl, rfl⟩
  have q5 : ((op : Int) == 5) = false := no 5 h5
  by_cases h6 : op = 6
  · have HF : Hid (pairF op x y = w64 (x - y)) := hide (by rw [h6]; rfl)
    have q : ((op : Int) == 6) = true := by rw [h6]; rfl
    clear h5 h6 no
    go_enter Tryz.func70, Tryz.ntmps70
    go_wp2
    go_ret
    exact ⟨by rw [HF.out]; rfl, rfl⟩
  have q6 : ((op : Int) == 6) = false := no 6 h6
  by_cases h7 : op = 7
  · have HF : Hid (pairF op x y = w64 (x * y)) := hide (by rw [h7]; rfl)
    have q : ((op : Int) == 7) = true := by rw [h7]; rfl
    clear h5 h6 h7 no
    go_enter Tryz.func70, Tryz.ntmps70
    go_wp2
    go_ret
    exact ⟨by rw [HF.out]; rfl, rfl⟩
  have q7 : ((op : Int) == 7) = false := no 7 h7
  by_cases h8 : op = 8
  · have HF : Hid (pairF op x y = quoF x y) := hide (by rw [h8]; rfl)
    have q : ((op : Int) == 8) = true := by rw [h8]; rfl
    clear h5 h6 h7 h8 no
    go_enter Tryz.func70, Tryz.ntmps70
    go_wp2_with fail
    refine (HQ.out _).mono ?_
    rintro e w1 ⟨rfl, rfl⟩
    go_wp2
    go_ret
    exact ⟨by rw [HF.out]; rfl, rfl⟩
  have q8 : ((op : Int) == 8) = false := no 8 h8
  by_cases h9 : op = 9
  · have HF : Hid (pairF op x y = b2i (decide (x < y))) := hide (by rw [h9]; rfl)
    have q : ((op : Int) == 9) = true := by rw [h9]; rfl
    clear h5 h6 h7 h8 h9 no
    go_enter Tryz.func70, Tryz.ntmps70
    go_wp2_with fail
    refine (HN.out _ _).mono ?_
    rintro e w1 ⟨rfl, rfl⟩
    go_wp2
    go_ret
    exact ⟨by rw [HF.out]; rfl, rfl⟩
  have q9 : ((op : Int) == 9) = false := no 9 h9
  by_cases h10 : op = 10
  · have HF : Hid (pairF op x y = b2i (decide (x = y))) := hide (by rw [h10]; rfl)
    have q : ((op : Int) == 10) = true := by rw [h10]; rfl
    clear h5 h6 h7 h8 h9 h10 no
    go_enter Tryz.func70, Tryz.ntmps70
    go_wp2_with fail
    refine (HN.out _ _).mono ?_
    rintro e w1 ⟨rfl, rfl⟩
    go_wp2
    go_ret
    exact ⟨by rw [HF.out]; rfl, rfl⟩
  have q10 : ((op : Int) == 10) = false := no 10 h10
  have hcx : x = 0 ∨ (x != 0) = true := by by_cases e : x = 0 <;> simp [e]
  have hcy : y = 0 ∨ (y != 0) = true := by by_cases e : y = 0 <;> simp [e]
  by_cases h11 : op = 11
  · have HF : Hid (pairF op x y = b2i (decide (x ≠ 0) && decide (y ≠ 0))) := hide (by rw [h11]; rfl)
    have q : ((op : Int) == 11) = true := by rw [h11]; rfl
    clear h5 h6 h7 h8 h9 h10 h11 no
    rcases hcx with rfl | c1
    · go_enter Tryz.func70, Tryz.ntmps70
      go_wp2_with fail
      refine (HN.out _ _).mono ?_
      rintro e w1 ⟨rfl, rfl⟩
      go_wp2
      go_ret
      exact ⟨by rw [HF.out]; simp_all, rfl⟩
    · rcases hcy with rfl | c2
      all_goals
        go_enter Tryz.func70, Tryz.ntmps70
        go_wp2_with fail
        refine (HN.out _ _).mono ?_
        rintro e w1 ⟨rfl, rfl⟩
        go_wp2
        go_ret
        exact ⟨by rw [HF.out]; simp_all, rfl⟩
  have q11 : ((op : Int) == 11) = false := no 11 h11
  by_cases h12 : op = 12
  · have HF : Hid (pairF op x y = b2i (decide (x ≠ 0) || decide (y ≠ 0))) := hide (by rw [h12]; rfl)
    have q : ((op : Int) == 12) = true := by rw [h12]; rfl
    clear h5 h6 h7 h8 h9 h10 h11 h12 no
    rcases hcx with rfl | c1
    · rcases hcy with rfl | c2
      all_goals
        go_enter Tryz.func70, Tryz.ntmps70
        go_wp2_with fail
        refine (HN.out _ _).mono ?_
        rintro e w1 ⟨rfl, rfl⟩
        go_wp2
        go_ret
        exact ⟨by rw [HF.out]; simp_all, rfl⟩
    · go_enter Tryz.func70, Tryz.ntmps70
      go_wp2_with fail
      refine (HN.out _ _).mono ?_
      rintro e w1 ⟨rfl, rfl⟩
      go_wp2
      go_ret
      exact ⟨by rw [HF.out]; simp_all, rfl⟩
  have q12 : ((op : Int) == 12) = false := no 12 h12
  have HF : Hid (pairF op x y = 0) := hide (by unfold pairF; rw [if_neg h5, if_neg h6, if_neg h7, if_neg h8, if_neg h9, if_neg h10, if_neg h11, if_neg h12])
  clear h5 h6 h7 h8 h9 h10 h11 h12 no
  go_enter Tryz.func70, Tryz.ntmps70
  go_wp2
  go_ret
  exact ⟨by rw [HF.out]; rfl, rfl⟩

set_option maxHeartbeats 1000000 in
theorem element_any (w : World) (v : Value) (ins : List (List Int)) (h : LsAt w v ins) (i k : Nat) :
    Calls Tryz.prog 67 #[v, .int .i64 (i : Int), .int .i64 (k : Int)] w fun e w' => e = .returned (.int .i64 (elemF ins i k)) ∧ w = w' := by
  obtain ⟨A, C, rfl, hm, hc⟩ := h
  by_cases hi : i < ins.length
  · obtain ⟨b, o, rfl, hb, hr⟩ := hc (by omega)
    obtain ⟨x, hx, A', C', rfl, hm', hc'⟩ := hr i hi
    have j2 : ¬ (i : Int) ≥ (ins.length : Int) := by omega
    have i1 : (0 : Int) ≤ (i : Int) := by omega
    have i2 : (i : Int) < (ins.length : Int) := by omega
    by_cases hk : k < ins[i].length
    · obtain ⟨b', o', rfl, hb', hr'⟩ := hc' (by omega)
      have hv : elemF ins i k = ins[i][k] := by
        unfold elemF
        rw [List.getD_eq_getElem?_getD, List.getD_eq_getElem?_getD, List.getElem?_eq_getElem hi, Option.getD_some, List.getElem?_eq_getElem hk, Option.getD_some]
      have hx' := hr' k hk
      have HV := hide hv
      have k1 : (0 : Int) ≤ (k : Int) := by omega
      generalize ins[i][k] = z at hx' HV
      have k2 : (k : Int) < (ins[i].length : Int) := by omega
      have k3 : ¬ (k : Int) ≥ (ins[i].length : Int) := by omega
      clear hv hc hc' hr hr' hk
      generalize ins[i].length = n at *
      go_enter Tryz.func67, Tryz.ntmps67
      go_wp2
      go_ret
      exact ⟨by rw [HV.out]; rfl, rfl⟩
    · have hv : elemF ins i k = 0 := by
        unfold elemF
        rw [List.getD_eq_getElem?_getD, List.getD_eq_getElem?_getD, List.getElem?_eq_getElem hi, Option.getD_some, List.getElem?_eq_none (Nat.le_of_not_lt hk)]; rfl
      have HV := hide hv
      have k3 : (k : Int) ≥ (ins[i].length : Int) := by omega
      clear hv hc hc' hr
      generalize ins[i].length = n at *
      go_enter Tryz.func67, Tryz.ntmps67
      go_wp2
      go_ret
      exact ⟨by rw [HV.out]; rfl, rfl⟩
  · have hv : elemF ins i k = 0 := by
      unfold elemF
      have e : ins[i]? = none := List.getElem?_eq_none (Nat.le_of_not_lt hi)
      rw [List.getD_eq_getElem?_getD, List.getD_eq_getElem?_getD, e]; rfl
    have HV := hide hv
    have j2 : (i : Int) ≥ (ins.length : Int) := by omega
    clear hv hc
    go_enter Tryz.func67, Tryz.ntmps67
    go_wp2
    go_ret
    exact ⟨by rw [HV.out]; rfl, rfl⟩

end Go.Proofs.YtghomdecppfonaaGreat
