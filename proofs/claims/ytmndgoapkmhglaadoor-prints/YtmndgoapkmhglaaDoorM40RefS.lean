import Derived.Test.YtmndgoapkmhglaaDoorM20RePure
namespace Go.Proofs.YtmndgoapkmhglaaDoor
open Go.RowKit
attribute [local go_sem ↓] Go.wp_at_zero Go.wp_at_succ

structure Prt where
  t : Ast
  i : Nat
  w : Nat
/-- the parts of an expression, and of each what is wanted there. -/
def partsR (ts : List Tk) : Ast → Nat → Nat → List Prt
  | .leaf, _, _ => []
  | .neg a, i, _ => [⟨a, i + 2, 116⟩]
  | .ite a b c, i, w => [⟨a, i + 2, 116⟩, ⟨b, i + 2 + a.len, w⟩, ⟨c, i + 2 + a.len + b.len, w⟩]
  | .dly b, i, w => [⟨.leaf, i + 1, w⟩, ⟨b, i + 3, w⟩]
  | .bin a b, i, _ => [⟨a, i + 1, bothR (lAt ts (i + 1 + a.len))⟩, ⟨b, i + 2 + a.len, bothR (lAt ts (i + 1 + a.len))⟩]

theorem wrongR_parts (ts : List Tk) (L : List Dl) (t : Ast) (i w : Nat) : wrongR ts L t i w = if badR ts L i w then some (tkAt ts i).pos else (partsR ts t i w).findSome? fun p => wrongR ts L p.t p.i p.w := by
  have fs : ∀ (l : List Prt) (p : Prt), (p :: l).findSome? (fun p => wrongR ts L p.t p.i p.w) = (wrongR ts L p.t p.i p.w).or (l.findSome? fun p => wrongR ts L p.t p.i p.w) := by
    intro l p
    rw [List.findSome?_cons]
    cases wrongR ts L p.t p.i p.w <;> rfl
  cases t with
  | leaf => simp only [wrongR, partsR]; rfl
  | neg a => simp only [wrongR, partsR, fs, List.findSome?_nil, Option.or_none]
  | ite a b c => simp only [wrongR, partsR, fs, List.findSome?_nil, Option.or_none]
  | dly b => simp only [wrongR, partsR, fs, List.findSome?_nil, Option.or_none]
  | bin a b => simp only [wrongR, partsR, fs, List.findSome?_nil, Option.or_none]

theorem parts_ok {ts : List Tk} (hF : ∀ i, TkF (tkAt ts i)) {t : Ast} {i w : Nat} (hs : Sp ts t i) (hl : i + t.len < ts.length) : ∀ p ∈ partsR ts t i w, Sp ts p.t p.i ∧ p.i + p.t.len < ts.length ∧ p.t.size < t.size := by
  cases t with
  | leaf => intro p hp; simp [partsR] at hp
  | neg a =>
    intro p hp
    simp only [partsR, List.mem_singleton] at hp
    subst hp
    simp only [Ast.len] at hl
    exact ⟨hs.2.2.1, by show i + 2 + a.len < _; omega, by show a.size < _; simp only [Ast.size]; omega⟩
  | ite a b c =>
    intro p hp
    simp only [partsR, List.mem_cons, List.not_mem_nil, or_false] at hp
    simp only [Ast.len] at hl
    simp only [Ast.size]
    rcases hp with rfl | rfl | rfl
    · exact ⟨hs.2.2.1, by show i + 2 + a.len < _; omega, by show a.size < _; omega⟩
    · exact ⟨hs.2.2.2.1, by show i + 2 + a.len + b.len < _; omega, by show b.size < _; omega⟩
    · exact ⟨hs.2.2.2.2.1, by show i + 2 + a.len + b.len + c.len < _; omega, by show c.size < _; omega⟩
  | dly b =>
    intro p hp
    simp only [partsR, List.mem_cons, List.not_mem_nil, or_false] at hp
    simp only [Ast.len] at hl
    have hlf : leafT (tkAt ts (i + 1)) = true := by unfold leafT; rw [hs.2.1]; rfl
    have hb := b.size_pos
    rcases hp with rfl | rfl
    · exact ⟨⟨hlf, (leaf_ne2 hF hlf).2.2.1⟩, by show i + 1 + 1 < _; omega, by simp only [Ast.size]; omega⟩
    · exact ⟨hs.2.2.2.1, by show i + 3 + b.len < _; omega, by show b.size < _; simp only [Ast.size]; omega⟩
  | bin a b =>
    intro p hp
    simp only [partsR, List.mem_cons, List.not_mem_nil, or_false] at hp
    simp only [Ast.len] at hl
    simp only [Ast.size]
    rcases hp with rfl | rfl
    · exact ⟨hs.2.1, by show i + 1 + a.len < _; omega, by show a.size < _; omega⟩
    · exact ⟨hs.2.2.2.1, by show i + 2 + a.len + b.len < _; omega, by show b.size < _; omega⟩

def wCells (l : List Nat) : List Value := l.map fun (n : Nat) => Value.int .u8 (n : Int)

theorem two_rows (w : World) (A B : Array Value) (n : Nat) (hn : n ≤ 3) (ha : A.size = n) (hb : B.size = n) :
    ((w.alloc (.cells A 3)).alloc (.cells B 5)).ownsRow w.heap.size 3 1 (.slice (some ⟨w.heap.size, 0, none⟩) n n) n A.toList ∧
    ((w.alloc (.cells A 3)).alloc (.cells B 5)).ownsRow w.heap.size 5 1 (.slice (some ⟨w.heap.size + 1, 0, none⟩) n n) n B.toList ∧
    Below w.heap.size w ((w.alloc (.cells A 3)).alloc (.cells B 5)) := by
  refine ⟨(World.ownsRow_lit (base := w.heap.size) w A n (Nat.le_refl _) (by unfold maxLen; omega) (by omega)).alloc _, ?_, ((Below.refl _ _).alloc (Nat.le_refl _) _).alloc (by simp) _⟩
  have := World.ownsRow_lit (base := w.heap.size) (e := 5) (size := 1) (w.alloc (.cells A 3)) B n (by simp) (by unfold maxLen; omega) (by omega)
  simpa using this

set_option maxHeartbeats 2000000 in
theorem rparts_any (w : World) (q g cap : Nat) (ts : List Tk) (L : List Dl) (vE vA vI vQ : Value) (h : RProg w q g cap ts L vE vA vI vQ) (ho : ROk ts L) (t : Ast) (i wt : Nat) (hs : Sp ts t i) (hl : i + t.len < ts.length) :
    Calls Tryd.prog 64 #[.pointer (some ⟨q, 0, none⟩), .int .i64 (i : Int), .int .u8 (wt : Int)] w fun e w' => ∃ vl vw, e = .returned (.tuple #[vl, vw]) ∧ w'.ownsRow w.heap.size 3 1 vl (partsR ts t i wt).length (pCells ((partsR ts t i wt).map Prt.i)) ∧ w'.ownsRow w.heap.size 5 1 vw (partsR ts t i wt).length (wCells ((partsR ts t i wt).map Prt.w)) ∧ Below w.heap.size w w' := by
  have hlen := ho.len
  have hpos := ho.pos
  have hF := ho.F
  obtain ⟨gE, capE, rfl, _, hgE⟩ := h.ends.form (by omega)
  have hil : i < ts.length := by omega
  obtain ⟨a, ha⟩ : ∃ a, a = rtok (tkAt ts i) := ⟨_, rfl⟩
  have c0 := h.c0
  have c1 := h.c1
  have x1 := (h.toks.cells (Below.refl _ _) hil a ha).2.1
  have hk40 := (ho.F i).kw [40] (by decide)
  rw [← ha] at hk40
  have j1 : (0 : Int) ≤ (i : Int) := by omega
  have j2 : (i : Int) < (ts.length : Int) := by omega
  have tok : ∀ k, k < ts.length → w.cell? ⟨g, k * 4 + 1, none⟩ = some (.string (rtok (tkAt ts k)).word) := fun k hk => (h.toks.cells (Below.refl _ _) hk _ rfl).2.1
  have ends : ∀ k, k < ts.length → w.cell? ⟨gE, k, none⟩ = some (.int .i64 (behindF ts k : Nat)) := fun k hk => end_later h.ends (Below.refl _ _) hgE hk
  have HTK := hide tok
  have HEN := hide ends
  have HFF := hide hF
  clear tok ends ha h ho hF
  cases t with
  | leaf =>
    have h40 : a.l ≠ [40] := fun e => hs.2 (hk40.1 e)
    have q1 := str_no (t := a.word) h40
    clear h40 hk40 hs
    go_enter Tryd.func64, Tryd.ntmps64
    go_wp2
    go_ret2
    exact ⟨_, _, rfl, World.ownsRow_nil _ _ _ _, World.ownsRow_nil _ _ _ _, Below.refl _ _⟩
  | neg b =>
    obtain ⟨h1, h2, h3, h4⟩ := hs
    simp only [Ast.len] at hl
    have q1 := str_yes (t := a.word) (hk40.2 h1)
    have w1 := HTK.out (i + 1) (by omega)
    have q2 := str_yes (t := (rtok (tkAt ts (i + 1))).word) (((HFF.out (i + 1)).kw kNot (by decide)).2 h2)
    simp only [kNot] at q2
    generalize rtok (tkAt ts (i + 1)) = a1 at w1 q2
    have j3 : (0 : Int) ≤ (i : Int) + 1 := by omega
    have j4 : (i : Int) + 1 < (ts.length : Int) := by omega
    clear hk40 h1 h2 h3 h4
    go_enter Tryd.func64, Tryd.ntmps64
    go_wp2
    go_ret2
    obtain ⟨o1, o2, o3⟩ := two_rows w #[.int .i64 ((i : Int) + 2)] #[.int .u8 116] 1 (by omega) rfl rfl
    exact ⟨_, _, rfl, o1, o2, o3⟩
  | ite b c d =>
    obtain ⟨h1, h2, h3, h4, h5, h6⟩ := hs
    simp only [Ast.len] at hl
    have q1 := str_yes (t := a.word) (hk40.2 h1)
    have w1 := HTK.out (i + 1) (by omega)
    have q2 := str_yes (t := (rtok (tkAt ts (i + 1))).word) (((HFF.out (i + 1)).kw kIf (by decide)).2 h2)
    simp only [kIf] at q2
    generalize rtok (tkAt ts (i + 1)) = a1 at w1 q2
    have r1 := HEN.out (i + 2) (by omega)
    rw [behind_sp HFF.out b (i + 2) h3 (by omega)] at r1
    have r2 := HEN.out (i + 2 + b.len) (by omega)
    rw [behind_sp HFF.out c (i + 2 + b.len) h4 (by omega)] at r2
    obtain ⟨m1, hm1⟩ : ∃ m, m = i + 2 + b.len := ⟨_, rfl⟩
    obtain ⟨m2, hm2⟩ : ∃ m, m = i + 2 + b.len + c.len := ⟨_, rfl⟩
    rw [← hm1] at r1
    rw [← hm2, ← hm1] at r2
    have HM := hide (And.intro hm1 hm2)
    have j3 : (0 : Int) ≤ (i : Int) + 1 := by omega
    have j4 : (i : Int) + 1 < (ts.length : Int) := by omega
    have j5 : (0 : Int) ≤ (i : Int) + 2 := by omega
    have j6 : (i : Int) + 2 < (ts.length : Int) := by omega
    have j7 : (0 : Int) ≤ (m1 : Int) := by omega
    have j8 : (m1 : Int) < (ts.length : Int) := by omega
    clear hk40 h1 h2 h3 h4 h5 h6 hm1 hm2
    go_enter Tryd.func64, Tryd.ntmps64
    go_wp2
    go_ret2
    obtain ⟨o1, o2, o3⟩ := two_rows w #[.int .i64 ((i : Int) + 2), .int .i64 (m1 : Int), .int .i64 (m2 : Int)] #[.int .u8 116, .int .u8 (wt : Int), .int .u8 (wt : Int)] 3 (by omega) rfl rfl
    have hc : pCells ((partsR ts (b.ite c d) i wt).map Prt.i) = [.int .i64 ((i : Int) + 2), .int .i64 (m1 : Int), .int .i64 (m2 : Int)] := by rw [HM.out.1, HM.out.2]; rfl
    rw [hc]
    exact ⟨_, _, rfl, o1, o2, o3⟩
  | dly b =>
    obtain ⟨h1, h2, h3, h4, h5⟩ := hs
    simp only [Ast.len] at hl
    have hlf : leafT (tkAt ts (i + 1)) = true := by unfold leafT; rw [h2]; rfl
    obtain ⟨k1, k2, k3, _⟩ := leaf_ne2 HFF.out hlf
    have q1 := str_yes (t := a.word) (hk40.2 h1)
    have w1 := HTK.out (i + 1) (by omega)
    have q2 := str_no (t := (rtok (tkAt ts (i + 1))).word) (fun e => k1 (((HFF.out (i + 1)).kw kNot (by decide)).1 e))
    have q3 := str_no (t := (rtok (tkAt ts (i + 1))).word) (fun e => k2 (((HFF.out (i + 1)).kw kIf (by decide)).1 e))
    simp only [kNot] at q2
    simp only [kIf] at q3
    generalize rtok (tkAt ts (i + 1)) = a1 at w1 q2 q3
    have r1 := HEN.out (i + 1) (by omega)
    rw [behind_sp HFF.out .leaf (i + 1) ⟨hlf, k3⟩ (by simp only [Ast.len]; omega)] at r1
    have w2 := HTK.out (i + 2) (by omega)
    have q4 := str_yes (t := (rtok (tkAt ts (i + 2))).word) (((HFF.out (i + 2)).kw kFby (by decide)).2 h3)
    simp only [kFby] at q4
    generalize rtok (tkAt ts (i + 2)) = a2 at w2 q4
    obtain ⟨m1, hm1⟩ : ∃ m, m = i + 2 := ⟨_, rfl⟩
    have e1 : i + 1 + Ast.leaf.len = m1 := by rw [hm1]; rfl
    rw [e1] at r1
    rw [← hm1] at w2
    have HM := hide hm1
    have j3 : (0 : Int) ≤ (i : Int) + 1 := by omega
    have j4 : (i : Int) + 1 < (ts.length : Int) := by omega
    have j7 : (0 : Int) ≤ (m1 : Int) := by omega
    have j8 : (m1 : Int) < (ts.length : Int) := by omega
    clear hk40 h1 h2 h3 h4 h5 hm1 k1 k2 k3 hlf e1
    go_enter Tryd.func64, Tryd.ntmps64
    go_wp2
    go_ret2
    obtain ⟨o1, o2, o3⟩ := two_rows w #[.int .i64 ((i : Int) + 1), .int .i64 ((m1 : Int) + 1)] #[.int .u8 (wt : Int), .int .u8 (wt : Int)] 2 (by omega) rfl rfl
    have hc : pCells ((partsR ts b.dly i wt).map Prt.i) = [.int .i64 ((i : Int) + 1), .int .i64 ((m1 : Int) + 1)] := by rw [HM.out]; rfl
    rw [hc]
    exact ⟨_, _, rfl, o1, o2, o3⟩
  | bin b c =>
    obtain ⟨h1, h2, h3, h4, h5⟩ := hs
    simp only [Ast.len] at hl
    obtain ⟨k1, k2⟩ := sp_first HFF.out h2
    have q1 := str_yes (t := a.word) (hk40.2 h1)
    have w1 := HTK.out (i + 1) (by omega)
    have q2 := str_no (t := (rtok (tkAt ts (i + 1))).word) (fun e => k1 (((HFF.out (i + 1)).kw kNot (by decide)).1 e))
    have q3 := str_no (t := (rtok (tkAt ts (i + 1))).word) (fun e => k2 (((HFF.out (i + 1)).kw kIf (by decide)).1 e))
    simp only [kNot] at q2
    simp only [kIf] at q3
    generalize rtok (tkAt ts (i + 1)) = a1 at w1 q2 q3
    have r1 := HEN.out (i + 1) (by omega)
    rw [behind_sp HFF.out b (i + 1) h2 (by omega)] at r1
    obtain ⟨m1, hm1⟩ : ∃ m, m = i + 1 + b.len := ⟨_, rfl⟩
    rw [← hm1] at r1 h3
    have w2 := HTK.out m1 (by omega)
    have kw2 : ∀ l, kwL.contains l = true → ((rtok (tkAt ts m1)).l = l ↔ lAt ts m1 = l) := fun l hl => (HFF.out m1).kw l hl
    have q4 := str_no (t := (rtok (tkAt ts m1)).word) (fun e => (op_ne h3).2.2.2 ((kw2 kFby (by decide)).1 e))
    simp only [kFby] at q4
    have HBO : Hid (pCells ((partsR ts (b.bin c) i wt).map Prt.i) = [.int .i64 ((i : Int) + 1), .int .i64 ((m1 : Int) + 1)] ∧ wCells ((partsR ts (b.bin c) i wt).map Prt.w) = [.int .u8 (bothR (lAt ts m1) : Nat), .int .u8 (bothR (lAt ts m1) : Nat)]) := hide (by
      refine ⟨?_, by rw [hm1]; rfl⟩
      have e : i + 2 + b.len = m1 + 1 := by omega
      simp only [partsR, List.map_cons, List.map_nil, pCells, e]
      rfl)
    have j3 : (0 : Int) ≤ (i : Int) + 1 := by omega
    have j4 : (i : Int) + 1 < (ts.length : Int) := by omega
    have j7 : (0 : Int) ≤ (m1 : Int) := by omega
    have j8 : (m1 : Int) < (ts.length : Int) := by omega
    by_cases u1 : (rtok (tkAt ts m1)).l = [38]
    · have q5 := str_yes (t := (rtok (tkAt ts m1)).word) u1
      have HB : Hid (bothR (lAt ts m1) = 116) := hide (by unfold bothR; rw [if_pos (.inl ((kw2 [38] (by decide)).1 u1))])
      generalize rtok (tkAt ts m1) = a2 at w2 q4 q5
      clear hk40 h1 h2 h3 h4 h5 hm1 k1 k2 kw2 u1
      go_enter Tryd.func64, Tryd.ntmps64
      go_wp2
      go_ret2
      obtain ⟨o1, o2, o3⟩ := two_rows w #[.int .i64 ((i : Int) + 1), .int .i64 ((m1 : Int) + 1)] #[.int .u8 116, .int .u8 116] 2 (by omega) rfl rfl
      rw [HBO.out.1, HBO.out.2, HB.out]
      exact ⟨_, _, rfl, o1, o2, o3⟩
    have q5 := str_no (t := (rtok (tkAt ts m1)).word) u1
    by_cases u2 : (rtok (tkAt ts m1)).l = [124]
    · have q6 := str_yes (t := (rtok (tkAt ts m1)).word) u2
      have HB : Hid (bothR (lAt ts m1) = 116) := hide (by unfold bothR; rw [if_pos (.inr ((kw2 [124] (by decide)).1 u2))])
      generalize rtok (tkAt ts m1) = a2 at w2 q4 q5 q6
      clear hk40 h1 h2 h3 h4 h5 hm1 k1 k2 kw2 u1 u2
      go_enter Tryd.func64, Tryd.ntmps64
      go_wp2
      go_ret2
      obtain ⟨o1, o2, o3⟩ := two_rows w #[.int .i64 ((i : Int) + 1), .int .i64 ((m1 : Int) + 1)] #[.int .u8 116, .int .u8 116] 2 (by omega) rfl rfl
      rw [HBO.out.1, HBO.out.2, HB.out]
      exact ⟨_, _, rfl, o1, o2, o3⟩
    have q6 := str_no (t := (rtok (tkAt ts m1)).word) u2
    have HB : Hid (bothR (lAt ts m1) = 110) := hide (by
      unfold bothR; rw [if_neg]
      rintro (e | e)
      · exact u1 ((kw2 [38] (by decide)).2 e)
      · exact u2 ((kw2 [124] (by decide)).2 e))
    generalize rtok (tkAt ts m1) = a2 at w2 q4 q5 q6
    clear hk40 h1 h2 h3 h4 h5 hm1 k1 k2 kw2 u1 u2
    go_enter Tryd.func64, Tryd.ntmps64
    go_wp2
    go_ret2
    obtain ⟨o1, o2, o3⟩ := two_rows w #[.int .i64 ((i : Int) + 1), .int .i64 ((m1 : Int) + 1)] #[.int .u8 110, .int .u8 110] 2 (by omega) rfl rfl
    rw [HBO.out.1, HBO.out.2, HB.out]
    exact ⟨_, _, rfl, o1, o2, o3⟩

end Go.Proofs.YtmndgoapkmhglaaDoor

namespace Go.Proofs.YtmndgoapkmhglaaDoor
open Go.RowKit
attribute [local go_sem ↓] Go.wp_at_zero Go.wp_at_succ

set_option maxHeartbeats 2000000 in
set_option maxRecDepth 100000 in
theorem rwrong_any (q g cap : Nat) (ts : List Tk) (L : List Dl) (vE vA vI vQ : Value) (ho : ROk ts L) (hp : ∀ i, (tkAt ts i).pos ≤ 1500) : ∀ (n : Nat) (t : Ast) (i wt : Nat) (w : World), t.size ≤ n → RProg w q g cap ts L vE vA vI vQ → Sp ts t i → i + t.len < ts.length →
    Calls Tryd.prog 42 #[.pointer (some ⟨q, 0, none⟩), .int .i64 (i : Int), .int .u8 (wt : Int)] w fun e w' => e = .returned (optI (wrongR ts L t i wt)) ∧ Below w.heap.size w w' := by
  intro n
  induction n with
  | zero => intro t i wt w hn; have := t.size_pos; omega
  | succ n ih =>
    intro t i wt w hn h hs hl
    have hlen := ho.len
    have hpo := hp i
    have hil : i < ts.length := by omega
    have HIS := hide (fun W hW => ris_any W q g cap ts L vE vA vI vQ hW ho t i hs hl)
    have HPA := hide (fun W hW => rparts_any W q g cap ts L vE vA vI vQ hW ho t i wt hs hl)
    have hpk := parts_ok ho.F (w := wt) hs hl
    have hwr := wrongR_parts ts L t i wt
    obtain ⟨a, ha⟩ : ∃ a, a = rtok (tkAt ts i) := ⟨_, rfl⟩
    have HPO : Hid ((tkAt ts i).pos = a.pos) := hide (by rw [ha]; rfl)
    have HTC := hide (fun W hW => (h.toks.cells (wr := W) hW hil a ha))
    have HR := hide h
    have HIH := hide ih
    have HPK := hide hpk
    have j1 : (0 : Int) ≤ (i : Int) := by omega
    have j2 : (i : Int) < (ts.length : Int) := by omega
    have hps : (partsR ts t i wt).length ≤ 3 := by cases t <;> simp [partsR]
    generalize partsR ts t i wt = ps at HPA HPK hwr hps
    clear h hs hpk ih ha
    by_cases hb : badR ts L i wt = true
    · rw [hb, if_pos rfl] at hwr
      have hb' : isR ts L i ≠ 63 ∧ isR ts L i ≠ wt := by
        unfold badR at hb
        rw [Bool.and_eq_true, bne_iff_ne, bne_iff_ne] at hb
        exact hb
      have HWR : Hid (wrongR ts L t i wt = some a.pos) := hide (by rw [hwr, HPO.out])
      have q1 : ((isR ts L i : Int) != 63) = true := by rw [bne_iff_ne]; omega
      have q2 : ((isR ts L i : Int) != (wt : Int)) = true := by rw [bne_iff_ne]; omega
      generalize isR ts L i = r at q1 q2 HIS
      clear hwr hb hb'
      go_enter Tryd.func42, Tryd.ntmps42
      go_wp2_with fail
      refine (HIS.out w HR.out).mono ?_
      rintro e w1 ⟨rfl, hb1⟩
      have c0 := (HR.out.below hb1).c0
      have x2 := (HTC.out w1 hb1).2.2.1
      go_wp2
      go_ret
      exact ⟨by rw [HWR.out]; rfl, hb1⟩
    · have hbf : badR ts L i wt = false := by simpa using hb
      rw [hbf, if_neg (by simp)] at hwr
      have hcs : ((isR ts L i : Int) != 63) = false ∨ (((isR ts L i : Int) != 63) = true ∧ ((isR ts L i : Int) != (wt : Int)) = false) := by
        unfold badR at hbf
        by_cases e : isR ts L i = 63
        · left; rw [e]; rfl
        · right
          have e2 : isR ts L i = wt := by
            rw [Bool.and_eq_false_iff] at hbf
            rcases hbf with h | h
            · rw [bne_eq_false_iff_eq] at h; exact absurd h e
            · rw [bne_eq_false_iff_eq] at h; exact h
          exact ⟨by rw [bne_iff_ne]; omega, by rw [e2]; simp⟩
      have HWR := hide hwr
      generalize isR ts L i = r at hcs HIS
      clear hwr hb hbf
      rcases hcs with q1 | ⟨q1, q2⟩
      all_goals
        go_enter Tryd.func42, Tryd.ntmps42
        go_wp2_with fail
        refine (HIS.out w HR.out).mono ?_
        rintro e w1 ⟨rfl, hb1⟩
        go_wp2_with fail
        refine (HPA.out w1 (HR.out.below hb1)).mono ?_
        rintro e w2 ⟨vl, vw, rfl, hol, how, hb2⟩
        have hbw2 : Below w.heap.size w w2 := hb1.trans (hb2.mono hb1.size)
        obtain ⟨al, cl, rfl, hshl⟩ := own_shape hol
        obtain ⟨aw, cw, rfl, hshw⟩ := own_shape how
        have HL := hide (And.intro hol hshl)
        have HW := hide (And.intro how hshw)
        clear hol how hshl hshw hb1 hb2
        go_wp2
        go_loopw [10] (fun vk wx => ∃ m : Nat, m ≤ ps.length ∧ vk = .int .i64 m ∧ Below w2.heap.size w2 wx ∧ (ps.drop m).findSome? (fun p => wrongR ts L p.t p.i p.w) = wrongR ts L t i wt) (fun vk _ => ps.length - (intOf vk).toNat)
        case atStart => exact ⟨0, Nat.zero_le _, rfl, Below.refl _ _, HWR.out.symm⟩
        case round =>
          obtain ⟨m, hm, rfl, hbx, hrec⟩ := hrel
          have hbwx : Below w.heap.size w wr := hbw2.trans (hbx.mono hbw2.size)
          have HRP := hide (HR.out.below hbwx)
          by_cases hml : m < ps.length
          · obtain ⟨gl, rfl, _, hgl⟩ := HL.out.2 (by omega)
            obtain ⟨gw, rfl, _, hgw⟩ := HW.out.2 (by omega)
            obtain ⟨p, hp'⟩ : ∃ p, p = ps[m]'hml := ⟨_, rfl⟩
            obtain ⟨k1, k2, k3⟩ := HPK.out p (by rw [hp']; exact List.getElem_mem hml)
            have l1 : wr.cell? ⟨gl, m, none⟩ = some (.int .i64 (p.i : Int)) := by
              rw [hbx.cell (p := ⟨gl, m, none⟩) hgl, HL.out.1.cellAt m (by omega)]
              unfold pCells
              rw [List.getElem?_map, List.getElem?_map, List.getElem?_eq_getElem hml, ← hp']; rfl
            have l2 : wr.cell? ⟨gw, m, none⟩ = some (.int .u8 (p.w : Int)) := by
              rw [hbx.cell (p := ⟨gw, m, none⟩) hgw, HW.out.1.cellAt m (by omega)]
              unfold wCells
              rw [List.getElem?_map, List.getElem?_map, List.getElem?_eq_getElem hml, ← hp']; rfl
            rw [List.drop_eq_getElem_cons hml, ← hp', List.findSome?_cons] at hrec
            have HRC := hide hrec
            have j3 : (0 : Int) ≤ (m : Int) := by omega
            have j4 : (m : Int) < (ps.length : Int) := by omega
            have HCALL := hide (fun W hW => HIH.out p.t p.i p.w W (by omega) hW k1 k2)
            have HV : Hid (∀ v, wrongR ts L p.t p.i p.w = some v → wrongR ts L t i wt = some v) := hide (fun v hv => by
              have h := HRC.out
              rw [hv] at h
              exact h.symm)
            have HN : Hid (wrongR ts L p.t p.i p.w = none → (ps.drop (m + 1)).findSome? (fun p => wrongR ts L p.t p.i p.w) = wrongR ts L t i wt) := hide (fun hv => by
              have h := HRC.out
              rw [hv] at h
              exact h)
            generalize wrongR ts L p.t p.i p.w = o at HCALL HV HN
            generalize p.i = pi at l1 HCALL
            generalize p.w = pw at l2 HCALL
            clear hrec hp' k1 k2 k3 HRC
            have g1 : gl < wr.heap.size := by have := hbx.size; omega
            have g2' : gw < wr.heap.size := by have := hbx.size; omega
            go_wp2_with fail
            go_region_held3 (fun w' => w'.cell? ⟨gl, m, none⟩ = some (.int .i64 (pi : Int)) ∧ w'.cell? ⟨gw, m, none⟩ = some (.int .u8 (pw : Int))) (go_keep)
              ((go_at_call 42; refine (HCALL.out _ (HRP.out.below ((Below.refl _ _).drew))).mono ?_; rintro e w3 ⟨rfl, hb3⟩; have t1 := (hb3.cell (p := ⟨gl, m, none⟩) g1).trans l1; have t2 := (hb3.cell (p := ⟨gw, m, none⟩) g2').trans l2))
            rename_i hHeld
            clear hHeld
            have HB3 : Hid (Below w2.heap.size w2 w3) := hide (hbx.drew.trans (hb3.mono hbx.size))
            have HB4 : Hid (Below w.heap.size w w3) := hide (hbwx.drew.trans (hb3.mono hbwx.size))
            clear hb3 t1 t2
            cases o with
            | none =>
              have HN2 := hide (HN.out rfl)
              simp only [optI]
              clear HV HN HCALL
              go_wp2
              go_roundw
              case rel => exact ⟨m + 1, by omega, by go_num, HB3.out, HN2.out⟩
              case measure => simp [intOf]; omega
            | some v =>
              have HV2 := hide (HV.out v rfl)
              simp only [optI]
              have z1 : (0 : Int) ≤ (v : Int) := by omega
              clear HV HN HCALL
              go_wp2
              go_ret
              exact ⟨by rw [HV2.out]; rfl, HB4.out⟩
          · have em : m = ps.length := by omega
            subst em
            rw [List.drop_length] at hrec
            have HRC : Hid (wrongR ts L t i wt = none) := hide hrec.symm
            have z1 : ¬ (ps.length : Int) < (ps.length : Int) := by omega
            clear hrec
            go_wp2
            go_ret
            exact ⟨by rw [HRC.out]; rfl, hbwx⟩

end Go.Proofs.YtmndgoapkmhglaaDoor
