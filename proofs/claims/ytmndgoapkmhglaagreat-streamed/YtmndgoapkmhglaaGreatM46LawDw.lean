import Derived.Laws.CopyOwn
import Derived.Laws.Cover3
import Derived.Test.YtmndgoapkmhglaaGreatM25RefC
import Derived.Test.YtmndgoapkmhglaaGreatM35RefU
import Derived.Test.YtmndgoapkmhglaaGreatM45LawB
/- Plain mathematics: a text has its parts in one way alone; parts that are told can be checked. -/
namespace Go.Proofs.YtmndgoapkmhglaaGreat

theorem sp_uniq {ts : List Tk} (hF : ∀ i, TkF (tkAt ts i)) : ∀ (t t' : Ast) (i : Nat), Sp ts t i → Sp ts t' i → t = t' := by
  intro t
  induction t with
  | leaf =>
    intro t' i h h'
    cases t' with
    | leaf => rfl
    | neg a => exact absurd h'.1 h.2
    | ite a b c => exact absurd h'.1 h.2
    | dly b => exact absurd h'.1 h.2
    | bin a b => exact absurd h'.1 h.2
  | neg a iha =>
    intro t' i h h'
    cases t' with
    | leaf => exact absurd h.1 h'.2
    | neg a' => rw [iha a' _ h.2.2.1 h'.2.2.1]
    | ite a' b' c' => have e := h.2.1.symm.trans h'.2.1; exact absurd e (by decide)
    | dly b' => exact absurd h.2.1 (leaf_ne2 hF (by unfold leafT; rw [h'.2.1]; rfl)).1
    | bin a' b' => exact absurd h.2.1 (sp_first hF h'.2.1).1
  | ite a b c iha ihb ihc =>
    intro t' i h h'
    cases t' with
    | leaf => exact absurd h.1 h'.2
    | neg a' => have e := h.2.1.symm.trans h'.2.1; exact absurd e (by decide)
    | ite a' b' c' =>
      have e1 := iha a' _ h.2.2.1 h'.2.2.1
      subst e1
      have e2 := ihb b' _ h.2.2.2.1 h'.2.2.2.1
      subst e2
      rw [ihc c' _ h.2.2.2.2.1 h'.2.2.2.2.1]
    | dly b' => exact absurd h.2.1 (leaf_ne2 hF (by unfold leafT; rw [h'.2.1]; rfl)).2.1
    | bin a' b' => exact absurd h.2.1 (sp_first hF h'.2.1).2
  | dly b ihb =>
    intro t' i h h'
    have hlf : leafT (tkAt ts (i + 1)) = true := by unfold leafT; rw [h.2.1]; rfl
    cases t' with
    | leaf => exact absurd h.1 h'.2
    | neg a' => exact absurd h'.2.1 (leaf_ne2 hF hlf).1
    | ite a' b' c' => exact absurd h'.2.1 (leaf_ne2 hF hlf).2.1
    | dly b' => rw [ihb b' _ h.2.2.2.1 h'.2.2.2.1]
    | bin a' b' =>
      have hs := h'.2.1
      cases a' with
      | leaf => exact absurd h.2.2.1 (op_ne h'.2.2.1).2.2.2
      | neg x => exact absurd hs.1 (leaf_ne2 hF hlf).2.2.1
      | ite x y z => exact absurd hs.1 (leaf_ne2 hF hlf).2.2.1
      | dly x => exact absurd hs.1 (leaf_ne2 hF hlf).2.2.1
      | bin x y => exact absurd hs.1 (leaf_ne2 hF hlf).2.2.1
  | bin a b iha ihb =>
    intro t' i h h'
    cases t' with
    | leaf => exact absurd h.1 h'.2
    | neg a' => exact absurd h'.2.1 (sp_first hF h.2.1).1
    | ite a' b' c' => exact absurd h'.2.1 (sp_first hF h.2.1).2
    | dly b' =>
      have hlf : leafT (tkAt ts (i + 1)) = true := by unfold leafT; rw [h'.2.1]; rfl
      have hs := h.2.1
      cases a with
      | leaf => exact absurd h'.2.2.1 (op_ne h.2.2.1).2.2.2
      | neg x => exact absurd hs.1 (leaf_ne2 hF hlf).2.2.1
      | ite x y z => exact absurd hs.1 (leaf_ne2 hF hlf).2.2.1
      | dly x => exact absurd hs.1 (leaf_ne2 hF hlf).2.2.1
      | bin x y => exact absurd hs.1 (leaf_ne2 hF hlf).2.2.1
    | bin a' b' =>
      have e1 := iha a' _ h.2.1 h'.2.1
      subst e1
      rw [ihb b' _ h.2.2.2.1 h'.2.2.2.1]

/-- a declaration, its expression forgotten where it has none. -/
def nrm (x : Dl) : Dl := if x.kind = 0 then ⟨0, x.i, .leaf⟩ else x

theorem dl_uniq {ts : List Tk} (hF : ∀ i, TkF (tkAt ts i)) {x y : Dl} (hi : x.i = y.i) (hx : DlOk ts x) (hy : DlOk ts y) : nrm x = nrm y := by
  obtain ⟨kx, ix, tx⟩ := x
  obtain ⟨ky, iy, ty⟩ := y
  simp only at hi
  subst hi
  unfold DlOk at hx hy
  simp only at hx hy
  rcases hx with ⟨h1, h2, _⟩ | ⟨h1, _, _, _, _, hs, _⟩ <;> rcases hy with ⟨g1, g2, _⟩ | ⟨g1, _, _, _, _, gs, _⟩
  · subst h1 g1; rfl
  · rcases g1 with ⟨_, g⟩ | ⟨_, g⟩
    · have e := h2.symm.trans g; exact absurd e (by decide)
    · have e := h2.symm.trans g; exact absurd e (by decide)
  · rcases h1 with ⟨_, h⟩ | ⟨_, h⟩
    · have e := g2.symm.trans h; exact absurd e (by decide)
    · have e := g2.symm.trans h; exact absurd e (by decide)
  · have e := sp_uniq hF tx ty _ hs gs
    subst e
    rcases h1 with ⟨rfl, h⟩ | ⟨rfl, h⟩ <;> rcases g1 with ⟨rfl, g⟩ | ⟨rfl, g⟩
    · rfl
    · have e := h.symm.trans g; exact absurd e (by decide)
    · have e := h.symm.trans g; exact absurd e (by decide)
    · rfl

theorem nrm_len {x y : Dl} (h : nrm x = nrm y) : x.len = y.len := by
  unfold nrm at h
  unfold Dl.len
  by_cases hx : x.kind = 0 <;> by_cases hy : y.kind = 0
  · rw [if_pos hx, if_pos hy]
  · rw [if_pos hx, if_neg hy] at h; rw [← h] at hy; exact absurd rfl hy
  · rw [if_neg hx, if_pos hy] at h; rw [h] at hx; exact absurd rfl hx
  · rw [if_neg hx, if_neg hy] at h; rw [h]

theorem spell_uniq {ts : List Tk} (hF : ∀ i, TkF (tkAt ts i)) : ∀ (L L' : List Dl) (i : Nat), Spell ts L i → Spell ts L' i → L.map nrm = L'.map nrm := by
  have hend : ∀ {x : Dl} {i : Nat}, x.i = i → DlOk ts x → (tkAt ts i).kind = 0 → False := fun {x i} hi hx hk => by
    subst hi
    have h0 := (hF x.i).k0 hk
    unfold DlOk at hx
    rcases hx with ⟨_, h, _⟩ | ⟨⟨_, h⟩ | ⟨_, h⟩, _⟩
    all_goals
      rw [show (tkAt ts x.i).l = _ from h] at h0
      revert h0
      decide
  intro L
  induction L with
  | nil =>
    intro L' i h h'
    cases L' with
    | nil => rfl
    | cons y r => exact (hend h'.1 h'.2.2.1 h.2).elim
  | cons x r ih =>
    intro L' i h h'
    cases L' with
    | nil => exact (hend h.1 h.2.2.1 h'.2).elim
    | cons y r' =>
      obtain ⟨h1, h2, h3, h4⟩ := h
      obtain ⟨g1, g2, g3, g4⟩ := h'
      have e := dl_uniq hF (h1.trans g1.symm) h3 g3
      rw [List.map_cons, List.map_cons, e, ih r' (i + x.len) h4 (by rw [nrm_len e]; exact g4)]

theorem eqL_nrm : ∀ (L : List Dl), eqL (L.map nrm) = eqL L := by
  intro L
  induction L with
  | nil => rfl
  | cons x r ih =>
    unfold eqL at *
    rw [List.map_cons, List.filter_cons, List.filter_cons, ih]
    unfold nrm
    by_cases h : x.kind = 0
    · simp [h]
    · simp [h]
theorem inL_nrm : ∀ (L : List Dl), (inL (L.map nrm)).map Dl.i = (inL L).map Dl.i := by
  intro L
  induction L with
  | nil => rfl
  | cons x r ih =>
    unfold inL at *
    rw [List.map_cons, List.filter_cons, List.filter_cons]
    unfold nrm at *
    by_cases h : x.kind = 0
    · simp [h, ih]
    · simp [h, ih]

/-- the equations of a text, and where its inputs stand. -/
theorem spell_same {ts : List Tk} (hF : ∀ i, TkF (tkAt ts i)) {L L' : List Dl} {i : Nat} (h : Spell ts L i) (h' : Spell ts L' i) : eqL L = eqL L' ∧ (inL L).map Dl.i = (inL L').map Dl.i := by
  have e := spell_uniq hF L L' i h h'
  exact ⟨by rw [← eqL_nrm L, e, eqL_nrm], by rw [← inL_nrm L, e, inL_nrm]⟩

/-- are these the parts? -/
def spB (ts : List Tk) : Ast → Nat → Bool
  | .leaf, i => leafT (tkAt ts i) && !(lAt ts i == [40])
  | .neg a, i => lAt ts i == [40] && (lAt ts (i + 1) == kNot && (spB ts a (i + 2) && lAt ts (i + 2 + a.len) == [41]))
  | .ite a b c, i => lAt ts i == [40] && (lAt ts (i + 1) == kIf && (spB ts a (i + 2) && (spB ts b (i + 2 + a.len) && (spB ts c (i + 2 + a.len + b.len) && lAt ts (i + 2 + a.len + b.len + c.len) == [41]))))
  | .dly b, i => lAt ts i == [40] && (litT (tkAt ts (i + 1)) && (lAt ts (i + 2) == kFby && (spB ts b (i + 3) && lAt ts (i + 3 + b.len) == [41])))
  | .bin a b, i => lAt ts i == [40] && (spB ts a (i + 1) && ((opOf (lAt ts (i + 1 + a.len))).isSome && (spB ts b (i + 2 + a.len) && lAt ts (i + 2 + a.len + b.len) == [41])))
theorem spB_ok {ts : List Tk} : ∀ (t : Ast) (i : Nat), spB ts t i = true → Sp ts t i := by
  intro t
  induction t with
  | leaf => intro i h; simp only [spB, Bool.and_eq_true, Bool.not_eq_true', beq_eq_false_iff_ne] at h; exact h
  | neg a iha => intro i h; simp only [spB, Bool.and_eq_true, beq_iff_eq] at h; exact ⟨h.1, h.2.1, iha _ h.2.2.1, h.2.2.2⟩
  | ite a b c iha ihb ihc => intro i h; simp only [spB, Bool.and_eq_true, beq_iff_eq] at h; exact ⟨h.1, h.2.1, iha _ h.2.2.1, ihb _ h.2.2.2.1, ihc _ h.2.2.2.2.1, h.2.2.2.2.2⟩
  | dly b ihb => intro i h; simp only [spB, Bool.and_eq_true, beq_iff_eq] at h; exact ⟨h.1, h.2.1, h.2.2.1, ihb _ h.2.2.2.1, h.2.2.2.2⟩
  | bin a b iha ihb => intro i h; simp only [spB, Bool.and_eq_true, beq_iff_eq] at h; exact ⟨h.1, iha _ h.2.1, h.2.2.1, ihb _ h.2.2.2.1, h.2.2.2.2⟩
def dlB (ts : List Tk) (x : Dl) : Bool :=
  if x.kind = 0 then lAt ts x.i == kIn && ((tkAt ts (x.i + 1)).kind == 1 && lAt ts (x.i + 2) == [59])
  else ((x.kind == 1 && lAt ts x.i == kInt) || (x.kind == 2 && lAt ts x.i == kBool)) && ((tkAt ts (x.i + 1)).kind == 1 && (lAt ts (x.i + 2) == kAt && (((tkAt ts (x.i + 3)).kind == 3 && decide (valOf (lAt ts (x.i + 3)) < 4)) && (lAt ts (x.i + 4) == [61] && (spB ts x.t (x.i + 5) && lAt ts (x.i + 5 + x.t.len) == [59])))))
theorem dlB_ok {ts : List Tk} {x : Dl} (h : dlB ts x = true) : DlOk ts x := by
  unfold dlB at h
  split at h
  · rename_i h0
    simp only [Bool.and_eq_true, beq_iff_eq] at h
    exact .inl ⟨h0, h.1, h.2.1, h.2.2⟩
  · simp only [Bool.and_eq_true, Bool.or_eq_true, beq_iff_eq, decide_eq_true_eq] at h
    exact .inr ⟨h.1, h.2.1, h.2.2.1, h.2.2.2.1, h.2.2.2.2.1, spB_ok _ _ h.2.2.2.2.2.1, h.2.2.2.2.2.2⟩
def spellB (ts : List Tk) : List Dl → Nat → Bool
  | [], i => decide (i < ts.length) && (tkAt ts i).kind == 0
  | x :: r, i => x.i == i && (decide (i + x.len < ts.length) && (dlB ts x && spellB ts r (i + x.len)))
theorem spellB_ok {ts : List Tk} : ∀ (L : List Dl) (i : Nat), spellB ts L i = true → Spell ts L i := by
  intro L
  induction L with
  | nil => intro i h; simp only [spellB, Bool.and_eq_true, decide_eq_true_eq, beq_iff_eq] at h; exact h
  | cons x r ih => intro i h; simp only [spellB, Bool.and_eq_true, decide_eq_true_eq, beq_iff_eq] at h; exact ⟨h.1, h.2.1, dlB_ok h.2.2.1, ih _ h.2.2.2⟩

theorem ix_nm (ts : List Tk) {l : List Dl} {w : List UInt8} : l.findIdx? (nmIs ts w) = (l.map (nameD ts)).findIdx? (fun b => b.data.toList == w) := by
  rw [List.findIdx?_map]; rfl


/-- what the streams hang on of the parts. -/
theorem sol_same {ts : List Tk} {L L' : List Dl} (he : eqL L = eqL L') (hi : (inL L).map Dl.i = (inL L').map Dl.i) (ins : List (List Int)) : sol ts L ins = sol ts L' ins := by
  have hV : ∀ R w n, valV ts L ins R w n = valV ts L' ins R w n := fun R w n => by
    unfold valV
    have e1 : inIx ts L w = inIx ts L' w := by
      unfold inIx
      rw [ix_nm, ix_nm]
      congr 1
      have e : ∀ l : List Dl, l.map (nameD ts) = (l.map Dl.i).map fun k => (tkAt ts (k + 1)).text := fun l => by rw [List.map_map]; rfl
      rw [e, e, hi]
    have e2 : eqIx ts L w = eqIx ts L' w := by unfold eqIx; rw [he]
    rw [e1, e2]
  have key : ∀ f j n, solF ts L ins f j n = solF ts L' ins f j n := by
    intro f
    induction f with
    | zero => intro j n; rfl
    | succ f ih =>
      intro j n
      have e : solF ts L ins f = solF ts L' ins f := by funext j n; exact ih j n
      simp only [solF, he]
      have : valV ts L ins (solF ts L ins f) = valV ts L' ins (solF ts L' ins f) := by funext w n; rw [hV, e]
      rw [this]
  funext j n
  unfold sol
  rw [he]
  exact key _ j n

end Go.Proofs.YtmndgoapkmhglaaGreat

/- the statements' own helpers: own, holds. -/
namespace Go.Proofs.YtmndgoapkmhglaaGreat
open Go.RowKit
attribute [local go_sem ↓] Go.wp_at_zero Go.wp_at_succ

/-- what its owner has of a list that came out. -/
structure OwnV where
  a : Value
  b : Value
  c : Value
  d : Value
  n : Nat
  m : Int
abbrev OwnV.val (o : OwnV) : Value := .agg #[o.a, o.b, o.c, o.d, .int .i64 o.m]
def OwnV.cells (o : OwnV) : List Value := [o.a, o.b, o.c, o.d, .int .i64 o.m]
structure OwnAt (w : World) (K : Nat → Prop) (o : OwnV) : Prop where
  a : AllM w K o.a o.n o.m
  b : AllM w K o.b (o.n + 1) o.m
  c : AllM w K o.c (o.n + 2) o.m
  d : AllM w K o.d (o.n + 6) o.m
theorem OwnAt.keep {w w' : World} {K K' : Nat → Prop} {o : OwnV} (h : OwnAt w K o) (hs : w.heap.size ≤ w'.heap.size) (hk : ∀ b, b < w.heap.size → K b → K' b)
    (hc : ∀ b, b < w.heap.size → K b → ∀ c, w.cell? ⟨b, c, none⟩ = some (.int .i64 o.m) → w'.cell? ⟨b, c, none⟩ = some (.int .i64 o.m)) : OwnAt w' K' o :=
  ⟨h.a.keep hs hk hc, h.b.keep hs hk hc, h.c.keep hs hk hc, h.d.keep hs hk hc⟩
theorem OwnAt.below {w w' : World} {K : Nat → Prop} {o : OwnV} (h : OwnAt w K o) (hb : Below w.heap.size w w') : OwnAt w' K o :=
  ⟨h.a.below hb, h.b.below hb, h.c.below hb, h.d.below hb⟩

theorem set_mark {xs : List Int} {m : Nat} {mk : Int} (h : m < xs.length) : ((List.replicate m (Value.int .i64 mk)) ++ ((xs.map fun x => Value.int .i64 x).drop m)).set m (.int .i64 mk) = (List.replicate (m + 1) (Value.int .i64 mk)) ++ ((xs.map fun x => Value.int .i64 x).drop (m + 1)) := by
  rw [List.set_append_right _ _ (by simp), List.length_replicate, Nat.sub_self, List.drop_eq_getElem_cons (by simpa using h), List.set_cons_zero, List.replicate_succ', List.append_assoc]
  rfl

theorem box3 {wr w1 w2 w3 : World} {b : Nat} {row : Option Nat} {o1 o2 o3 o : Obj} (hne : some b ≠ row) (hlt : b < wr.heap.size) (hb : wr.heap[b]? = some o) (h1 : (wr.alloc o1).grownBy w1 row) (h2 : (w1.alloc o2).grownBy w2 row) (h3 : (w2.alloc o3).grownBy w3 row) : w3.heap[b]? = some o := by
  have s1 := h1.size
  have s2 := h2.size
  simp at s1 s2
  rw [h3.block b (by simp; omega) hne, Below.heap_alloc _ _ _ (by omega), h2.block b (by simp; omega) hne, Below.heap_alloc _ _ _ (by omega), h1.block b (by simp; omega) hne, Below.heap_alloc _ _ _ hlt]
  exact hb

set_option maxHeartbeats 2000000 in
set_option maxRecDepth 100000 in
theorem lown_any (w : World) (B : Nat) (v : Value) (xs : List Int) (mk : Int) (h : w.ownsRow B 3 1 v xs.length (xs.map fun x => .int .i64 x)) (hn : xs.length ≤ 100000) :
    Calls Tryz.prog 10 #[v, .int .i64 mk] w fun e w' => ∃ o : OwnV, e = .returned o.val ∧ o.a = v ∧ o.n = xs.length ∧ o.m = mk ∧ OwnAt w' (fun b => v.ownBlock = some b ∨ w.heap.size ≤ b) o ∧ w.grownBy w' v.ownBlock := by
  obtain ⟨i0, hi0, hz0, hz1, hz2⟩ := info_parts Tryz.infoInt
  obtain ⟨A, C, rfl, hsh⟩ := own_shape h
  have HW := hide h
  have HSH := hide hsh
  clear h hsh
  go_enter Tryz.func10, Tryz.ntmps10
  go_wp2
  go_loopw [5] (fun vi wr => ∃ m : Nat, m ≤ xs.length ∧ vi = .int .i64 m ∧ wr.ownsRow B 3 1 (.slice A xs.length C) xs.length ((List.replicate m (Value.int .i64 mk)) ++ ((xs.map fun x => Value.int .i64 x).drop m)) ∧ w.grownBy wr (Value.slice A xs.length C).ownBlock ∧ w.heap.size < wr.heap.size ∧ wr.heap[w.heap.size]? = some (.cells #[.slice none 0 0, .slice none 0 0, .slice none 0 0, .slice none 0 0, .int .i64 0] 36)) (fun vi _ => xs.length - (intOf vi).toNat)
  case atStart => exact ⟨0, Nat.zero_le _, rfl, by simpa using HW.out.alloc _, grown_alloc _ _ _, by simp, heap_alloc_new w _⟩
  case round =>
    obtain ⟨m, hm, rfl, hown, hgr, hlt, hbx⟩ := hrel
    have HBX := hide hbx
    have HNE : Hid ((Value.slice A xs.length C).ownBlock ≠ some w.heap.size) := hide (fun e => by have := (HW.out.lt _ e).2; omega)
    have HO := hide hown
    have HG := hide hgr
    clear hown hgr hbx
    by_cases hml : m < xs.length
    · obtain ⟨g, rfl, _, hgl⟩ := HSH.out (by omega)
      have hc := HO.out.cellAt m (by omega)
      rw [List.getElem?_append_right (by simp), List.length_replicate, Nat.sub_self, List.getElem?_drop, List.getElem?_map, Nat.add_zero, List.getElem?_eq_getElem hml] at hc
      have hf := HO.out.frozenAt m
      have j3 : (0 : Int) ≤ (m : Int) := by omega
      have j4 : (m : Int) < (xs.length : Int) := by omega
      obtain ⟨hs1, hs2⟩ := HO.out.stored m (.int .i64 mk)
      rw [set_mark hml] at hs1
      have HS1 := hide hs1
      have HS2 := hide hs2
      simp only [Option.map_some] at hc
      generalize xs[m] = u at hc
      clear hs1 hs2
      go_wp2
      go_roundw
      case rel => exact ⟨m + 1, by omega, by go_num, by first | exact HS1.out | exact HS1.out.drew, ⟨HS2.out.os.trans HG.out.os, HS2.out.tape.trans HG.out.tape, HS2.out.output.trans HG.out.output, Nat.le_trans HG.out.size HS2.out.size, fun k hk hne => (HS2.out.block k (Nat.lt_of_lt_of_le hk HG.out.size) hne).trans (HG.out.block k hk hne)⟩, by simpa using hlt, (HS2.out.block w.heap.size hlt (Ne.symm HNE.out)).trans HBX.out⟩
      case measure => simp [intOf]; omega
    · have em : m = xs.length := by omega
      subst em
      have z1 : ¬ (xs.length : Int) < (xs.length : Int) := by omega
      have hown0 := HO.out
      rw [List.drop_of_length_le (by simp), List.append_nil] at hown0
      have hsz := HG.out.size
      clear HO HW HSH
      go_wp2_with (at_builtin; first
        | (refine append_marks _ rfl _ _ _ rfl 3 i0 _ Tryz.underlying34 hi0 hz0 hz1 hz2 rfl B xs.length 1 mk _ rfl (hown0.alloc _) ⟨wr.heap.size, 0, none⟩ 1 rfl (marks_block _ _ _ 1 mk rfl) (by omega) (by omega) ?_; intro v1 w1 ho1 hg1 hk1 ha1 hs1; obtain ⟨A1, C1, rfl⟩ := hs1)
        | (refine append_marks _ rfl _ _ _ rfl 3 i0 _ Tryz.underlying34 hi0 hz0 hz1 hz2 rfl B xs.length 2 mk _ rfl (ho1.alloc _) ⟨w1.heap.size, 0, none⟩ 2 rfl (marks_block _ _ _ 2 mk rfl) (by omega) (by omega) ?_; intro v2 w2 ho2 hg2 hk2 ha2 hs2; obtain ⟨A2, C2, rfl⟩ := hs2)
        | (refine append_marks _ rfl _ _ _ rfl 3 i0 _ Tryz.underlying34 hi0 hz0 hz1 hz2 rfl B xs.length 6 mk _ rfl (ho2.alloc _) ⟨w2.heap.size, 0, none⟩ 6 rfl (marks_block _ _ _ 6 mk rfl) (by omega) (by omega) ?_; intro v3 w3 ho3 hg3 hk3 ha3 hs3; obtain ⟨A3, C3, rfl⟩ := hs3; have hb3 := box3 (Ne.symm HNE.out) hlt HBX.out hg1 hg2 hg3; have c0 := cell_of_row w3 w.heap.size 0 _ _ _ hb3; have c1 := cell_of_row w3 w.heap.size 1 _ _ _ hb3; have c2 := cell_of_row w3 w.heap.size 2 _ _ _ hb3; have c3 := cell_of_row w3 w.heap.size 3 _ _ _ hb3; have c4 := cell_of_row w3 w.heap.size 4 _ _ _ hb3; have f0 := frozen_of_row w3 w.heap.size 0 _ _ hb3; have f1 := frozen_of_row w3 w.heap.size 1 _ _ hb3; have f2 := frozen_of_row w3 w.heap.size 2 _ _ hb3; have f3 := frozen_of_row w3 w.heap.size 3 _ _ hb3; have f4 := frozen_of_row w3 w.heap.size 4 _ _ hb3))
      have hs1 := hg1.size
      have hs2 := hg2.size
      have hs3 := hg3.size
      simp at hs1 hs2 hs3
      have hal : ∀ (W : World) (o : Obj) (b c : Nat), b < W.heap.size → (W.alloc o).cell? ⟨b, c, none⟩ = W.cell? ⟨b, c, none⟩ := fun W o b c h => World.cell?_alloc_past _ _ _ h
      have hw : ∀ b, b < w3.heap.size → ((Value.slice A xs.length C).ownBlock = some b ∨ wr.heap.size ≤ b) → b ≠ w.heap.size := fun b _ hb e => by
        rcases hb with hb | hb
        · rw [e] at hb; exact HNE.out hb
        · omega
      have k0 : AllM wr (fun b => (Value.slice A xs.length C).ownBlock = some b ∨ wr.heap.size ≤ b) (.slice A xs.length C) xs.length mk := own_allM (by omega) hown0 _ (fun b hb => .inl hb)
      have up1 : ∀ v n, AllM wr (fun b => (Value.slice A xs.length C).ownBlock = some b ∨ wr.heap.size ≤ b) v n mk → AllM w1 (fun b => (Value.slice A xs.length C).ownBlock = some b ∨ wr.heap.size ≤ b) v n mk := fun v n h => h.keep (by omega) (fun _ _ h => h) (fun b hb _ c hc => hk1 b c ((hal _ _ b c hb).trans hc))
      have up2 : ∀ v n, AllM w1 (fun b => (Value.slice A xs.length C).ownBlock = some b ∨ wr.heap.size ≤ b) v n mk → AllM w2 (fun b => (Value.slice A xs.length C).ownBlock = some b ∨ wr.heap.size ≤ b) v n mk := fun v n h => h.keep (by omega) (fun _ _ h => h) (fun b hb _ c hc => hk2 b c ((hal _ _ b c hb).trans hc))
      have up3 : ∀ v n, AllM w2 (fun b => (Value.slice A xs.length C).ownBlock = some b ∨ wr.heap.size ≤ b) v n mk → AllM w3 (fun b => (Value.slice A xs.length C).ownBlock = some b ∨ wr.heap.size ≤ b) v n mk := fun v n h => h.keep (by omega) (fun _ _ h => h) (fun b hb _ c hc => hk3 b c ((hal _ _ b c hb).trans hc))
      have l1 : AllM w1 (fun b => (Value.slice A xs.length C).ownBlock = some b ∨ wr.heap.size ≤ b) (.slice A1 (xs.length + 1) C1) (xs.length + 1) mk := ha1.keep (Nat.le_refl _) (fun b _ h => h.imp id (fun h => by simp at h; omega)) (fun _ _ _ _ h => h)
      have l2 : AllM w2 (fun b => (Value.slice A xs.length C).ownBlock = some b ∨ wr.heap.size ≤ b) (.slice A2 (xs.length + 2) C2) (xs.length + 2) mk := ha2.keep (Nat.le_refl _) (fun b _ h => h.imp id (fun h => by simp at h; omega)) (fun _ _ _ _ h => h)
      have l3 : AllM w3 (fun b => (Value.slice A xs.length C).ownBlock = some b ∨ wr.heap.size ≤ b) (.slice A3 (xs.length + 6) C3) (xs.length + 6) mk := ha3.keep (Nat.le_refl _) (fun b _ h => h.imp id (fun h => by simp at h; omega)) (fun _ _ _ _ h => h)
      have q0 := up3 _ _ (up2 _ _ (up1 _ _ k0))
      have q1 := up3 _ _ (up2 _ _ l1)
      have q2 := up3 _ _ l2
      have hgr : w.grownBy w3 (Value.slice A xs.length C).ownBlock := grown_trans (grown_trans (grown_trans HG.out (grown_trans (grown_alloc _ _ _) hg1)) (grown_trans (grown_alloc _ _ _) hg2)) (grown_trans (grown_alloc _ _ _) hg3)
      have fin : ∀ v n u0 u1 u2 u3 u4, AllM w3 (fun b => (Value.slice A xs.length C).ownBlock = some b ∨ wr.heap.size ≤ b) v n mk → AllM (((((w3.setCell ⟨w.heap.size, 0, none⟩ u0).setCell ⟨w.heap.size, 1, none⟩ u1).setCell ⟨w.heap.size, 2, none⟩ u2).setCell ⟨w.heap.size, 3, none⟩ u3).setCell ⟨w.heap.size, 4, none⟩ u4) (fun b => (Value.slice A xs.length C).ownBlock = some b ∨ w.heap.size ≤ b) v n mk := fun v n u0 u1 u2 u3 u4 h => by
        refine h.keep (by simp) (fun b _ h => h.imp id (fun h => by omega)) (fun b hb hK c hc => ?_)
        have hne := hw b hb hK
        rw [World.cell?_setCell_other _ _ _ _ (by intro e; exact hne (congrArg Addr.block e).symm), World.cell?_setCell_other _ _ _ _ (by intro e; exact hne (congrArg Addr.block e).symm), World.cell?_setCell_other _ _ _ _ (by intro e; exact hne (congrArg Addr.block e).symm), World.cell?_setCell_other _ _ _ _ (by intro e; exact hne (congrArg Addr.block e).symm), World.cell?_setCell_other _ _ _ _ (by intro e; exact hne (congrArg Addr.block e).symm)]
        exact hc
      refine bodyPost_ret (v := .agg #[.slice A xs.length C, .slice A1 (xs.length + 1) C1, .slice A2 (xs.length + 2) C2, .slice A3 (xs.length + 6) C3, .int .i64 mk]) (by simp [results, Tryz.results10, go_sem, c0, c1, c2, c3, c4]) rfl ?_
      exact ⟨⟨.slice A xs.length C, .slice A1 (xs.length + 1) C1, .slice A2 (xs.length + 2) C2, .slice A3 (xs.length + 6) C3, xs.length, mk⟩, rfl, rfl, rfl, rfl, ⟨fin _ _ _ _ _ _ _ q0, fin _ _ _ _ _ _ _ q1, fin _ _ _ _ _ _ _ q2, fin _ _ _ _ _ _ _ l3⟩, grown_set (grown_set (grown_set (grown_set (grown_set hgr (Nat.le_refl _) _) (Nat.le_refl _) _) (Nat.le_refl _) _) (Nat.le_refl _) _) (Nat.le_refl _) _⟩

set_option maxHeartbeats 1000000 in
theorem lholds_any (w : World) (K : Nat → Prop) (o : OwnV) (h : OwnAt w K o) :
    Calls Tryz.prog 11 #[o.val] w fun e w' => e = .returned (.bool true) ∧ Below w.heap.size w w' := by
  obtain ⟨a, b, c, d, n, mk⟩ := o
  have hal : ∀ k, (List.replicate k mk).all (· == mk) = true := fun k => by rw [List.all_eq_true]; intro x hx; rw [(List.mem_replicate.1 hx).2]; simp
  have H1 := hide (fun W (hW : Below w.heap.size w W) => lfull_any W a _ mk (h.a.below hW).row)
  have H2 := hide (fun W (hW : Below w.heap.size w W) => lfull_any W b _ mk (h.b.below hW).row)
  have H3 := hide (fun W (hW : Below w.heap.size w W) => lfull_any W c _ mk (h.c.below hW).row)
  have H4 := hide (fun W (hW : Below w.heap.size w W) => lfull_any W d _ mk (h.d.below hW).row)
  simp only [hal] at H1 H2 H3 H4
  obtain ⟨A1, C1, e1, _⟩ := h.a
  obtain ⟨A2, C2, e2, _⟩ := h.b
  obtain ⟨A3, C3, e3, _⟩ := h.c
  obtain ⟨A4, C4, e4, _⟩ := h.d
  simp only at e1 e2 e3 e4
  subst e1 e2 e3 e4
  clear h hal
  obtain ⟨bx, hbx⟩ : ∃ bx, bx = w.alloc (.cells #[.slice A1 n C1, .slice A2 (n + 1) C2, .slice A3 (n + 2) C3, .slice A4 (n + 6) C4, .int .i64 mk] 36) := ⟨_, rfl⟩
  have HB0 : Hid (Below w.heap.size w bx) := hide (by rw [hbx]; exact (Below.refl _ _).alloc (Nat.le_refl _) _)
  have HSZ : Hid (w.heap.size < bx.heap.size) := hide (by rw [hbx]; simp)
  have HC : Hid (∀ W, Below bx.heap.size bx W → W.cell? ⟨w.heap.size, 1, none⟩ = some (.slice A2 (n + 1) C2) ∧ W.cell? ⟨w.heap.size, 2, none⟩ = some (.slice A3 (n + 2) C3) ∧ W.cell? ⟨w.heap.size, 3, none⟩ = some (.slice A4 (n + 6) C4) ∧ W.cell? ⟨w.heap.size, 4, none⟩ = some (.int .i64 mk)) := hide (fun W hW => by
    have hN : W.heap[w.heap.size]? = some (.cells #[.slice A1 n C1, .slice A2 (n + 1) C2, .slice A3 (n + 2) C3, .slice A4 (n + 6) C4, .int .i64 mk] 36) := (hW.block w.heap.size HSZ.out).trans (by rw [hbx]; exact heap_alloc_new w _)
    exact ⟨by rw [cell_of_row W _ 1 _ _ _ hN]; rfl, by rw [cell_of_row W _ 2 _ _ _ hN]; rfl, by rw [cell_of_row W _ 3 _ _ _ hN]; rfl, by rw [cell_of_row W _ 4 _ _ _ hN]; rfl⟩)
  go_enter Tryz.func11, Tryz.ntmps11
  go_wp2_with fail
  rw [← hbx]
  refine (H1.out bx HB0.out).mono ?_
  rintro e w1 ⟨rfl, hb1⟩
  obtain ⟨x1, x2, x3, x4⟩ := HC.out w1 hb1
  have HB1 := hide hb1
  clear hb1
  go_wp2_with fail
  refine (H2.out w1 (HB0.out.trans (HB1.out.mono HB0.out.size))).mono ?_
  rintro e w2 ⟨rfl, hb2⟩
  have HB2 := hide (HB1.out.trans (hb2.mono HB1.out.size))
  clear hb2 x1 x2 x3 x4
  obtain ⟨x1, x2, x3, x4⟩ := HC.out w2 HB2.out
  go_wp2_with fail
  refine (H3.out w2 (HB0.out.trans (HB2.out.mono HB0.out.size))).mono ?_
  rintro e w3 ⟨rfl, hb3⟩
  have HB3 := hide (HB2.out.trans (hb3.mono HB2.out.size))
  clear hb3 x1 x2 x3 x4
  obtain ⟨x1, x2, x3, x4⟩ := HC.out w3 HB3.out
  go_wp2_with fail
  refine (H4.out w3 (HB0.out.trans (HB3.out.mono HB0.out.size))).mono ?_
  rintro e w4 ⟨rfl, hb4⟩
  have HB4 := hide (HB3.out.trans (hb4.mono HB3.out.size))
  clear hb4 x1 x2 x3 x4
  go_wp2
  go_ret
  exact ⟨rfl, HB0.out.trans (HB4.out.mono HB0.out.size)⟩

end Go.Proofs.YtmndgoapkmhglaaGreat

/- the statements' own helpers: roomy, whole. -/
namespace Go.Proofs.YtmndgoapkmhglaaGreat
open Go.RowKit
attribute [local go_sem ↓] Go.wp_at_zero Go.wp_at_succ


/-- a list with a mark in its spare room; nil stays nil. -/
def RoomV (w : World) (B : Nat) (A : Option Addr) (xs : List Int) (v : Value) : Prop :=
  (A = none ∧ v = .slice none 0 0) ∨ (A ≠ none ∧ ∃ G, B ≤ G ∧ v = .slice (some ⟨G, 0, none⟩) xs.length (xs.length + 1) ∧ w.heap[G]? = some (.cells (iCells (xs ++ [-77])).toArray 3))

theorem RoomV.below {w w' : World} {B : Nat} {A : Option Addr} {xs : List Int} {v : Value} (h : RoomV w B A xs v) (hb : Below w.heap.size w w') : RoomV w' B A xs v := by
  rcases h with h | ⟨h1, G, h2, h3, h4⟩
  · exact .inl h
  · exact .inr ⟨h1, G, h2, h3, (hb.block G (Array.getElem?_eq_some_iff.1 h4).1).trans h4⟩
theorem RoomV.keep {w w' : World} {B : Nat} {A : Option Addr} {xs : List Int} {v : Value} (h : RoomV w B A xs v) {N : Nat} (hl : w.heap.size ≤ N) (hb : Below N w w') : RoomV w' B A xs v := h.below (hb.mono hl)
theorem RoomV.row {w : World} {B : Nat} {A : Option Addr} {xs : List Int} {v : Value} (h : RoomV w B A xs v) (h0 : A = none → xs = []) (hm : xs.length ≤ 35184372088832) : RowAt w v xs := by
  rcases h with ⟨h1, rfl⟩ | ⟨h1, G, h2, rfl, h4⟩
  · rw [h0 h1]; exact ⟨none, 0, rfl, by simp, fun hp => by simp at hp⟩
  · refine ⟨_, _, rfl, hm, fun hp => ⟨G, 0, rfl, (Array.getElem?_eq_some_iff.1 h4).1, fun c hc => ?_⟩⟩
    rw [cell_of_row w G _ _ _ _ h4]
    simp [iCells, List.getElem?_append, hc]

theorem eql_nil {P : Program} (t e : TypeId) (h : P.underlying t = some (.slice e)) (w : World) (a : Option Addr) (l c : Nat) : (binOp .eql t (.slice a l c) (.slice none 0 0)).run P w = .ok (.bool a.isNone) w := by
  simp only [binOp]
  simp [run_equal_slice_nil w t e a l c h]

theorem made_rep (z : Value) (n : Nat) : madeCells #[z] n = (List.replicate n z).toArray := by
  apply Array.ext
  · simp [madeCells]
  · intro i h1 h2
    simp [madeCells, Nat.mod_one]

set_option maxHeartbeats 2000000 in
set_option maxRecDepth 100000 in
theorem lroomy_any (w : World) (A : Option Addr) (C : Nat) (xs : List Int) (h : RowAt w (.slice A xs.length C) xs) (h0 : A = none → xs = []) (hn : xs.length ≤ 17592186044416) :
    Calls Tryz.prog 20 #[.slice A xs.length C] w fun e w' => ∃ v, e = .returned v ∧ RoomV w' w.heap.size A xs v ∧ Below w.heap.size w w' := by
  obtain ⟨A', C', he, hm, hc⟩ := h
  simp only [Value.slice.injEq, true_and] at he
  obtain ⟨rfl, rfl⟩ := he
  have hnil := eql_nil (P := Tryz.prog) 34 3 Tryz.underlying34
  cases A with
  | none =>
    have hx := h0 rfl
    subst hx
    clear hc h0
    go_enter Tryz.func20, Tryz.ntmps20
    go_wp2
    go_ret
    exact ⟨_, rfl, .inl ⟨rfl, rfl⟩, Below.refl _ _⟩
  | some a =>
    have hm2 := run_make_row' (P := Tryz.prog) 34 3 (.int .i64 0) 8 Tryz.underlying34 Tryz.infoInt rfl .i64 .i64 (xs.length + 1) (by omega) (by omega)
    simp only [show ((xs.length + 1 : Nat) : Int) = (xs.length : Int) + 1 from by omega] at hm2
    have hsz : (Tryz.prog.info? 3).map (·.size) = some 1 := by have := Tryz.infoInt; cases hq : Tryz.prog.info? 3 with | none => rw [hq] at this; cases this | some i => rw [hq] at this; simp at this; simp [this]
    obtain ⟨X, hX⟩ : ∃ X, X = iCells xs := ⟨_, rfl⟩
    have HX := hide hX
    have hXl : X.length = xs.length := by rw [hX]; exact iCells_len xs
    have hpos : 0 < X.length → ∃ ad, (some a : Option Addr) = some ad ∧ ∀ o j v, X[j]? = some v → (w.alloc o).cell? (ad.add j) = some v := fun hp => by
      obtain ⟨b, o, h1, h2, h3⟩ := hc (by omega)
      refine ⟨⟨b, o, none⟩, h1, fun oo j v hv => ?_⟩
      rw [hX, iCells_get] at hv
      obtain ⟨x, hx, rfl⟩ := Option.map_eq_some_iff.1 hv
      obtain ⟨hj, rfl⟩ := List.getElem?_eq_some_iff.1 hx
      rw [Addr.add_lit, World.cell?_alloc_past _ _ _ h2]
      exact h3 j hj
    have hone : ∀ v ∈ X, v.oneCell' = true := fun v hv => by
      rw [hX] at hv
      obtain ⟨x, _, rfl⟩ := List.mem_map.1 hv
      rfl
    obtain ⟨Z, hZ⟩ : ∃ Z, Z = List.replicate (xs.length + 1) (Value.int .i64 0) := ⟨_, rfl⟩
    have hZb : (w.alloc (.cells (madeCells #[.int .i64 0] (xs.length + 1)) 3)).heap[w.heap.size]? = some (.cells Z.toArray 3 (0, 0)) := by
      rw [heap_alloc_new, hZ, made_rep]
    have hZl : Z.length = xs.length + 1 := by rw [hZ]; simp
    have HZ := hide hZ
    have HB0 := hide ((Below.refl w.heap.size w).alloc (Nat.le_refl _) (.cells (madeCells #[.int .i64 0] (xs.length + 1)) 3))
    obtain ⟨w1, hcp, hg1, hb1⟩ : ∃ w1, (Builtin.copy_ #[34, 34] 3 #[.slice (some ⟨w.heap.size, 0, none⟩) (xs.length + 1) (xs.length + 1), .slice (some a) xs.length C]).run Tryz.prog (w.alloc (.cells (madeCells #[.int .i64 0] (xs.length + 1)) 3)) = .ok (goInt xs.length) w1 ∧
        w1.heap[w.heap.size]? = some (.cells (iCells (xs ++ [0])).toArray 3 (0, 0)) ∧ Below w.heap.size w w1 := by
      have hmin : X.length = Nat.min xs.length (xs.length + 1) := by rw [hXl]; exact (Nat.min_eq_left (by omega)).symm
      rcases Nat.eq_zero_or_pos xs.length with hz | hp
      · refine ⟨w.alloc (.cells (madeCells #[.int .i64 0] (xs.length + 1)) 3), ?_, hZb.trans ?_, HB0.out⟩
        · have := run_copy_none (P := Tryz.prog) (w.alloc (.cells (madeCells #[.int .i64 0] (xs.length + 1)) 3)) 34 34 3 3 (some ⟨w.heap.size, 0, none⟩) (some a) (xs.length + 1) (xs.length + 1) xs.length C Tryz.underlying34 hsz (by rw [← hmin, hXl]; exact hz)
          rw [this]; simp [hz]
        · rw [hZ, hz, List.eq_nil_of_length_eq_zero hz]; rfl
      · obtain ⟨ad, had, hsrc⟩ := hpos (by omega)
        cases had
        have hr := run_copy_row (P := Tryz.prog) (w.alloc (.cells (madeCells #[.int .i64 0] (xs.length + 1)) 3)) 34 34 3 3 w.heap.size 0 (xs.length + 1) (xs.length + 1) a xs.length C Z.toArray 3 X Tryz.underlying34 hsz hZb hmin (hsrc _) (by simp; omega) hone
        rw [hXl] at hr
        refine ⟨_, hr, ?_, below_setRow HB0.out (Nat.le_refl _) _⟩
        rw [setRow_heap _ _ _ _ _ _ hZb]
        congr 2
        rw [hZ, hX]
        simp [iCells, List.replicate_succ']
    have HG1 := hide hg1
    have HB1 := hide hb1
    have k1 : w1.cell? ⟨w.heap.size, xs.length, none⟩ = some (.int .i64 0) := by
      rw [cell_of_row w1 _ _ _ _ _ hg1]
      simp [iCells]
    have k2 : w1.frozen? ⟨w.heap.size, xs.length, none⟩ = false := frozen_of_row w1 _ _ _ _ hg1
    have k3 : (xs.length : Int) < (xs.length : Int) + 1 := by omega
    have k4 : (0 : Int) ≤ (xs.length : Int) := by omega
    have HFIN : Hid ((w1.setCell ⟨w.heap.size, xs.length, none⟩ (.int .i64 (-77))).heap[w.heap.size]? = some (.cells (iCells (xs ++ [-77])).toArray 3)) := hide (by
      rw [heap_setCell_same w1 _ _ _ _ _ hg1]
      congr 2
      simp [iCells])
    clear hc h0 hX hZ hpos hone hZb hsz hXl hZl hg1 hb1
    go_enter Tryz.func20, Tryz.ntmps20
    go_wp2
    go_ret
    exact ⟨_, rfl, .inr ⟨by simp, w.heap.size, Nat.le_refl _, rfl, HFIN.out⟩, HB1.out.setCell (Nat.le_refl _) _⟩

end Go.Proofs.YtmndgoapkmhglaaGreat

/- the statements' own helpers: lists, still. -/
namespace Go.Proofs.YtmndgoapkmhglaaGreat
open Go.RowKit
attribute [local go_sem ↓] Go.wp_at_zero Go.wp_at_succ

/-- lists that are handed over. -/
structure GivenAt (w : World) (B : Nat) (ins : List (List Int)) (AS : Nat → Option Addr) (go gi gm : Nat) (V : Nat → Value) : Prop where
  out : w.heap[go]? = some (.cells (((List.range ins.length).map V ++ [Value.slice (some ⟨gm, 0, none⟩) 1 1]).toArray) 34)
  inn : w.heap[gi]? = some (.cells ((List.range ins.length).map V).toArray 34)
  mark : w.heap[gm]? = some (.cells #[.int .i64 (-77)] 3)
  rows : ∀ r, (h : r < ins.length) → RoomV w B (AS r) ins[r] (V r)
  b1 : B ≤ go
  b2 : B ≤ gi
  b3 : B ≤ gm

theorem GivenAt.below {w w' : World} {B : Nat} {ins : List (List Int)} {AS : Nat → Option Addr} {go gi gm : Nat} {V : Nat → Value} (h : GivenAt w B ins AS go gi gm V) (hb : Below w.heap.size w w') : GivenAt w' B ins AS go gi gm V :=
  ⟨(hb.block _ (Array.getElem?_eq_some_iff.1 h.out).1).trans h.out, (hb.block _ (Array.getElem?_eq_some_iff.1 h.inn).1).trans h.inn, (hb.block _ (Array.getElem?_eq_some_iff.1 h.mark).1).trans h.mark, fun r hr => (h.rows r hr).below hb, h.b1, h.b2, h.b3⟩

/-- what is handed over: nothing, or lists. -/
def GivenV (w : World) (B : Nat) (A : Option Addr) (ins : List (List Int)) (AS : Nat → Option Addr) (vo vi : Value) : Prop :=
  (A = none ∧ vo = .slice none 0 0 ∧ vi = .slice none 0 0) ∨
  (A ≠ none ∧ ∃ go gi gm V, vo = .slice (some ⟨go, 0, none⟩) ins.length (ins.length + 1) ∧ vi = .slice (some ⟨gi, 0, none⟩) ins.length ins.length ∧ GivenAt w B ins AS go gi gm V)
theorem GivenV.below {w w' : World} {B : Nat} {A : Option Addr} {ins : List (List Int)} {AS : Nat → Option Addr} {vo vi : Value} (h : GivenV w B A ins AS vo vi) (hb : Below w.heap.size w w') : GivenV w' B A ins AS vo vi := by
  rcases h with h | ⟨h1, go, gi, gm, V, h2, h3, h4⟩
  · exact .inl h
  · exact .inr ⟨h1, go, gi, gm, V, h2, h3, h4.below hb⟩
theorem GivenV.ls {w : World} {B : Nat} {A : Option Addr} {C : Nat} {ins : List (List Int)} {AS : Nat → Option Addr} {CS : Nat → Nat} {vo vi : Value} (h : GivenV w B A ins AS vo vi) (ha : ArgL w A C ins AS CS) : LsAt w vo ins := by
  have hf := ha.few
  rcases h with ⟨h1, rfl, _⟩ | ⟨h1, go, gi, gm, V, rfl, _, h4⟩
  · rw [ha.nil h1]; exact ⟨none, 0, rfl, by simp, fun hp => by simp at hp⟩
  · refine ⟨_, _, rfl, by omega, fun hp => ⟨go, 0, rfl, (Array.getElem?_eq_some_iff.1 h4.out).1, fun r hr => ⟨V r, ?_, (h4.rows r hr).row (ha.row r hr).2.1 (by have := (ha.row r hr).2.2; omega)⟩⟩⟩
    rw [cell_of_row w go _ _ _ _ h4.out]
    simp [List.getElem?_append, hr]

theorem RoomV.weak {w : World} {B B' : Nat} {A : Option Addr} {xs : List Int} {v : Value} (h : RoomV w B A xs v) (hb : B' ≤ B) : RoomV w B' A xs v := by
  rcases h with h | ⟨h1, G, h2, h3, h4⟩
  · exact .inl h
  · exact .inr ⟨h1, G, Nat.le_trans hb h2, h3, h4⟩
theorem RoomV.of {w w' : World} {B : Nat} {A : Option Addr} {xs : List Int} {v : Value} (h : RoomV w B A xs v) (hb : ∀ G, B ≤ G → G < w.heap.size → w'.heap[G]? = w.heap[G]?) : RoomV w' B A xs v := by
  rcases h with h | ⟨h1, G, h2, h3, h4⟩
  · exact .inl h
  · exact .inr ⟨h1, G, h2, h3, (hb G h2 (Array.getElem?_eq_some_iff.1 h4).1).trans h4⟩

/-- the lists as they are being made. -/
structure Laying (w wr : World) (ins : List (List Int)) (AS : Nat → Option Addr) (k : Nat) (V : Nat → Value) : Prop where
  bel : Below w.heap.size w wr
  size : w.heap.size + 3 ≤ wr.heap.size
  box : wr.heap[w.heap.size]? = some (.cells #[.slice none 0 0, .slice none 0 0] 25)
  out : wr.rowIs (w.heap.size + 1) 34 (ins.length + 1) (fun j => if j < k then V j else .slice none 0 0)
  inn : wr.rowIs (w.heap.size + 2) 34 ins.length (fun j => if j < k then V j else .slice none 0 0)
  rows : ∀ r, (h : r < ins.length) → r < k → RoomV wr (w.heap.size + 3) (AS r) ins[r] (V r)

theorem Laying.next {w wr w1 : World} {ins : List (List Int)} {AS : Nat → Option Addr} {k : Nat} {V : Nat → Value} (h : Laying w wr ins AS k V) (hk : k < ins.length) (hb : Below wr.heap.size wr w1) (v : Value) (hv : RoomV w1 wr.heap.size (AS k) (ins[k]'hk) v) :
    Laying w ((w1.setCell ⟨w.heap.size + 1, k, none⟩ v).setCell ⟨w.heap.size + 2, k, none⟩ v) ins AS (k + 1) (fun j => if j = k then v else V j) := by
  have hs := h.size
  have hs1 := hb.size
  have oth : ∀ b, b ≠ w.heap.size + 1 → b ≠ w.heap.size + 2 → ((w1.setCell ⟨w.heap.size + 1, k, none⟩ v).setCell ⟨w.heap.size + 2, k, none⟩ v).heap[b]? = w1.heap[b]? := fun b h1 h2 => (heap_setCell_other _ ⟨w.heap.size + 2, k, none⟩ b _ h2).trans (heap_setCell_other _ ⟨w.heap.size + 1, k, none⟩ b _ h1)
  have old : ∀ b, b < wr.heap.size → w1.heap[b]? = wr.heap[b]? := fun b hb' => hb.block b hb'
  refine ⟨((h.bel.trans (hb.mono (by omega))).setCell (by show w.heap.size ≤ w.heap.size + 1; omega) _).setCell (by show w.heap.size ≤ w.heap.size + 2; omega) _, by simp; omega, ?_, ?_, ?_, fun r hr hrk => ?_⟩
  · rw [oth _ (by omega) (by omega), old _ (by omega)]; exact h.box
  · have h1 : w1.rowIs (w.heap.size + 1) 34 (ins.length + 1) (fun j => if j < k then V j else .slice none 0 0) := h.out.of_block (old _ (by omega))
    refine ((h1.set k v).setOther (a := ⟨w.heap.size + 2, k, none⟩) (by show w.heap.size + 1 ≠ w.heap.size + 2; omega) v).congr (fun j _ => ?_)
    by_cases e : j = k
    · subst e; simp
    · by_cases hj : j < k
      · rw [if_neg e, if_pos hj, if_pos (by omega), if_neg e]
      · rw [if_neg e, if_neg hj, if_neg (by omega)]
  · have h1 : w1.rowIs (w.heap.size + 2) 34 ins.length (fun j => if j < k then V j else .slice none 0 0) := h.inn.of_block (old _ (by omega))
    refine ((h1.setOther (a := ⟨w.heap.size + 1, k, none⟩) (by show w.heap.size + 2 ≠ w.heap.size + 1; omega) v).set k v).congr (fun j _ => ?_)
    by_cases e : j = k
    · subst e; simp
    · by_cases hj : j < k
      · rw [if_neg e, if_pos hj, if_pos (by omega), if_neg e]
      · rw [if_neg e, if_neg hj, if_neg (by omega)]
  · by_cases e : r = k
    · subst e
      simp only [if_true]
      exact (hv.weak hs).of (fun G hG _ => oth G (by omega) (by omega))
    · simp only [if_neg e]
      exact ((h.rows r hr (by omega)).below hb).of (fun G hG _ => oth G (by omega) (by omega))

/-- the lists when they are made. -/
theorem Laying.done {w wr : World} {ins : List (List Int)} {AS : Nat → Option Addr} {V : Nat → Value} (h : Laying w wr ins AS ins.length V) (u0 u1 : Value) :
    GivenAt ((((wr.alloc (.cells #[.int .i64 (-77)] 3)).setCell ⟨w.heap.size + 1, ins.length, none⟩ (.slice (some ⟨wr.heap.size, 0, none⟩) 1 1)).setCell ⟨w.heap.size, 0, none⟩ u0).setCell ⟨w.heap.size, 1, none⟩ u1) w.heap.size ins AS (w.heap.size + 1) (w.heap.size + 2) wr.heap.size V := by
  have hs := h.size
  have oth : ∀ b, b ≠ w.heap.size → b ≠ w.heap.size + 1 → ((((wr.alloc (.cells #[.int .i64 (-77)] 3)).setCell ⟨w.heap.size + 1, ins.length, none⟩ (.slice (some ⟨wr.heap.size, 0, none⟩) 1 1)).setCell ⟨w.heap.size, 0, none⟩ u0).setCell ⟨w.heap.size, 1, none⟩ u1).heap[b]? = (wr.alloc (.cells #[.int .i64 (-77)] 3)).heap[b]? := fun b h1 h2 =>
    ((heap_setCell_other _ ⟨w.heap.size, 1, none⟩ b _ h1).trans (heap_setCell_other _ ⟨w.heap.size, 0, none⟩ b _ h1)).trans (heap_setCell_other _ ⟨w.heap.size + 1, ins.length, none⟩ b _ h2)
  refine ⟨?_, ?_, ?_, fun r hr => ?_, by omega, by omega, by omega⟩
  · have h1 := ((((h.out.alloc (.cells #[.int .i64 (-77)] 3)).set ins.length (.slice (some ⟨wr.heap.size, 0, none⟩) 1 1)).setOther (a := ⟨w.heap.size, 0, none⟩) (by show w.heap.size + 1 ≠ w.heap.size; omega) u0).setOther (a := ⟨w.heap.size, 1, none⟩) (by show w.heap.size + 1 ≠ w.heap.size; omega) u1)
    obtain ⟨c, hc1, hc2, hc3⟩ := h1
    rw [hc1]
    congr 2
    apply Array.ext_getElem?
    intro j
    by_cases hj : j < ins.length + 1
    · rw [hc3 j hj]
      by_cases e : j = ins.length
      · subst e; simp
      · have hjl : j < ins.length := by omega
        simp [List.getElem?_append, hjl, e]
    · rw [Array.getElem?_eq_none (by omega), Array.getElem?_eq_none (by simp; omega)]
  · have h1 := (((h.inn.alloc (.cells #[.int .i64 (-77)] 3))))
    obtain ⟨c, hc1, hc2, hc3⟩ := h1
    rw [oth _ (by omega) (by omega), hc1]
    congr 2
    apply Array.ext_getElem?
    intro j
    by_cases hj : j < ins.length
    · rw [hc3 j hj]
      simp [hj]
    · rw [Array.getElem?_eq_none (by omega), Array.getElem?_eq_none (by simp; omega)]
  · rw [oth _ (by omega) (by omega)]
    exact heap_alloc_new wr _
  · exact ((h.rows r hr hr).below ((Below.refl _ _).alloc (Nat.le_refl _) _)).of (fun G hG _ => oth G (by omega) (by omega)) |>.weak (by omega)

end Go.Proofs.YtmndgoapkmhglaaGreat

/- whole. -/
namespace Go.Proofs.YtmndgoapkmhglaaGreat
open Go.RowKit
attribute [local go_sem ↓] Go.wp_at_zero Go.wp_at_succ

/-- what becomes of a list that is handed over: does it still read as it did? -/
theorem lwhole_any (w : World) (B : Nat) (A : Option Addr) (C : Nat) (xs : List Int) (v : Value) (hv : RoomV w B A xs v) (h : RowAt w (.slice A xs.length C) xs) (h0 : A = none → xs = []) (hn : xs.length ≤ 17592186044416) :
    Calls Tryz.prog 26 #[v, .slice A xs.length C] w fun e w' => e = .returned (.bool true) ∧ Below w.heap.size w w' := by
  have hnil := eql_nil (P := Tryz.prog) 34 3 Tryz.underlying34
  have hrow := hv.row h0 (by omega)
  have HS := hide (lsame_any w v (.slice A xs.length C) xs xs hrow h)
  rcases hv with ⟨rfl, rfl⟩ | ⟨hA, G, hG, rfl, hb⟩
  · clear HS hrow h
    have hx := h0 rfl
    subst hx
    go_enter Tryz.func26, Tryz.ntmps26
    go_wp2
    go_ret
    exact ⟨rfl, Below.refl _ _⟩
  · have k1 : ∀ w', Below w.heap.size w w' → w'.cell? ⟨G, xs.length, none⟩ = some (.int .i64 (-77)) := fun w' hb' => by
      rw [hb'.cell (p := ⟨G, xs.length, none⟩) (Array.getElem?_eq_some_iff.1 hb).1, cell_of_row w _ _ _ _ _ hb]
      simp [iCells]
    have HK := hide k1
    have k3 : (xs.length : Int) < (xs.length : Int) + 1 := by omega
    have k4 : (0 : Int) ≤ (xs.length : Int) := by omega
    have HE : Hid ((xs == xs) = true) := hide (by simp)
    clear k1 hrow h h0 hA hb
    go_enter Tryz.func26, Tryz.ntmps26
    go_wp2_with fail
    refine HS.out.mono ?_
    rintro e w1 ⟨rfl, hb1⟩
    rw [HE.out]
    have k1 := HK.out w1 hb1
    go_wp2
    go_ret
    exact ⟨rfl, hb1⟩

end Go.Proofs.YtmndgoapkmhglaaGreat
