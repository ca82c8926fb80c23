import Derived.Test.YtecegaflhdgfaaaM06AstF
/- Plain mathematics: what the document's own reader looks up in the tokens. -/
namespace Go.Proofs.Ytecegaflhdgfaaa

def dstep (ts : List Tk) (k : Nat) (d : Int) : Int := if lAt ts k = [40] then d + 1 else if lAt ts k = [41] then d - 1 else d
def bhF (ts : List Tk) : Nat → Nat → Int → Nat
  | 0, _, _ => ts.length
  | f + 1, k, d => if dstep ts k d ≤ 0 then k + 1 else bhF ts f (k + 1) (dstep ts k d)
/-- the token behind the expression that begins at i. -/
def behindF (ts : List Tk) (i : Nat) : Nat := bhF ts (ts.length - i) i 0

theorem bhF_le (ts : List Tk) : ∀ f k d, f + k = ts.length → bhF ts f k d ≤ ts.length := by
  intro f
  induction f with
  | zero => intro k d _; exact Nat.le_refl _
  | succ f ih =>
    intro k d h
    unfold bhF
    split
    · omega
    · exact ih _ _ (by omega)
theorem behindF_le (ts : List Tk) (i : Nat) (h : i ≤ ts.length) : behindF ts i ≤ ts.length := bhF_le ts _ _ _ (by omega)

theorem bhF_gt (ts : List Tk) : ∀ f k d, f + k = ts.length → k < ts.length → k < bhF ts f k d := by
  intro f
  induction f with
  | zero => intro k d h hk; exact hk
  | succ f ih =>
    intro k d h hk
    unfold bhF
    split
    · omega
    · by_cases h1 : k + 1 < ts.length
      · have := ih (k + 1) (dstep ts k d) (by omega) h1; omega
      · have : f = 0 := by omega
        subst this
        exact hk
theorem behindF_gt (ts : List Tk) (i : Nat) (h : i < ts.length) : i < behindF ts i := bhF_gt ts _ _ _ (by omega) h

section
variable {ts : List Tk} (hF : ∀ i, TkF (tkAt ts i))
include hF

omit hF in
/-- no bracket: the count stays. -/
theorem bh_pass {f k : Nat} {d : Int} (h1 : lAt ts k ≠ [40]) (h2 : lAt ts k ≠ [41]) (hd : 0 < d) : bhF ts (f + 1) k d = bhF ts f (k + 1) d := by
  have : dstep ts k d = d := by unfold dstep; rw [if_neg h1, if_neg h2]
  simp only [bhF, this]
  rw [if_neg (by omega)]
omit hF in
theorem bh_open {f k : Nat} {d : Int} (h1 : lAt ts k = [40]) (hd : 0 ≤ d) : bhF ts (f + 1) k d = bhF ts f (k + 1) (d + 1) := by
  have : dstep ts k d = d + 1 := by unfold dstep; rw [if_pos h1]
  simp only [bhF, this]
  rw [if_neg (by omega)]
omit hF in
theorem bh_close {f k : Nat} {d : Int} (h1 : lAt ts k = [41]) (hd : 0 < d) : bhF ts (f + 1) k (d + 1) = bhF ts f (k + 1) d := by
  have : dstep ts k (d + 1) = d := by unfold dstep; rw [if_neg (by rw [h1]; decide), if_pos h1]; omega
  simp only [bhF, this]
  rw [if_neg (by omega)]

/-- within brackets an expression is passed over; its brackets, but for the last. -/
theorem bh_over : ∀ (t : Ast) (i f : Nat) (d : Int), Sp ts t i → 0 < d → bhF ts (f + t.len) i d = bhF ts f (i + t.len) d := by
  intro t
  induction t with
  | leaf =>
    intro i f d hs hd
    obtain ⟨_, _, a, b⟩ := leaf_ne2 hF hs.1
    exact bh_pass a b hd
  | neg a iha =>
    intro i f d hs hd
    obtain ⟨h1, h2, h3, h4⟩ := hs
    have e : f + (Ast.neg a).len = (f + 1) + a.len + 1 + 1 := by simp [Ast.len]; omega
    rw [e, bh_open h1 (by omega), bh_pass (by rw [h2]; decide) (by rw [h2]; decide) (by omega), iha (i + 1 + 1) (f + 1) _ h3 (by omega), bh_close (by rw [← h4]) hd]
    congr 1; simp [Ast.len]; omega
  | ite a b c iha ihb ihc =>
    intro i f d hs hd
    obtain ⟨h1, h2, h3, h4, h5, h6⟩ := hs
    have e : f + (Ast.ite a b c).len = (f + 1) + c.len + b.len + a.len + 1 + 1 := by simp [Ast.len]; omega
    rw [e, bh_open h1 (by omega), bh_pass (by rw [h2]; decide) (by rw [h2]; decide) (by omega), iha (i + 1 + 1) _ _ h3 (by omega), ihb (i + 1 + 1 + a.len) _ _ h4 (by omega), ihc (i + 1 + 1 + a.len + b.len) _ _ h5 (by omega), bh_close (by rw [← h6]) hd]
    congr 1; simp [Ast.len]; omega
  | dly b ihb =>
    intro i f d hs hd
    obtain ⟨h1, h2, h3, h4, h5⟩ := hs
    obtain ⟨_, _, x, y⟩ := leaf_ne2 hF (i := i + 1) (by unfold leafT; rw [h2]; rfl)
    have e : f + (Ast.dly b).len = (f + 1) + b.len + 1 + 1 + 1 := by simp [Ast.len]; omega
    rw [e, bh_open h1 (by omega), bh_pass x y (by omega), bh_pass (by rw [h3]; decide) (by rw [h3]; decide) (by omega), ihb (i + 1 + 1 + 1) (f + 1) _ h4 (by omega), bh_close (by rw [← h5]) hd]
    congr 1; simp [Ast.len]; omega
  | bin a b iha ihb =>
    intro i f d hs hd
    obtain ⟨h1, h2, h3, h4, h5⟩ := hs
    obtain ⟨x, y, _, _⟩ := op_ne h3
    have e : f + (Ast.bin a b).len = (f + 1) + b.len + 1 + a.len + 1 := by simp [Ast.len]; omega
    have e2 : i + 1 + a.len + 1 = i + 2 + a.len := by omega
    rw [e, bh_open h1 (by omega), iha (i + 1) _ _ h2 (by omega), bh_pass x y (by omega), e2, ihb (i + 2 + a.len) (f + 1) _ h4 (by omega), bh_close (by rw [← h5]) hd]
    congr 1; simp [Ast.len]; omega

/-- an expression ends where its last token does. -/
theorem behind_sp (t : Ast) (i : Nat) (hs : Sp ts t i) (hi : i + t.len ≤ ts.length) : behindF ts i = i + t.len := by
  have hlast : ∀ f k, lAt ts k = [41] → bhF ts (f + 1) k 1 = k + 1 := by
    intro f k h
    have : dstep ts k 1 = 0 := by unfold dstep; rw [if_neg (by rw [h]; decide), if_pos h]; omega
    simp only [bhF, this]
    rw [if_pos (by omega)]
  unfold behindF
  cases t with
  | leaf =>
    obtain ⟨_, _, a, b⟩ := leaf_ne2 hF hs.1
    have hl : (Ast.leaf).len = 1 := rfl
    rw [hl] at hi ⊢
    have e : ts.length - i = (ts.length - i - 1) + 1 := by omega
    have : dstep ts i 0 = 0 := by unfold dstep; rw [if_neg a, if_neg b]
    rw [e]
    simp only [bhF, this]
    rw [if_pos (by omega)]
  | neg a =>
    obtain ⟨h1, h2, h3, h4⟩ := hs
    have hl : (Ast.neg a).len = a.len + 3 := rfl
    rw [hl] at hi ⊢
    have e : ts.length - i = (ts.length - i - (a.len + 3)) + 1 + a.len + 1 + 1 := by omega
    rw [e, bh_open h1 (by omega), bh_pass (by rw [h2]; decide) (by rw [h2]; decide) (by omega), bh_over hF a (i + 1 + 1) _ _ h3 (by omega)]
    have := hlast (ts.length - i - (a.len + 3)) (i + 1 + 1 + a.len) h4
    rw [show (0 : Int) + 1 = 1 by omega, this]; omega
  | ite a b c =>
    obtain ⟨h1, h2, h3, h4, h5, h6⟩ := hs
    have hl : (Ast.ite a b c).len = a.len + b.len + c.len + 3 := rfl
    rw [hl] at hi ⊢
    have e : ts.length - i = (ts.length - i - (a.len + b.len + c.len + 3)) + 1 + c.len + b.len + a.len + 1 + 1 := by omega
    rw [e, bh_open h1 (by omega), bh_pass (by rw [h2]; decide) (by rw [h2]; decide) (by omega), bh_over hF a (i + 1 + 1) _ _ h3 (by omega), bh_over hF b (i + 1 + 1 + a.len) _ _ h4 (by omega), bh_over hF c (i + 1 + 1 + a.len + b.len) _ _ h5 (by omega)]
    have := hlast (ts.length - i - (a.len + b.len + c.len + 3)) (i + 1 + 1 + a.len + b.len + c.len) h6
    rw [show (0 : Int) + 1 = 1 by omega, this]; omega
  | dly b =>
    obtain ⟨h1, h2, h3, h4, h5⟩ := hs
    obtain ⟨_, _, x, y⟩ := leaf_ne2 hF (i := i + 1) (by unfold leafT; rw [h2]; rfl)
    have hl : (Ast.dly b).len = b.len + 4 := rfl
    rw [hl] at hi ⊢
    have e : ts.length - i = (ts.length - i - (b.len + 4)) + 1 + b.len + 1 + 1 + 1 := by omega
    rw [e, bh_open h1 (by omega), bh_pass x y (by omega), bh_pass (by rw [h3]; decide) (by rw [h3]; decide) (by omega), bh_over hF b (i + 1 + 1 + 1) _ _ h4 (by omega)]
    have := hlast (ts.length - i - (b.len + 4)) (i + 1 + 1 + 1 + b.len) h5
    rw [show (0 : Int) + 1 = 1 by omega, this]; omega
  | bin a b =>
    obtain ⟨h1, h2, h3, h4, h5⟩ := hs
    obtain ⟨x, y, _, _⟩ := op_ne h3
    have hl : (Ast.bin a b).len = a.len + b.len + 3 := rfl
    rw [hl] at hi ⊢
    have e : ts.length - i = (ts.length - i - (a.len + b.len + 3)) + 1 + b.len + 1 + a.len + 1 := by omega
    have e2 : i + 1 + a.len + 1 = i + 2 + a.len := by omega
    rw [e, bh_open h1 (by omega), bh_over hF a (i + 1) _ _ h2 (by omega), bh_pass x y (by omega), e2, bh_over hF b (i + 2 + a.len) _ _ h4 (by omega)]
    have := hlast (ts.length - i - (a.len + b.len + 3)) (i + 2 + a.len + b.len) h5
    rw [show (0 : Int) + 1 = 1 by omega, this]; omega

end

/-- the names of an expression: where each stands, and whether behind a delay. -/
def nmD (ts : List Tk) : Ast → Nat → Bool → List (Nat × Bool)
  | .leaf, i, dl => if (tkAt ts i).kind = 1 then [(i, dl)] else []
  | .neg a, i, dl => nmD ts a (i + 2) dl
  | .ite a b c, i, dl => nmD ts a (i + 2) dl ++ (nmD ts b (i + 2 + a.len) dl ++ nmD ts c (i + 2 + a.len + b.len) dl)
  | .dly b, i, _ => nmD ts b (i + 3) true
  | .bin a b, i, dl => nmD ts a (i + 1) dl ++ nmD ts b (i + 2 + a.len) dl

def isNm (ts : List Tk) (k : Nat) : Bool := (tkAt ts k).kind == 1

section
variable {ts : List Tk} (hF : ∀ i, TkF (tkAt ts i))
include hF

theorem kw_nm {i : Nat} (h : kwL.contains (lAt ts i) = true) : isNm ts i = false := by
  unfold isNm; rw [beq_eq_false_iff_ne]; exact (hF i).not1 h
theorem lit_nm {i : Nat} (h : litT (tkAt ts i) = true) : isNm ts i = false := by
  unfold litT at h
  simp only [Bool.or_eq_true, beq_iff_eq] at h
  rcases h with (h | h) | h
  · unfold isNm; rw [h]; rfl
  · exact kw_nm hF (by show kwL.contains (tkAt ts i).l = true; rw [h]; decide)
  · exact kw_nm hF (by show kwL.contains (tkAt ts i).l = true; rw [h]; decide)
omit hF in
theorem op_kw {l : List UInt8} (h : (opOf l).isSome = true) : kwL.contains l = true := by
  unfold opOf at h
  split at h; · rename_i e; rw [e]; decide
  split at h; · rename_i e; rw [e]; decide
  split at h; · rename_i e; rw [e]; decide
  split at h; · rename_i e; rw [e]; decide
  split at h; · rename_i e; rw [e]; decide
  split at h; · rename_i e; rw [e]; decide
  split at h; · rename_i e; rw [e]; decide
  split at h; · rename_i e; rw [e]; decide
  · cases h

omit hF in
theorem range_split (i a b : Nat) : List.range' i (a + b) = List.range' i a ++ List.range' (i + a) b := by
  rw [← List.range'_append_1]

/-- the names are the tokens that are names. -/
theorem nm_filter : ∀ (t : Ast) (i : Nat) (dl : Bool), Sp ts t i → (List.range' i t.len).filter (isNm ts) = (nmD ts t i dl).map Prod.fst := by
  have one : ∀ i, isNm ts i = false → (List.range' i 1).filter (isNm ts) = [] := by
    intro i h; simp [List.range', h]
  intro t
  induction t with
  | leaf =>
    intro i dl hs
    simp only [nmD, Ast.len, List.range']
    by_cases h : (tkAt ts i).kind = 1
    · rw [if_pos h]; simp [isNm, h]
    · rw [if_neg h]; simp [isNm, h]
  | neg a iha =>
    intro i dl hs
    obtain ⟨h1, h2, h3, h4⟩ := hs
    have e : (Ast.neg a).len = 1 + (1 + (a.len + 1)) := by simp [Ast.len]; omega
    rw [e, range_split, range_split, range_split, List.filter_append, List.filter_append, List.filter_append, one _ (kw_nm hF (by rw [h1]; decide)), one _ (kw_nm hF (by rw [h2]; decide)), show i + 1 + 1 = i + 2 by omega, iha (i + 2) dl h3, one _ (kw_nm hF (by rw [h4]; decide))]
    simp [nmD]
  | ite a b c iha ihb ihc =>
    intro i dl hs
    obtain ⟨h1, h2, h3, h4, h5, h6⟩ := hs
    have e : (Ast.ite a b c).len = 1 + (1 + (a.len + (b.len + (c.len + 1)))) := by simp [Ast.len]; omega
    rw [e, range_split, range_split, range_split, range_split, range_split, List.filter_append, List.filter_append, List.filter_append, List.filter_append, List.filter_append, one _ (kw_nm hF (by rw [h1]; decide)), one _ (kw_nm hF (by rw [h2]; decide)), show i + 1 + 1 = i + 2 by omega, iha (i + 2) dl h3, ihb _ dl h4, ihc _ dl h5, one _ (kw_nm hF (by rw [h6]; decide))]
    simp [nmD]
  | dly b ihb =>
    intro i dl hs
    obtain ⟨h1, h2, h3, h4, h5⟩ := hs
    have e : (Ast.dly b).len = 1 + (1 + (1 + (b.len + 1))) := by simp [Ast.len]; omega
    rw [e, range_split, range_split, range_split, range_split, List.filter_append, List.filter_append, List.filter_append, List.filter_append, one _ (kw_nm hF (by rw [h1]; decide)), one _ (lit_nm hF h2), show i + 1 + 1 = i + 2 by omega, one _ (kw_nm hF (by rw [h3]; decide)), show i + 2 + 1 = i + 3 by omega, ihb (i + 3) true h4, one _ (kw_nm hF (by rw [h5]; decide))]
    simp [nmD]
  | bin a b iha ihb =>
    intro i dl hs
    obtain ⟨h1, h2, h3, h4, h5⟩ := hs
    have e : (Ast.bin a b).len = 1 + (a.len + (1 + (b.len + 1))) := by simp [Ast.len]; omega
    rw [e, range_split, range_split, range_split, range_split, List.filter_append, List.filter_append, List.filter_append, List.filter_append, one _ (kw_nm hF (by rw [h1]; decide)), iha (i + 1) dl h2, one _ (kw_nm hF (op_kw h3)), show i + 1 + a.len + 1 = i + 2 + a.len by omega, ihb _ dl h4, one _ (kw_nm hF (by rw [h5]; decide))]
    simp [nmD]

/-- a name's node. -/
def nmNd (ts : List Tk) (x : Nat × Bool) : Nd := { mkN ts x.1 (if x.2 then 1 else 0) { ndZero with kind := 2, name := (tkAt ts x.1).text } with delayed := x.2 }

omit hF in
theorem mkN_kind (i dl : Nat) (n : Nd) : (mkN ts i dl n).kind = n.kind := rfl

omit hF in
theorem leafN0_name {t : Tk} (h : TkF t) (hk : t.kind = 1) : leafN0 t = { ndZero with kind := 2, name := t.text } := by
  have hn : ∀ l, kwL.contains l = true → t.l ≠ l := fun l hl e => by have := h.k1 hk; rw [e, hl] at this; cases this
  unfold leafN0
  rw [if_neg (hn _ (by decide)), if_neg (hn _ (by decide)), if_neg (by rw [hk]; decide)]
omit hF in
theorem leafN0_no {t : Tk} (h : leafT t = true) (hk : t.kind ≠ 1) : (leafN0 t).kind ≠ 2 := by
  unfold leafN0
  split; · simp
  split; · simp
  split; · simp
  · rename_i h1 h2 h3
    unfold leafT litT at h
    simp [h1, h2, h3, hk] at h

theorem flat_names : ∀ (t : Ast) (i dl off : Nat), Sp ts t i → (flat ts t i dl off).filter (fun n => n.kind == 2) = (nmD ts t i (decide (0 < dl))).map (nmNd ts) := by
  intro t
  induction t with
  | leaf =>
    intro i dl off hs
    simp only [flat, nmD]
    by_cases h : (tkAt ts i).kind = 1
    · rw [if_pos h, leafN0_name (hF i) h]
      simp [mkN, nmNd]
    · rw [if_neg h]
      have := leafN0_no hs.1 h
      simp [mkN, this]
  | neg a iha =>
    intro i dl off hs
    obtain ⟨h1, h2, h3, h4⟩ := hs
    simp only [flat, nmD]
    rw [List.filter_cons_of_neg (by simp [mkN]), iha _ _ _ h3]
  | ite a b c iha ihb ihc =>
    intro i dl off hs
    obtain ⟨h1, h2, h3, h4, h5, h6⟩ := hs
    simp only [flat, nmD]
    rw [List.filter_cons_of_neg (by simp [mkN]), List.filter_append, List.filter_append, iha _ _ _ h3, ihb _ _ _ h4, ihc _ _ _ h5, List.map_append, List.map_append]
  | dly b ihb =>
    intro i dl off hs
    obtain ⟨h1, h2, h3, h4, h5⟩ := hs
    have hk : (tkAt ts (i + 1)).kind ≠ 1 := by have := lit_nm hF h2; unfold isNm at this; simpa using this
    have := leafN0_no (t := tkAt ts (i + 1)) (by unfold leafT; rw [h2]; rfl) hk
    simp only [flat, nmD]
    rw [List.filter_cons_of_neg (by simp [mkN]), List.filter_cons_of_neg (by simp [mkN, this]), ihb _ _ _ h4, show decide (0 < dl + 1) = true by simp]
  | bin a b iha ihb =>
    intro i dl off hs
    obtain ⟨h1, h2, h3, h4, h5⟩ := hs
    simp only [flat, nmD]
    rw [List.filter_cons_of_neg (by simp [mkN]), List.filter_append, iha _ _ _ h2, ihb _ _ _ h4, List.map_append]

end

end Go.Proofs.Ytecegaflhdgfaaa

/- Plain mathematics: too many declarations, and names: both readers find the same. -/
namespace Go.Proofs.Ytecegaflhdgfaaa

theorem spell_mem {ts : List Tk} : ∀ (L : List Dl) (i : Nat), Spell ts L i → ∀ y ∈ L, i ≤ y.i ∧ y.i + y.len < ts.length ∧ DlOk ts y := by
  intro L
  induction L with
  | nil => intro i _ y hy; simp at hy
  | cons x r ih =>
    intro i h y hy
    obtain ⟨h1, h2, h3, h4⟩ := h
    rcases List.mem_cons.1 hy with rfl | hy
    · exact ⟨by omega, by omega, h3⟩
    · have := ih _ h4 y hy; exact ⟨by omega, this.2⟩
theorem Dl.len_pos (x : Dl) : 3 ≤ x.len := by unfold Dl.len; split <;> omega
theorem spell_mid {ts : List Tk} {x : Dl} {L2 : List Dl} : ∀ (L1 : List Dl) (i : Nat), Spell ts (L1 ++ x :: L2) i → (∀ y ∈ L1, y.i + y.len ≤ x.i) ∧ (∀ y ∈ L2, x.i + x.len ≤ y.i) ∧ i ≤ x.i ∧ x.i + x.len < ts.length ∧ DlOk ts x ∧ Spell ts L2 (x.i + x.len) := by
  intro L1
  induction L1 with
  | nil =>
    intro i h
    obtain ⟨h1, h2, h3, h4⟩ := h
    rw [← h1] at h2 h4
    exact ⟨fun y hy => by simp at hy, fun y hy => (spell_mem _ _ h4 y hy).1, by omega, h2, h3, h4⟩
  | cons z L1 ih =>
    intro i h
    obtain ⟨h1, h2, h3, h4⟩ := h
    obtain ⟨a, b, c, d⟩ := ih _ h4
    refine ⟨fun y hy => ?_, b, by omega, d⟩
    rcases List.mem_cons.1 hy with rfl | hy
    · omega
    · exact a y hy

def eqL (L : List Dl) : List Dl := L.filter fun x => x.kind != 0
def inL (L : List Dl) : List Dl := L.filter fun x => x.kind == 0
def posD (ts : List Tk) (x : Dl) : Nat := (tkAt ts (x.i + 1)).pos
def nameD (ts : List Tk) (x : Dl) : ByteArray := (tkAt ts (x.i + 1)).text

/-- the lesser of two. -/
def less : Option Nat → Option Nat → Option Nat
  | none, k => k
  | some a, none => some a
  | some a, some b => some (if b < a then b else a)
def manyR (ts : List Tk) (L : List Dl) : Option Nat := less (((eqL L)[12]?).map (posD ts)) (((inL L)[4]?).map (posD ts))

theorem less_left {a : Nat} {o : Option Nat} (h : ∀ b, o = some b → a < b) : less (some a) o = some a := by
  cases o with
  | none => rfl
  | some b => have := h b rfl; simp only [less]; rw [if_neg (by omega)]
theorem less_right {b : Nat} {o : Option Nat} (h : ∀ a, o = some a → b < a) : less o (some b) = some b := by
  cases o with
  | none => rfl
  | some a => have := h a rfl; simp only [less]; rw [if_pos this]

/-- tokens stand one behind the other. -/
def PosLt (ts : List Tk) : Prop := ∀ i j, i < j → j < ts.length → (tkAt ts i).pos < (tkAt ts j).pos

theorem many_eq {ts : List Tk} (hP : PosLt ts) : ∀ (L : List Dl) (i off a b : Nat), Spell ts L i → a ≤ 4 → b ≤ 12 →
    tooManyF (declsD ts L off a b) = less (((eqL L)[12 - b]?).map (posD ts)) (((inL L)[4 - a]?).map (posD ts)) := by
  intro L
  induction L with
  | nil => intro i off a b _ _ _; simp [declsD, tooManyF, eqL, inL, less]
  | cons x r ih =>
    intro i off a b h ha hb
    obtain ⟨h1, h2, h3, h4⟩ := h
    have hx := Dl.len_pos x
    have hlt : ∀ (l : List Dl) (k : Nat), (∀ y ∈ l, y ∈ r) → ∀ c, (l[k]?).map (posD ts) = some c → posD ts x < c := by
      intro l k hl c hc
      rw [Option.map_eq_some_iff] at hc
      obtain ⟨y, hy, rfl⟩ := hc
      have hm := spell_mem _ _ h4 y (hl y (List.mem_of_getElem? hy))
      have := Dl.len_pos y
      exact hP _ _ (by omega) (by omega)
    by_cases hk : x.kind = 0
    · have e1 : inL (x :: r) = x :: inL r := by simp [inL, hk]
      have e2 : eqL (x :: r) = eqL r := by simp [eqL, hk]
      simp only [declsD, if_pos hk, tooManyF]
      have em : most (dcIn ts x a) = 4 := by simp [most, dcIn]
      rw [em, e1, e2]
      by_cases h4a : 4 ≤ a
      · have : a = 4 := by omega
        subst this
        rw [if_pos (show 4 ≤ (dcIn ts x 4).number from Nat.le_refl _)]
        rw [show 4 - 4 = 0 by omega, List.getElem?_cons_zero, Option.map_some, less_right (hlt (eqL r) (12 - b) (fun y hy => (List.mem_filter.1 hy).1))]
        rfl
      · rw [if_neg (show ¬ 4 ≤ (dcIn ts x a).number from h4a), ih _ off (a + 1) b h4 (by omega) hb, show 4 - a = (4 - (a + 1)) + 1 by omega, List.getElem?_cons_succ]
    · have e1 : inL (x :: r) = inL r := by simp [inL, hk]
      have e2 : eqL (x :: r) = x :: eqL r := by simp [eqL, hk]
      simp only [declsD, if_neg hk, tooManyF]
      have em : most (dcEq ts x b off) = 12 := by simp [most, dcEq, hk]
      rw [em, e1, e2]
      by_cases h12 : 12 ≤ b
      · have : b = 12 := by omega
        subst this
        rw [if_pos (show 12 ≤ (dcEq ts x 12 off).number from Nat.le_refl _)]
        rw [show 12 - 12 = 0 by omega, List.getElem?_cons_zero, Option.map_some, less_left (hlt (inL r) (4 - a) (fun y hy => (List.mem_filter.1 hy).1))]
        rfl
      · rw [if_neg (show ¬ 12 ≤ (dcEq ts x b off).number from h12), ih _ _ a (b + 1) h4 ha (by omega), show 12 - b = (12 - (b + 1)) + 1 by omega, List.getElem?_cons_succ]

/-- names. -/
def hereR (L : List Dl) (k : Nat) : Bool := L.any fun x => x.i + 1 == k
def someR (ts : List Tk) (L : List Dl) (k : Nat) : Bool := L.any fun x => (nameD ts x).data.toList == lAt ts k
def aheadR (ts : List Tk) (L : List Dl) (k : Nat) : Bool := L.any fun x => (nameD ts x).data.toList == lAt ts k && decide (x.i + 1 < k)
def qNm (ts : List Tk) (L : List Dl) (k : Nat) : Bool := (hereR L k && aheadR ts L k) || !someR ts L k
def badNm (ts : List Tk) (L : List Dl) (k : Nat) : Bool := isNm ts k && qNm ts L k
def namesR (ts : List Tk) (L : List Dl) : Option Nat := ((List.range' 0 ts.length).find? (badNm ts L)).map fun k => (tkAt ts k).pos

theorem any_congr_mem {α : Type} {p q : α → Bool} : ∀ {l : List α}, (∀ x ∈ l, p x = q x) → l.any p = l.any q := by
  intro l
  induction l with
  | nil => intro _; rfl
  | cons x l ih =>
    intro h
    rw [List.any_cons, List.any_cons, h x (List.mem_cons_self ..), ih (fun y hy => h y (List.mem_cons_of_mem _ hy))]

theorem badNode_find : ∀ l : List Nd, badNodeF l = ((l.filter fun n => n.kind == 2).find? fun n => decide (n.decl < 0)).map Nd.pos := by
  intro l
  induction l with
  | nil => rfl
  | cons n l ih =>
    unfold badNodeF
    by_cases hk : n.kind = 2
    · rw [List.filter_cons_of_pos (by simp [hk])]
      by_cases hd : n.decl < 0
      · rw [if_pos ⟨hk, hd⟩, List.find?_cons_of_pos (by simpa using hd)]; rfl
      · rw [if_neg (fun h => hd h.2), List.find?_cons_of_neg (by simpa using hd), ih]
    · rw [if_neg (fun h => hk h.1), List.filter_cons_of_neg (by simp [hk]), ih]

theorem findF_neg (l : List Dc) (name : ByteArray) : findF l name < 0 ↔ (l.any fun d => d.name.data.toList == name.data.toList) = false := by
  unfold findF
  split
  · rename_i i h
    rw [List.findIdx?_eq_some_iff_getElem] at h
    obtain ⟨h1, h2, _⟩ := h
    constructor
    · intro h; omega
    · intro h
      rw [List.any_eq_false] at h
      exact absurd h2 (h _ (List.getElem_mem h1))
  · rename_i h
    rw [List.findIdx?_eq_none_iff] at h
    constructor
    · intro _
      rw [List.any_eq_false]
      intro d hd
      have := h d hd
      rw [this]; simp
    · intro _; omega

theorem findF_own (l1 : List Dc) (d : Dc) (l2 : List Dc) : findF (l1 ++ d :: l2) d.name ≠ (l1.length : Int) ↔ (l1.any fun e => e.name.data.toList == d.name.data.toList) = true := by
  constructor
  · intro h
    cases ha : (l1.any fun e => e.name.data.toList == d.name.data.toList) with
    | true => rfl
    | false =>
      exfalso
      apply h
      refine findF_hit _ _ l1.length (by simp) ?_ ?_
      · rw [List.getElem_append_right (Nat.le_refl _)]; simp
      · intro j hj
        rw [List.getElem_append_left hj]
        rw [List.any_eq_false] at ha
        have := ha _ (List.getElem_mem hj)
        simpa using this
  · intro h
    rw [List.any_eq_true] at h
    obtain ⟨e, he, h2⟩ := h
    obtain ⟨j, hj, rfl⟩ := List.getElem_of_mem he
    unfold findF
    split
    · rename_i i hi
      rw [List.findIdx?_eq_some_iff_getElem] at hi
      obtain ⟨g1, g2, g3⟩ := hi
      intro e
      have ei : i = l1.length := by omega
      have := g3 j (by omega)
      rw [List.getElem_append_left hj] at this
      exact this h2
    · omega

theorem declsD_names (ts : List Tk) : ∀ (L : List Dl) (off a b : Nat), (declsD ts L off a b).map Dc.name = L.map (nameD ts) := by
  intro L
  induction L with
  | nil => intro off a b; rfl
  | cons x r ih =>
    intro off a b
    simp only [declsD]
    split
    · rw [List.map_cons, ih]; rfl
    · rw [List.map_cons, ih]; rfl

theorem any_names {l : List Dc} {L : List Dl} {ts : List Tk} (h : l.map Dc.name = L.map (nameD ts)) (w : List UInt8) : (l.any fun d => d.name.data.toList == w) = L.any fun x => (nameD ts x).data.toList == w := by
  have e1 : (l.any fun d => d.name.data.toList == w) = (l.map Dc.name).any fun n => n.data.toList == w := by rw [List.any_map]; rfl
  have e2 : (L.any fun x => (nameD ts x).data.toList == w) = (L.map (nameD ts)).any fun n => n.data.toList == w := by rw [List.any_map]; rfl
  rw [e1, e2, h]

theorem find_one {p : Nat → Bool} (k : Nat) (h : p k = false) : (List.range' k 1).find? p = none := by simp [List.range', h]
theorem badNm_no {ts : List Tk} {L : List Dl} {k : Nat} (h : isNm ts k = false) : badNm ts L k = false := by unfold badNm; rw [h]; rfl

theorem find_part {ts : List Tk} (hF : ∀ i, TkF (tkAt ts i)) (L : List Dl) (t : Ast) (i : Nat) (hs : Sp ts t i) :
    (List.range' i t.len).find? (badNm ts L) = ((nmD ts t i false).map Prod.fst).find? (qNm ts L) := by
  rw [← nm_filter hF t i false hs, List.find?_filter]
  congr 1
  funext a
  unfold badNm
  cases isNm ts a <;> cases qNm ts L a <;> rfl

theorem find_nodes {ts : List Tk} (all : List Dc) (L : List Dl) (hn : all.map Dc.name = L.map (nameD ts)) : ∀ (l : List (Nat × Bool)), (∀ x ∈ l, hereR L x.1 = false) →
    (((l.map (nmNd ts)).map (bindF all)).find? fun n => decide (n.decl < 0)).map Nd.pos = ((l.map Prod.fst).find? (qNm ts L)).map fun k => (tkAt ts k).pos := by
  intro l
  induction l with
  | nil => intro _; rfl
  | cons x l ih =>
    intro h
    have hx := h x (List.mem_cons_self ..)
    have hb : bindF all (nmNd ts x) = { nmNd ts x with decl := findF all (tkAt ts x.1).text } := by
      unfold bindF; rw [if_pos (by rfl)]; rfl
    have hq : qNm ts L x.1 = decide ((bindF all (nmNd ts x)).decl < 0) := by
      rw [hb]
      unfold qNm
      rw [hx, Bool.false_and, Bool.false_or, Bool.eq_iff_iff, decide_eq_true_iff]
      show _ ↔ findF all (tkAt ts x.1).text < 0
      rw [findF_neg, any_names hn]
      unfold someR
      simp [Tk.l]
    simp only [List.map_cons]
    by_cases hd : (bindF all (nmNd ts x)).decl < 0
    · rw [List.find?_cons_of_pos (by simpa using hd), List.find?_cons_of_pos (by rw [hq]; simpa using hd)]
      simp only [Option.map_some]
      rw [hb]; rfl
    · rw [List.find?_cons_of_neg (by simpa using hd), List.find?_cons_of_neg (by rw [hq]; simpa using hd)]
      exact ih (fun y hy => h y (List.mem_cons_of_mem _ hy))

theorem nm_in {ts : List Tk} : ∀ (t : Ast) (i : Nat) (dl : Bool), ∀ x ∈ nmD ts t i dl, i ≤ x.1 ∧ x.1 < i + t.len := by
  intro t
  induction t with
  | leaf =>
    intro i dl x hx
    simp only [nmD] at hx
    split at hx
    · simp at hx; subst hx; simp [Ast.len]
    · simp at hx
  | neg a iha => intro i dl x hx; have := iha _ _ x hx; simp only [Ast.len]; omega
  | ite a b c iha ihb ihc =>
    intro i dl x hx
    simp only [nmD, List.mem_append] at hx
    simp only [Ast.len]
    rcases hx with hx | hx | hx
    · have := iha _ _ x hx; omega
    · have := ihb _ _ x hx; omega
    · have := ihc _ _ x hx; omega
  | dly b ihb => intro i dl x hx; have := ihb _ _ x hx; simp only [Ast.len]; omega
  | bin a b iha ihb =>
    intro i dl x hx
    simp only [nmD, List.mem_append] at hx
    simp only [Ast.len]
    rcases hx with hx | hx
    · have := iha _ _ x hx; omega
    · have := ihb _ _ x hx; omega

theorem bind_filter (all : List Dc) (l : List Nd) : ((l.map (bindF all)).filter fun n => n.kind == 2) = (l.filter fun n => n.kind == 2).map (bindF all) := by
  rw [List.filter_map]
  congr 1
  apply List.filter_congr
  intro n _
  simp [Function.comp, (bindF_keep all n).1]

/-- the nodes of a segment. -/
theorem seg_mid {N1 N2 N3 : List Nd} {a b : Nat} (ha : a = N1.length) (hb : b = N1.length + N2.length) : seg (N1 ++ (N2 ++ N3)) a b = N2 := by
  subst ha; subst hb
  unfold seg
  rw [List.drop_left, Nat.add_sub_cancel_left, List.take_left]

theorem names_eq {ts : List Tk} (hF : ∀ i, TkF (tkAt ts i)) (hE : ∀ i, (tkAt ts i).kind = 0 → ts.length ≤ i + 1) (L : List Dl) (hL : Spell ts L 0) (all : List Dc) (hn : all.map Dc.name = L.map (nameD ts)) :
    ∀ (L2 L1 : List Dl) (i off a b : Nat) (D1 : List Dc) (N1 : List Nd), L = L1 ++ L2 → Spell ts L2 i → i ≤ ts.length → all = D1 ++ declsD ts L2 off a b → D1.length = L1.length → N1.length = off →
      badNameF all (N1 ++ (nodesD ts L2 off).map (bindF all)) L1.length (declsD ts L2 off a b) = ((List.range' i (ts.length - i)).find? (badNm ts L)).map fun k => (tkAt ts k).pos := by
  intro L2
  induction L2 with
  | nil =>
    intro L1 i off a b D1 N1 hsplit hsp hi _ _ _
    simp only [declsD, badNameF]
    obtain ⟨h1, h2⟩ := hsp
    have h3 := hE i h2
    have e : ts.length - i = 1 := by omega
    rw [e, find_one i (badNm_no (by unfold isNm; rw [h2]; rfl))]
    rfl
  | cons x r ih =>
    intro L1 i off a b D1 N1 hsplit hsp hi hall hlen hN1
    have hmid := spell_mid L1 0 (by rw [← hsplit]; exact hL)
    obtain ⟨hb1, hb2, _, hxl, hxo, _⟩ := hmid
    obtain ⟨hxi, hl2, hxo', hsp'⟩ := hsp
    have hlx := Dl.len_pos x
    have hd1 : D1.map Dc.name = L1.map (nameD ts) := by
      rw [hall, hsplit, List.map_append, List.map_append, declsD_names] at hn
      exact (List.append_inj' hn (by simp)).1
    have hown : ∀ d : Dc, d.name = nameD ts x → ∀ rest, all = D1 ++ d :: rest → (findF all d.name ≠ (L1.length : Int) ↔ aheadR ts L (x.i + 1) = true) := by
      intro d hd rest ha
      rw [ha, ← hlen, findF_own, any_names hd1]
      unfold aheadR
      rw [hsplit, List.any_append, hd]
      have e1 : (L1.any fun y => (nameD ts y).data.toList == lAt ts (x.i + 1) && decide (y.i + 1 < x.i + 1)) = L1.any fun y => (nameD ts y).data.toList == (nameD ts x).data.toList := by
        apply any_congr_mem
        intro y hy
        have := hb1 y hy
        have := Dl.len_pos y
        rw [decide_eq_true (by omega), Bool.and_true]; rfl
      have e2 : ((x :: r).any fun y => (nameD ts y).data.toList == lAt ts (x.i + 1) && decide (y.i + 1 < x.i + 1)) = false := by
        rw [List.any_eq_false]
        intro y hy
        have : ¬ y.i + 1 < x.i + 1 := by
          rcases List.mem_cons.1 hy with rfl | hy
          · omega
          · have := hb2 y hy; omega
        simp [this]
      rw [e1, e2, Bool.or_false]
    have hnmx : isNm ts (x.i + 1) = true := by
      unfold isNm
      rcases hxo with ⟨_, _, h, _⟩ | ⟨_, h, _⟩ <;> rw [h] <;> rfl
    have hqx : qNm ts L (x.i + 1) = aheadR ts L (x.i + 1) := by
      have h1 : hereR L (x.i + 1) = true := by
        unfold hereR; rw [List.any_eq_true]; exact ⟨x, by rw [hsplit]; simp, by simp⟩
      have h2 : someR ts L (x.i + 1) = true := by
        unfold someR; rw [List.any_eq_true]; exact ⟨x, by rw [hsplit]; simp, by simp [nameD, Tk.l]⟩
      unfold qNm; rw [h1, h2]; simp
    have hbx : badNm ts L (x.i + 1) = aheadR ts L (x.i + 1) := by unfold badNm; rw [hnmx, hqx]; rfl
    by_cases hk : x.kind = 0
    · have hin : lAt ts x.i = kIn ∧ lAt ts (x.i + 2) = [59] := by
        rcases hxo with ⟨_, h1, _, h2⟩ | ⟨h, _⟩
        · exact ⟨h1, h2⟩
        · omega
      have hlen3 : x.len = 3 := by unfold Dl.len; rw [if_pos hk]
      have er : ts.length - i = 1 + (1 + (1 + (ts.length - (i + x.len)))) := by omega
      simp only [declsD, if_pos hk, nodesD] at hall ⊢
      rw [er, range_split, range_split, range_split, List.find?_append, List.find?_append, List.find?_append, find_one i (badNm_no (kw_nm hF (by rw [← hxi, hin.1]; decide))), find_one (i + 1 + 1) (badNm_no (kw_nm hF (by rw [← hxi]; show kwL.contains (lAt ts (x.i + 2)) = true; rw [hin.2]; decide)))]
      simp only [badNameF, Option.none_or]
      have ho := hown (dcIn ts x a) rfl _ hall
      by_cases hah : aheadR ts L (x.i + 1) = true
      · rw [if_pos (ho.2 hah)]
        have : (List.range' (i + 1) 1).find? (badNm ts L) = some (i + 1) := by simp [List.range', ← hxi, hbx, hah]
        rw [this]; simp [dcIn, hxi]
      · rw [if_neg (fun h => hah (ho.1 h))]
        have : (List.range' (i + 1) 1).find? (badNm ts L) = none := find_one _ (by rw [← hxi, hbx]; simpa using hah)
        rw [this, Option.none_or]
        have hseg : seg (N1 ++ (nodesD ts r off).map (bindF all)) (dcIn ts x a).root (dcIn ts x a).fin = [] := by simp [seg, dcIn]
        rw [hseg]
        simp only [badNodeF]
        have := ih (L1 ++ [x]) (i + x.len) off (a + 1) b (D1 ++ [dcIn ts x a]) N1 (by rw [hsplit]; simp) hsp' (by omega) (by rw [hall]; simp) (by simp [hlen]) hN1
        rw [List.length_append, List.length_singleton] at this
        rw [this, show i + 1 + 1 + 1 = i + x.len by omega]
    · have heq : (lAt ts x.i = kInt ∨ lAt ts x.i = kBool) ∧ lAt ts (x.i + 2) = kAt ∧ (tkAt ts (x.i + 3)).kind = 3 ∧ lAt ts (x.i + 4) = [61] ∧ Sp ts x.t (x.i + 5) ∧ lAt ts (x.i + 5 + x.t.len) = [59] := by
        rcases hxo with ⟨h, _⟩ | ⟨h0, _, h2, h3, h4, h5, h6⟩
        · exact absurd h hk
        · exact ⟨h0.elim (fun h => .inl h.2) (fun h => .inr h.2), h2, h3.1, h4, h5, h6⟩
      obtain ⟨k0, k2, k3, k4, k5, k6⟩ := heq
      have hlen6 : x.len = x.t.len + 6 := by unfold Dl.len; rw [if_neg hk]
      have er : ts.length - i = 1 + (1 + (1 + (1 + (1 + (x.t.len + (1 + (ts.length - (i + x.len)))))))) := by omega
      simp only [declsD, if_neg hk, nodesD] at hall ⊢
      have f0 := find_one i (p := badNm ts L) (badNm_no (kw_nm hF (by rw [← hxi]; rcases k0 with h | h <;> rw [h] <;> decide)))
      have f2 := find_one (i + 1 + 1) (p := badNm ts L) (badNm_no (kw_nm hF (by rw [← hxi]; show kwL.contains (lAt ts (x.i + 2)) = true; rw [k2]; decide)))
      have f3 := find_one (i + 1 + 1 + 1) (p := badNm ts L) (badNm_no (by rw [← hxi]; show isNm ts (x.i + 3) = false; unfold isNm; rw [k3]; rfl))
      have f4 := find_one (i + 1 + 1 + 1 + 1) (p := badNm ts L) (badNm_no (kw_nm hF (by rw [← hxi]; show kwL.contains (lAt ts (x.i + 4)) = true; rw [k4]; decide)))
      have f6 := find_one (i + 1 + 1 + 1 + 1 + 1 + x.t.len) (p := badNm ts L) (badNm_no (kw_nm hF (by rw [← hxi]; show kwL.contains (lAt ts (x.i + 5 + x.t.len)) = true; rw [k6]; decide)))
      have f5 := find_part hF L x.t (i + 1 + 1 + 1 + 1 + 1) (by rw [← hxi]; exact k5)
      rw [er, range_split, range_split, range_split, range_split, range_split, range_split, range_split, List.find?_append, List.find?_append, List.find?_append, List.find?_append, List.find?_append, List.find?_append, List.find?_append, f0, f2, f3, f4, f5, f6]
      simp only [badNameF, Option.none_or]
      have ho := hown (dcEq ts x b off) rfl _ hall
      by_cases hah : aheadR ts L (x.i + 1) = true
      · rw [if_pos (ho.2 hah)]
        have : (List.range' (i + 1) 1).find? (badNm ts L) = some (i + 1) := by simp [List.range', ← hxi, hbx, hah]
        rw [this]; simp [dcEq, hxi]
      · rw [if_neg (fun h => hah (ho.1 h))]
        have : (List.range' (i + 1) 1).find? (badNm ts L) = none := find_one _ (by rw [← hxi, hbx]; simpa using hah)
        rw [this, Option.none_or]
        have hseg : seg (N1 ++ (flat ts x.t (x.i + 5) 0 off ++ nodesD ts r (off + x.t.size)).map (bindF all)) (dcEq ts x b off).root (dcEq ts x b off).fin = (flat ts x.t (x.i + 5) 0 off).map (bindF all) := by
          rw [List.map_append]
          exact seg_mid hN1.symm (by simp [dcEq, flat_len, hN1])
        rw [hseg, badNode_find, bind_filter, flat_names hF _ _ _ _ k5]
        have hhere : ∀ y ∈ nmD ts x.t (x.i + 5) false, hereR L y.1 = false := by
          intro y hy
          have hy2 := nm_in _ _ _ y hy
          unfold hereR
          rw [List.any_eq_false]
          intro z hz
          have : z.i + 1 ≠ y.1 := by
            rw [hsplit] at hz
            rcases List.mem_append.1 hz with hz | hz
            · have := hb1 z hz; have := Dl.len_pos z; omega
            · rcases List.mem_cons.1 hz with rfl | hz
              · omega
              · have := hb2 z hz; omega
          simpa using this
        have hfn := find_nodes all L hn (nmD ts x.t (x.i + 5) false) hhere
        rw [show decide (0 < 0) = false by decide, hfn, show i + 1 + 1 + 1 + 1 + 1 = x.i + 5 by omega]
        cases hff : ((nmD ts x.t (x.i + 5) false).map Prod.fst).find? (qNm ts L) with
        | some k => simp
        | none =>
          simp only [Option.map_none, Option.none_or]
          have := ih (L1 ++ [x]) (i + x.len) (off + x.t.size) a (b + 1) (D1 ++ [dcEq ts x b off]) (N1 ++ (flat ts x.t (x.i + 5) 0 off).map (bindF all)) (by rw [hsplit]; simp) hsp' (by omega) (by rw [hall]; simp) (by simp [hlen]) (by simp [flat_len, hN1])
          rw [List.length_append, List.length_singleton, List.append_assoc, ← List.map_append] at this
          rw [this, show x.i + 5 + x.t.len + 1 = i + x.len by omega]

end Go.Proofs.Ytecegaflhdgfaaa
