import Derived.Test.YtmndgoapkmhglaaDoorM11AstG
/- Plain mathematics: too many declarations, and names: both readers find the same. -/
namespace Go.Proofs.YtmndgoapkmhglaaDoor

theorem spell_mem {ts : List Tk} : ∀ (L : List Dl) (i : Nat), Spell ts L i → ∀ y ∈ L, i ≤ y.i ∧ y.i + y.len < ts.length ∧ DlOk ts y := by
  intro L
  induction L with
  | nil => intro i _ y hy; simp at hy
  | cons x r ih =>
    intro i h y hy
    obtain ⟨h1, h2, h3, h4⟩ := h
    rcases List.mem_cons.1 hy with rfl | hy
    · exact ⟨by omega, by omega, h3⟩
    · have := ih _ h4 y hy; exact ⟨by omega, this.2⟩
theorem Dl.len_pos (x : Dl) : 3 ≤ x.len := by unfold Dl.len; split <;> omega
theorem spell_mid {ts : List Tk} {x : Dl} {L2 : List Dl} : ∀ (L1 : List Dl) (i : Nat), Spell ts (L1 ++ x :: L2) i → (∀ y ∈ L1, y.i + y.len ≤ x.i) ∧ (∀ y ∈ L2, x.i + x.len ≤ y.i) ∧ i ≤ x.i ∧ x.i + x.len < ts.length ∧ DlOk ts x ∧ Spell ts L2 (x.i + x.len) := by
  intro L1
  induction L1 with
  | nil =>
    intro i h
    obtain ⟨h1, h2, h3, h4⟩ := h
    rw [← h1] at h2 h4
    exact ⟨fun y hy => by simp at hy, fun y hy => (spell_mem _ _ h4 y hy).1, by omega, h2, h3, h4⟩
  | cons z L1 ih =>
    intro i h
    obtain ⟨h1, h2, h3, h4⟩ := h
    obtain ⟨a, b, c, d⟩ := ih _ h4
    refine ⟨fun y hy => ?_, b, by omega, d⟩
    rcases List.mem_cons.1 hy with rfl | hy
    · omega
    · exact a y hy

def eqL (L : List Dl) : List Dl := L.filter fun x => x.kind != 0
def inL (L : List Dl) : List Dl := L.filter fun x => x.kind == 0
def posD (ts : List Tk) (x : Dl) : Nat := (tkAt ts (x.i + 1)).pos
def nameD (ts : List Tk) (x : Dl) : ByteArray := (tkAt ts (x.i + 1)).text

/-- the lesser of two. -/
def less : Option Nat → Option Nat → Option Nat
  | none, k => k
  | some a, none => some a
  | some a, some b => some (if b < a then b else a)
def manyR (ts : List Tk) (L : List Dl) : Option Nat := less (((eqL L)[12]?).map (posD ts)) (((inL L)[4]?).map (posD ts))

theorem less_left {a : Nat} {o : Option Nat} (h : ∀ b, o = some b → a < b) : less (some a) o = some a := by
  cases o with
  | none => rfl
  | some b => have := h b rfl; simp only [less]; rw [if_neg (by omega)]
theorem less_right {b : Nat} {o : Option Nat} (h : ∀ a, o = some a → b < a) : less o (some b) = some b := by
  cases o with
  | none => rfl
  | some a => have := h a rfl; simp only [less]; rw [if_pos this]

/-- tokens stand one behind the other. -/
def PosLt (ts : List Tk) : Prop := ∀ i j, i < j → j < ts.length → (tkAt ts i).pos < (tkAt ts j).pos

theorem many_eq {ts : List Tk} (hP : PosLt ts) : ∀ (L : List Dl) (i off a b : Nat), Spell ts L i → a ≤ 4 → b ≤ 12 →
    tooManyF (declsD ts L off a b) = less (((eqL L)[12 - b]?).map (posD ts)) (((inL L)[4 - a]?).map (posD ts)) := by
  intro L
  induction L with
  | nil => intro i off a b _ _ _; simp [declsD, tooManyF, eqL, inL, less]
  | cons x r ih =>
    intro i off a b h ha hb
    obtain ⟨h1, h2, h3, h4⟩ := h
    have hx := Dl.len_pos x
    have hlt : ∀ (l : List Dl) (k : Nat), (∀ y ∈ l, y ∈ r) → ∀ c, (l[k]?).map (posD ts) = some c → posD ts x < c := by
      intro l k hl c hc
      rw [Option.map_eq_some_iff] at hc
      obtain ⟨y, hy, rfl⟩ := hc
      have hm := spell_mem _ _ h4 y (hl y (List.mem_of_getElem? hy))
      have := Dl.len_pos y
      exact hP _ _ (by omega) (by omega)
    by_cases hk : x.kind = 0
    · have e1 : inL (x :: r) = x :: inL r := by simp [inL, hk]
      have e2 : eqL (x :: r) = eqL r := by simp [eqL, hk]
      simp only [declsD, if_pos hk, tooManyF]
      have em : most (dcIn ts x a) = 4 := by simp [most, dcIn]
      rw [em, e1, e2]
      by_cases h4a : 4 ≤ a
      · have : a = 4 := by omega
        subst this
        rw [if_pos (show 4 ≤ (dcIn ts x 4).number from Nat.le_refl _)]
        rw [show 4 - 4 = 0 by omega, List.getElem?_cons_zero, Option.map_some, less_right (hlt (eqL r) (12 - b) (fun y hy => (List.mem_filter.1 hy).1))]
        rfl
      · rw [if_neg (show ¬ 4 ≤ (dcIn ts x a).number from h4a), ih _ off (a + 1) b h4 (by omega) hb, show 4 - a = (4 - (a + 1)) + 1 by omega, List.getElem?_cons_succ]
    · have e1 : inL (x :: r) = inL r := by simp [inL, hk]
      have e2 : eqL (x :: r) = x :: eqL r := by simp [eqL, hk]
      simp only [declsD, if_neg hk, tooManyF]
      have em : most (dcEq ts x b off) = 12 := by simp [most, dcEq, hk]
      rw [em, e1, e2]
      by_cases h12 : 12 ≤ b
      · have : b = 12 := by omega
        subst this
        rw [if_pos (show 12 ≤ (dcEq ts x 12 off).number from Nat.le_refl _)]
        rw [show 12 - 12 = 0 by omega, List.getElem?_cons_zero, Option.map_some, less_left (hlt (inL r) (4 - a) (fun y hy => (List.mem_filter.1 hy).1))]
        rfl
      · rw [if_neg (show ¬ 12 ≤ (dcEq ts x b off).number from h12), ih _ _ a (b + 1) h4 ha (by omega), show 12 - b = (12 - (b + 1)) + 1 by omega, List.getElem?_cons_succ]

/-- names. -/
def hereR (L : List Dl) (k : Nat) : Bool := L.any fun x => x.i + 1 == k
def someR (ts : List Tk) (L : List Dl) (k : Nat) : Bool := L.any fun x => (nameD ts x).data.toList == lAt ts k
def aheadR (ts : List Tk) (L : List Dl) (k : Nat) : Bool := L.any fun x => (nameD ts x).data.toList == lAt ts k && decide (x.i + 1 < k)
def qNm (ts : List Tk) (L : List Dl) (k : Nat) : Bool := (hereR L k && aheadR ts L k) || !someR ts L k
def badNm (ts : List Tk) (L : List Dl) (k : Nat) : Bool := isNm ts k && qNm ts L k
def namesR (ts : List Tk) (L : List Dl) : Option Nat := ((List.range' 0 ts.length).find? (badNm ts L)).map fun k => (tkAt ts k).pos

theorem any_congr_mem {α : Type} {p q : α → Bool} : ∀ {l : List α}, (∀ x ∈ l, p x = q x) → l.any p = l.any q := by
  intro l
  induction l with
  | nil => intro _; rfl
  | cons x l ih =>
    intro h
    rw [List.any_cons, List.any_cons, h x (List.mem_cons_self ..), ih (fun y hy => h y (List.mem_cons_of_mem _ hy))]

theorem badNode_find : ∀ l : List Nd, badNodeF l = ((l.filter fun n => n.kind == 2).find? fun n => decide (n.decl < 0)).map Nd.pos := by
  intro l
  induction l with
  | nil => rfl
  | cons n l ih =>
    unfold badNodeF
    by_cases hk : n.kind = 2
    · rw [List.filter_cons_of_pos (by simp [hk])]
      by_cases hd : n.decl < 0
      · rw [if_pos ⟨hk, hd⟩, List.find?_cons_of_pos (by simpa using hd)]; rfl
      · rw [if_neg (fun h => hd h.2), List.find?_cons_of_neg (by simpa using hd), ih]
    · rw [if_neg (fun h => hk h.1), List.filter_cons_of_neg (by simp [hk]), ih]

theorem findF_neg (l : List Dc) (name : ByteArray) : findF l name < 0 ↔ (l.any fun d => d.name.data.toList == name.data.toList) = false := by
  unfold findF
  split
  · rename_i i h
    rw [List.findIdx?_eq_some_iff_getElem] at h
    obtain ⟨h1, h2, _⟩ := h
    constructor
    · intro h; omega
    · intro h
      rw [List.any_eq_false] at h
      exact absurd h2 (h _ (List.getElem_mem h1))
  · rename_i h
    rw [List.findIdx?_eq_none_iff] at h
    constructor
    · intro _
      rw [List.any_eq_false]
      intro d hd
      have := h d hd
      rw [this]; simp
    · intro _; omega

theorem findF_own (l1 : List Dc) (d : Dc) (l2 : List Dc) : findF (l1 ++ d :: l2) d.name ≠ (l1.length : Int) ↔ (l1.any fun e => e.name.data.toList == d.name.data.toList) = true := by
  constructor
  · intro h
    cases ha : (l1.any fun e => e.name.data.toList == d.name.data.toList) with
    | true => rfl
    | false =>
      exfalso
      apply h
      refine findF_hit _ _ l1.length (by simp) ?_ ?_
      · rw [List.getElem_append_right (Nat.le_refl _)]; simp
      · intro j hj
        rw [List.getElem_append_left hj]
        rw [List.any_eq_false] at ha
        have := ha _ (List.getElem_mem hj)
        simpa using this
  · intro h
    rw [List.any_eq_true] at h
    obtain ⟨e, he, h2⟩ := h
    obtain ⟨j, hj, rfl⟩ := List.getElem_of_mem he
    unfold findF
    split
    · rename_i i hi
      rw [List.findIdx?_eq_some_iff_getElem] at hi
      obtain ⟨g1, g2, g3⟩ := hi
      intro e
      have ei : i = l1.length := by omega
      have := g3 j (by omega)
      rw [List.getElem_append_left hj] at this
      exact this h2
    · omega

theorem declsD_names (ts : List Tk) : ∀ (L : List Dl) (off a b : Nat), (declsD ts L off a b).map Dc.name = L.map (nameD ts) := by
  intro L
  induction L with
  | nil => intro off a b; rfl
  | cons x r ih =>
    intro off a b
    simp only [declsD]
    split
    · rw [List.map_cons, ih]; rfl
    · rw [List.map_cons, ih]; rfl

theorem any_names {l : List Dc} {L : List Dl} {ts : List Tk} (h : l.map Dc.name = L.map (nameD ts)) (w : List UInt8) : (l.any fun d => d.name.data.toList == w) = L.any fun x => (nameD ts x).data.toList == w := by
  have e1 : (l.any fun d => d.name.data.toList == w) = (l.map Dc.name).any fun n => n.data.toList == w := by rw [List.any_map]; rfl
  have e2 : (L.any fun x => (nameD ts x).data.toList == w) = (L.map (nameD ts)).any fun n => n.data.toList == w := by rw [List.any_map]; rfl
  rw [e1, e2, h]

theorem find_one {p : Nat → Bool} (k : Nat) (h : p k = false) : (List.range' k 1).find? p = none := by simp [List.range', h]
theorem badNm_no {ts : List Tk} {L : List Dl} {k : Nat} (h : isNm ts k = false) : badNm ts L k = false := by unfold badNm; rw [h]; rfl

theorem find_part {ts : List Tk} (hF : ∀ i, TkF (tkAt ts i)) (L : List Dl) (t : Ast) (i : Nat) (hs : Sp ts t i) :
    (List.range' i t.len).find? (badNm ts L) = ((nmD ts t i false).map Prod.fst).find? (qNm ts L) := by
  rw [← nm_filter hF t i false hs, List.find?_filter]
  congr 1
  funext a
  unfold badNm
  cases isNm ts a <;> cases qNm ts L a <;> rfl

theorem find_nodes {ts : List Tk} (all : List Dc) (L : List Dl) (hn : all.map Dc.name = L.map (nameD ts)) : ∀ (l : List (Nat × Bool)), (∀ x ∈ l, hereR L x.1 = false) →
    (((l.map (nmNd ts)).map (bindF all)).find? fun n => decide (n.decl < 0)).map Nd.pos = ((l.map Prod.fst).find? (qNm ts L)).map fun k => (tkAt ts k).pos := by
  intro l
  induction l with
  | nil => intro _; rfl
  | cons x l ih =>
    intro h
    have hx := h x (List.mem_cons_self ..)
    have hb : bindF all (nmNd ts x) = { nmNd ts x with decl := findF all (tkAt ts x.1).text } := by
      unfold bindF; rw [if_pos (by rfl)]; rfl
    have hq : qNm ts L x.1 = decide ((bindF all (nmNd ts x)).decl < 0) := by
      rw [hb]
      unfold qNm
      rw [hx, Bool.false_and, Bool.false_or, Bool.eq_iff_iff, decide_eq_true_iff]
      show _ ↔ findF all (tkAt ts x.1).text < 0
      rw [findF_neg, any_names hn]
      unfold someR
      simp [Tk.l]
    simp only [List.map_cons]
    by_cases hd : (bindF all (nmNd ts x)).decl < 0
    · rw [List.find?_cons_of_pos (by simpa using hd), List.find?_cons_of_pos (by rw [hq]; simpa using hd)]
      simp only [Option.map_some]
      rw [hb]; rfl
    · rw [List.find?_cons_of_neg (by simpa using hd), List.find?_cons_of_neg (by rw [hq]; simpa using hd)]
      exact ih (fun y hy => h y (List.mem_cons_of_mem _ hy))

theorem nm_in {ts : List Tk} : ∀ (t : Ast) (i : Nat) (dl : Bool), ∀ x ∈ nmD ts t i dl, i ≤ x.1 ∧ x.1 < i + t.len := by
  intro t
  induction t with
  | leaf =>
    intro i dl x hx
    simp only [nmD] at hx
    split at hx
    · simp at hx; subst hx; simp [Ast.len]
    · simp at hx
  | neg a iha => intro i dl x hx; have := iha _ _ x hx; simp only [Ast.len]; omega
  | ite a b c iha ihb ihc =>
    intro i dl x hx
    simp only [nmD, List.mem_append] at hx
    simp only [Ast.len]
    rcases hx with hx | hx | hx
    · have := iha _ _ x hx; omega
    · have := ihb _ _ x hx; omega
    · have := ihc _ _ x hx; omega
  | dly b ihb => intro i dl x hx; have := ihb _ _ x hx; simp only [Ast.len]; omega
  | bin a b iha ihb =>
    intro i dl x hx
    simp only [nmD, List.mem_append] at hx
    simp only [Ast.len]
    rcases hx with hx | hx
    · have := iha _ _ x hx; omega
    · have := ihb _ _ x hx; omega

theorem bind_filter (all : List Dc) (l : List Nd) : ((l.map (bindF all)).filter fun n => n.kind == 2) = (l.filter fun n => n.kind == 2).map (bindF all) := by
  rw [List.filter_map]
  congr 1
  apply List.filter_congr
  intro n _
  simp [Function.comp, (bindF_keep all n).1]

/-- the nodes of a segment. -/
theorem seg_mid {N1 N2 N3 : List Nd} {a b : Nat} (ha : a = N1.length) (hb : b = N1.length + N2.length) : seg (N1 ++ (N2 ++ N3)) a b = N2 := by
  subst ha; subst hb
  unfold seg
  rw [List.drop_left, Nat.add_sub_cancel_left, List.take_left]

theorem names_eq {ts : List Tk} (hF : ∀ i, TkF (tkAt ts i)) (hE : ∀ i, (tkAt ts i).kind = 0 → ts.length ≤ i + 1) (L : List Dl) (hL : Spell ts L 0) (all : List Dc) (hn : all.map Dc.name = L.map (nameD ts)) :
    ∀ (L2 L1 : List Dl) (i off a b : Nat) (D1 : List Dc) (N1 : List Nd), L = L1 ++ L2 → Spell ts L2 i → i ≤ ts.length → all = D1 ++ declsD ts L2 off a b → D1.length = L1.length → N1.length = off →
      badNameF all (N1 ++ (nodesD ts L2 off).map (bindF all)) L1.length (declsD ts L2 off a b) = ((List.range' i (ts.length - i)).find? (badNm ts L)).map fun k => (tkAt ts k).pos := by
  intro L2
  induction L2 with
  | nil =>
    intro L1 i off a b D1 N1 hsplit hsp hi _ _ _
    simp only [declsD, badNameF]
    obtain ⟨h1, h2⟩ := hsp
    have h3 := hE i h2
    have e : ts.length - i = 1 := by omega
    rw [e, find_one i (badNm_no (by unfold isNm; rw [h2]; rfl))]
    rfl
  | cons x r ih =>
    intro L1 i off a b D1 N1 hsplit hsp hi hall hlen hN1
    have hmid := spell_mid L1 0 (by rw [← hsplit]; exact hL)
    obtain ⟨hb1, hb2, _, hxl, hxo, _⟩ := hmid
    obtain ⟨hxi, hl2, hxo', hsp'⟩ := hsp
    have hlx := Dl.len_pos x
    have hd1 : D1.map Dc.name = L1.map (nameD ts) := by
      rw [hall, hsplit, List.map_append, List.map_append, declsD_names] at hn
      exact (List.append_inj' hn (by simp)).1
    have hown : ∀ d : Dc, d.name = nameD ts x → ∀ rest, all = D1 ++ d :: rest → (findF all d.name ≠ (L1.length : Int) ↔ aheadR ts L (x.i + 1) = true) := by
      intro d hd rest ha
      rw [ha, ← hlen, findF_own, any_names hd1]
      unfold aheadR
      rw [hsplit, List.any_append, hd]
      have e1 : (L1.any fun y => (nameD ts y).data.toList == lAt ts (x.i + 1) && decide (y.i + 1 < x.i + 1)) = L1.any fun y => (nameD ts y).data.toList == (nameD ts x).data.toList := by
        apply any_congr_mem
        intro y hy
        have := hb1 y hy
        have := Dl.len_pos y
        rw [decide_eq_true (by omega), Bool.and_true]; rfl
      have e2 : ((x :: r).any fun y => (nameD ts y).data.toList == lAt ts (x.i + 1) && decide (y.i + 1 < x.i + 1)) = false := by
        rw [List.any_eq_false]
        intro y hy
        have : ¬ y.i + 1 < x.i + 1 := by
          rcases List.mem_cons.1 hy with rfl | hy
          · omega
          · have := hb2 y hy; omega
        simp [this]
      rw [e1, e2, Bool.or_false]
    have hnmx : isNm ts (x.i + 1) = true := by
      unfold isNm
      rcases hxo with ⟨_, _, h, _⟩ | ⟨_, h, _⟩ <;> rw [h] <;> rfl
    have hqx : qNm ts L (x.i + 1) = aheadR ts L (x.i + 1) := by
      have h1 : hereR L (x.i + 1) = true := by
        unfold hereR; rw [List.any_eq_true]; exact ⟨x, by rw [hsplit]; simp, by simp⟩
      have h2 : someR ts L (x.i + 1) = true := by
        unfold someR; rw [List.any_eq_true]; exact ⟨x, by rw [hsplit]; simp, by simp [nameD, Tk.l]⟩
      unfold qNm; rw [h1, h2]; simp
    have hbx : badNm ts L (x.i + 1) = aheadR ts L (x.i + 1) := by unfold badNm; rw [hnmx, hqx]; rfl
    by_cases hk : x.kind = 0
    · have hin : lAt ts x.i = kIn ∧ lAt ts (x.i + 2) = [59] := by
        rcases hxo with ⟨_, h1, _, h2⟩ | ⟨h, _⟩
        · exact ⟨h1, h2⟩
        · omega
      have hlen3 : x.len = 3 := by unfold Dl.len; rw [if_pos hk]
      have er : ts.length - i = 1 + (1 + (1 + (ts.length - (i + x.len)))) := by omega
      simp only [declsD, if_pos hk, nodesD] at hall ⊢
      rw [er, range_split, range_split, range_split, List.find?_append, List.find?_append, List.find?_append, find_one i (badNm_no (kw_nm hF (by rw [← hxi, hin.1]; decide))), find_one (i + 1 + 1) (badNm_no (kw_nm hF (by rw [← hxi]; show kwL.contains (lAt ts (x.i + 2)) = true; rw [hin.2]; decide)))]
      simp only [badNameF, Option.none_or]
      have ho := hown (dcIn ts x a) rfl _ hall
      by_cases hah : aheadR ts L (x.i + 1) = true
      · rw [if_pos (ho.2 hah)]
        have : (List.range' (i + 1) 1).find? (badNm ts L) = some (i + 1) := by simp [List.range', ← hxi, hbx, hah]
        rw [this]; simp [dcIn, hxi]
      · rw [if_neg (fun h => hah (ho.1 h))]
        have : (List.range' (i + 1) 1).find? (badNm ts L) = none := find_one _ (by rw [← hxi, hbx]; simpa using hah)
        rw [this, Option.none_or]
        have hseg : seg (N1 ++ (nodesD ts r off).map (bindF all)) (dcIn ts x a).root (dcIn ts x a).fin = [] := by simp [seg, dcIn]
        rw [hseg]
        simp only [badNodeF]
        have := ih (L1 ++ [x]) (i + x.len) off (a + 1) b (D1 ++ [dcIn ts x a]) N1 (by rw [hsplit]; simp) hsp' (by omega) (by rw [hall]; simp) (by simp [hlen]) hN1
        rw [List.length_append, List.length_singleton] at this
        rw [this, show i + 1 + 1 + 1 = i + x.len by omega]
    · have heq : (lAt ts x.i = kInt ∨ lAt ts x.i = kBool) ∧ lAt ts (x.i + 2) = kAt ∧ (tkAt ts (x.i + 3)).kind = 3 ∧ lAt ts (x.i + 4) = [61] ∧ Sp ts x.t (x.i + 5) ∧ lAt ts (x.i + 5 + x.t.len) = [59] := by
        rcases hxo with ⟨h, _⟩ | ⟨h0, _, h2, h3, h4, h5, h6⟩
        · exact absurd h hk
        · exact ⟨h0.elim (fun h => .inl h.2) (fun h => .inr h.2), h2, h3.1, h4, h5, h6⟩
      obtain ⟨k0, k2, k3, k4, k5, k6⟩ := heq
      have hlen6 : x.len = x.t.len + 6 := by unfold Dl.len; rw [if_neg hk]
      have er : ts.length - i = 1 + (1 + (1 + (1 + (1 + (x.t.len + (1 + (ts.length - (i + x.len)))))))) := by omega
      simp only [declsD, if_neg hk, nodesD] at hall ⊢
      have f0 := find_one i (p := badNm ts L) (badNm_no (kw_nm hF (by rw [← hxi]; rcases k0 with h | h <;> rw [h] <;> decide)))
      have f2 := find_one (i + 1 + 1) (p := badNm ts L) (badNm_no (kw_nm hF (by rw [← hxi]; show kwL.contains (lAt ts (x.i + 2)) = true; rw [k2]; decide)))
      have f3 := find_one (i + 1 + 1 + 1) (p := badNm ts L) (badNm_no (by rw [← hxi]; show isNm ts (x.i + 3) = false; unfold isNm; rw [k3]; rfl))
      have f4 := find_one (i + 1 + 1 + 1 + 1) (p := badNm ts L) (badNm_no (kw_nm hF (by rw [← hxi]; show kwL.contains (lAt ts (x.i + 4)) = true; rw [k4]; decide)))
      have f6 := find_one (i + 1 + 1 + 1 + 1 + 1 + x.t.len) (p := badNm ts L) (badNm_no (kw_nm hF (by rw [← hxi]; show kwL.contains (lAt ts (x.i + 5 + x.t.len)) = true; rw [k6]; decide)))
      have f5 := find_part hF L x.t (i + 1 + 1 + 1 + 1 + 1) (by rw [← hxi]; exact k5)
      rw [er, range_split, range_split, range_split, range_split, range_split, range_split, range_split, List.find?_append, List.find?_append, List.find?_append, List.find?_append, List.find?_append, List.find?_append, List.find?_append, f0, f2, f3, f4, f5, f6]
      simp only [badNameF, Option.none_or]
      have ho := hown (dcEq ts x b off) rfl _ hall
      by_cases hah : aheadR ts L (x.i + 1) = true
      · rw [if_pos (ho.2 hah)]
        have : (List.range' (i + 1) 1).find? (badNm ts L) = some (i + 1) := by simp [List.range', ← hxi, hbx, hah]
        rw [this]; simp [dcEq, hxi]
      · rw [if_neg (fun h => hah (ho.1 h))]
        have : (List.range' (i + 1) 1).find? (badNm ts L) = none := find_one _ (by rw [← hxi, hbx]; simpa using hah)
        rw [this, Option.none_or]
        have hseg : seg (N1 ++ (flat ts x.t (x.i + 5) 0 off ++ nodesD ts r (off + x.t.size)).map (bindF all)) (dcEq ts x b off).root (dcEq ts x b off).fin = (flat ts x.t (x.i + 5) 0 off).map (bindF all) := by
          rw [List.map_append]
          exact seg_mid hN1.symm (by simp [dcEq, flat_len, hN1])
        rw [hseg, badNode_find, bind_filter, flat_names hF _ _ _ _ k5]
        have hhere : ∀ y ∈ nmD ts x.t (x.i + 5) false, hereR L y.1 = false := by
          intro y hy
          have hy2 := nm_in _ _ _ y hy
          unfold hereR
          rw [List.any_eq_false]
          intro z hz
          have : z.i + 1 ≠ y.1 := by
            rw [hsplit] at hz
            rcases List.mem_append.1 hz with hz | hz
            · have := hb1 z hz; have := Dl.len_pos z; omega
            · rcases List.mem_cons.1 hz with rfl | hz
              · omega
              · have := hb2 z hz; omega
          simpa using this
        have hfn := find_nodes all L hn (nmD ts x.t (x.i + 5) false) hhere
        rw [show decide (0 < 0) = false by decide, hfn, show i + 1 + 1 + 1 + 1 + 1 = x.i + 5 by omega]
        cases hff : ((nmD ts x.t (x.i + 5) false).map Prod.fst).find? (qNm ts L) with
        | some k => simp
        | none =>
          simp only [Option.map_none, Option.none_or]
          have := ih (L1 ++ [x]) (i + x.len) (off + x.t.size) a (b + 1) (D1 ++ [dcEq ts x b off]) (N1 ++ (flat ts x.t (x.i + 5) 0 off).map (bindF all)) (by rw [hsplit]; simp) hsp' (by omega) (by rw [hall]; simp) (by simp [hlen]) (by simp [flat_len, hN1])
          rw [List.length_append, List.length_singleton, List.append_assoc, ← List.map_append] at this
          rw [this, show x.i + 5 + x.t.len + 1 = i + x.len by omega]

end Go.Proofs.YtmndgoapkmhglaaDoor

/- Plain mathematics: what is wanted of an expression: both readers find the same. -/
namespace Go.Proofs.YtmndgoapkmhglaaDoor

def nameT (ts : List Tk) (L : List Dl) (k : Nat) : Bool := (eqL L).any fun x => (nameD ts x).data.toList == lAt ts k && x.kind == 2
def opR (l : List UInt8) : Nat := if l = kFby then 63 else if l = [43] ∨ l = [45] ∨ l = [42] ∨ l = [47] then 110 else 116
/-- what the expression at a token is: 110 a number, 116 a truth, 63 whatever is wanted. -/
def isR (ts : List Tk) (L : List Dl) (i : Nat) : Nat :=
  if (tkAt ts i).kind = 1 then (if nameT ts L i then 116 else 110)
  else if (tkAt ts i).kind = 3 then 110
  else if lAt ts i ≠ [40] then 116
  else if lAt ts (i + 1) = kNot then 116 else if lAt ts (i + 1) = kIf then 63
  else opR (lAt ts (behindF ts (i + 1)))
def bothR (l : List UInt8) : Nat := if l = [38] ∨ l = [124] then 116 else 110
def badR (ts : List Tk) (L : List Dl) (i w : Nat) : Bool := isR ts L i != 63 && isR ts L i != w
def wrongR (ts : List Tk) (L : List Dl) : Ast → Nat → Nat → Option Nat
  | .leaf, i, w => if badR ts L i w then some (tkAt ts i).pos else none
  | .neg a, i, w => if badR ts L i w then some (tkAt ts i).pos else wrongR ts L a (i + 2) 116
  | .ite a b c, i, w => if badR ts L i w then some (tkAt ts i).pos else (wrongR ts L a (i + 2) 116).or ((wrongR ts L b (i + 2 + a.len) w).or (wrongR ts L c (i + 2 + a.len + b.len) w))
  | .dly b, i, w => if badR ts L i w then some (tkAt ts i).pos else (if badR ts L (i + 1) w then some (tkAt ts (i + 1)).pos else none).or (wrongR ts L b (i + 3) w)
  | .bin a b, i, w => if badR ts L i w then some (tkAt ts i).pos else (wrongR ts L a (i + 1) (bothR (lAt ts (i + 1 + a.len)))).or (wrongR ts L b (i + 2 + a.len) (bothR (lAt ts (i + 1 + a.len))))
def wB (b : Bool) : Nat := if b then 116 else 110
def typesR (ts : List Tk) (L : List Dl) : Option Nat := (eqL L).findSome? fun x => wrongR ts L x.t (x.i + 5) (wB (x.kind == 2))

theorem findF_name (l : List Dc) {a b : ByteArray} (h : a.data.toList = b.data.toList) : findF l a = findF l b := by unfold findF; rw [h]

/-- the names of a program that are right. -/
structure NamesOk (ts : List Tk) (L : List Dl) (ds : List Dc) : Prop where
  own : ∀ j (hj : j < ds.length), findF ds (ds[j]'hj).name = (j : Int)
  two : ds.map (fun d => (d.name, d.kind)) = L.map fun x => (nameD ts x, x.kind)

theorem any_two {ts : List Tk} {ds : List Dc} {L : List Dl} (h : ds.map (fun d => (d.name, d.kind)) = L.map fun x => (nameD ts x, x.kind)) (p : ByteArray × Nat → Bool) : (ds.any fun d => p (d.name, d.kind)) = L.any fun x => p (nameD ts x, x.kind) := by
  have e1 : (ds.any fun d => p (d.name, d.kind)) = (ds.map (fun d => (d.name, d.kind))).any p := by rw [List.any_map]; rfl
  have e2 : (L.any fun x => p (nameD ts x, x.kind)) = (L.map fun x => (nameD ts x, x.kind)).any p := by rw [List.any_map]; rfl
  rw [e1, e2, h]

theorem NamesOk.truth {ts : List Tk} {L : List Dl} {ds : List Dc} (h : NamesOk ts L ds) (k : Nat) (h0 : 0 ≤ findF ds (tkAt ts k).text) : (kindAt ds (findF ds (tkAt ts k).text) == 2) = nameT ts L k := by
  have e1 : nameT ts L k = ds.any fun d => d.name.data.toList == lAt ts k && d.kind == 2 := by
    have := any_two h.two (fun q => q.1.data.toList == lAt ts k && q.2 == 2)
    rw [this]
    unfold nameT eqL
    rw [List.any_filter]
    apply any_congr_mem
    intro x _
    cases hx : (x.kind == 2) with
    | false => simp
    | true =>
      have : x.kind = 2 := by simpa using hx
      simp [this]
  rw [e1, Bool.eq_iff_iff]
  constructor
  · intro hk
    unfold findF at h0 hk
    split at h0
    · rename_i i hi
      rw [hi] at hk
      rw [List.findIdx?_eq_some_iff_getElem] at hi
      obtain ⟨g1, g2, _⟩ := hi
      rw [List.any_eq_true]
      refine ⟨ds[i]'g1, List.getElem_mem g1, ?_⟩
      have hk' : (ds[i]'g1).kind = 2 := by
        unfold kindAt at hk
        simp only [Int.toNat_natCast] at hk
        rw [List.getD_eq_getElem?_getD, List.getElem?_eq_getElem g1] at hk
        simpa using hk
      rw [hk']
      simpa [Tk.l] using g2
    · omega
  · intro ha
    rw [List.any_eq_true] at ha
    obtain ⟨d, hd, h2⟩ := ha
    obtain ⟨j, hj, rfl⟩ := List.getElem_of_mem hd
    rw [Bool.and_eq_true, beq_iff_eq, beq_iff_eq] at h2
    have := h.own j hj
    rw [findF_name ds (b := (tkAt ts k).text) h2.1] at this
    rw [this]
    unfold kindAt
    rw [Int.toNat_natCast, List.getD_eq_getElem?_getD, List.getElem?_eq_getElem hj]
    simpa using h2.2

theorem nm_true {ts : List Tk} : ∀ (t : Ast) (i : Nat), ∀ x ∈ nmD ts t i true, x.2 = true := by
  intro t
  induction t with
  | leaf =>
    intro i x hx
    simp only [nmD] at hx
    split at hx
    · simp at hx; subst hx; rfl
    · simp at hx
  | neg a iha => intro i x hx; exact iha _ x hx
  | ite a b c iha ihb ihc =>
    intro i x hx
    simp only [nmD, List.mem_append] at hx
    rcases hx with hx | hx | hx
    · exact iha _ x hx
    · exact ihb _ x hx
    · exact ihc _ x hx
  | dly b ihb => intro i x hx; exact ihb _ x hx
  | bin a b iha ihb =>
    intro i x hx
    simp only [nmD, List.mem_append] at hx
    rcases hx with hx | hx
    · exact iha _ x hx
    · exact ihb _ x hx

theorem sp_first {ts : List Tk} (hF : ∀ i, TkF (tkAt ts i)) {t : Ast} {i : Nat} (h : Sp ts t i) : lAt ts i ≠ kNot ∧ lAt ts i ≠ kIf := by
  cases t with
  | leaf => exact ⟨(leaf_ne2 hF h.1).1, (leaf_ne2 hF h.1).2.1⟩
  | neg a => rw [h.1]; decide
  | ite a b c => rw [h.1]; decide
  | dly b => rw [h.1]; decide
  | bin a b => rw [h.1]; decide

section
variable {ts : List Tk} (hF : ∀ i, TkF (tkAt ts i)) {L : List Dl}
include hF

theorem isR_open {i : Nat} (h : lAt ts i = [40]) : isR ts L i = if lAt ts (i + 1) = kNot then 116 else if lAt ts (i + 1) = kIf then 63 else opR (lAt ts (behindF ts (i + 1))) := by
  unfold isR
  have h' : kwL.contains (tkAt ts i).l = true := by show kwL.contains (lAt ts i) = true; rw [h]; decide
  rw [if_neg ((hF i).not1 h'), if_neg ((hF i).not3 h'), if_neg (by simp [h])]

omit hF in
theorem bad_any {i w : Nat} (h : isR ts L i = 63) : badR ts L i w = false := by unfold badR; rw [h]; rfl
omit hF in
theorem bad_truth {i : Nat} {b : Bool} (x : Bool) (h : isR ts L i = wB x) : badR ts L i (wB b) = !(b == x) := by
  unfold badR; rw [h]; cases b <;> cases x <;> rfl

/-- the first node of an expression fits, if it is what is wanted. -/
theorem fits_first {ds : List Dc} (hN : NamesOk ts L ds) {i : Nat} (hlf : leafT (tkAt ts i) = true) (h40 : lAt ts i ≠ [40]) (hdecl : (tkAt ts i).kind = 1 → 0 ≤ findF ds (tkAt ts i).text) (dl : Nat) (b : Bool) :
    fitsF ds (bindF ds (mkN ts i dl (leafN0 (tkAt ts i)))) b = !badR ts L i (wB b) := by
  by_cases h1 : (tkAt ts i).kind = 1
  · have hi : isR ts L i = wB (nameT ts L i) := by unfold isR; rw [if_pos h1]; rfl
    rw [bad_truth _ hi, leafN0_name (hF i) h1, Bool.not_not, ← hN.truth i (hdecl h1)]
    unfold bindF
    rw [if_pos (by rfl)]
    unfold fitsF
    rw [if_neg (by simp [mkN]), if_neg (by simp [mkN]), if_pos (by simp [mkN])]
    rfl
  · have hb : bindF ds (mkN ts i dl (leafN0 (tkAt ts i))) = mkN ts i dl (leafN0 (tkAt ts i)) := by
      unfold bindF; rw [if_neg (show ¬ (mkN ts i dl (leafN0 (tkAt ts i))).kind = 2 from leafN0_no hlf h1)]
    rw [hb]
    by_cases h3 : (tkAt ts i).kind = 3
    · have hi : isR ts L i = wB false := by unfold isR; rw [if_neg h1, if_pos h3]; rfl
      rw [bad_truth _ hi, Bool.not_not]
      have hl : leafN0 (tkAt ts i) = { ndZero with kind := 0, value := valOf (tkAt ts i).l } := by
        have hn : ∀ l, kwL.contains l = true → (tkAt ts i).l ≠ l := fun l hl e => by have := (hF i).k3 h3; rw [e, hl] at this; cases this
        unfold leafN0; rw [if_neg (hn _ (by decide)), if_neg (hn _ (by decide)), if_pos h3]
      rw [hl]; cases b <;> rfl
    · have hi : isR ts L i = wB true := by unfold isR; rw [if_neg h1, if_neg h3, if_pos h40]; rfl
      rw [bad_truth _ hi, Bool.not_not]
      have hl : (mkN ts i dl (leafN0 (tkAt ts i))).kind = 1 := by
        unfold leafT litT at hlf
        simp only [Bool.or_eq_true, beq_iff_eq, h1, h3, or_false, false_or] at hlf
        rw [mkN_kind]
        unfold leafN0
        rcases hlf with h | h
        · rw [if_pos h]
        · by_cases e : (tkAt ts i).l = kTrue
          · rw [if_pos e]
          · rw [if_neg e, if_pos h]
      unfold fitsF
      rw [if_neg (by rw [hl]; decide), if_pos (.inl hl)]; cases b <;> rfl

omit hF in
theorem badType_cons (ds : List Dc) (i : Nat) (n : Nd) (r : List Nd) (tr : List Bool) : badTypeF ds i (n :: r) tr = if fitsF ds n (tr.getD i false) = true then badTypeF ds (i + 1) r (tell n (tr.getD i false) tr) else some n.pos := rfl

omit hF in
theorem getD_set_ne {l : List Bool} {i j : Nat} {v : Bool} (h : i ≠ j) : (l.set i v).getD j false = l.getD j false := by
  rw [List.getD_eq_getElem?_getD, List.getD_eq_getElem?_getD, List.getElem?_set_ne h]
omit hF in
theorem getD_set_eq {l : List Bool} {i : Nat} {v : Bool} (h : i < l.length) : (l.set i v).getD i false = v := by
  rw [List.getD_eq_getElem?_getD, List.getElem?_set_self h]; rfl

/-- what a pass over the nodes of an expression finds. -/
theorem pass_expr {ds : List Dc} (hN : NamesOk ts L ds) : ∀ (t : Ast) (i dl off : Nat) (tr : List Bool) (rest : List Nd), Sp ts t i → i + t.len ≤ ts.length → (∀ x ∈ nmD ts t i false, 0 ≤ findF ds (tkAt ts x.1).text) → off + t.size ≤ tr.length →
    ∃ tr' : List Bool, tr'.length = tr.length ∧ (∀ j, off + t.size ≤ j → tr'.getD j false = tr.getD j false) ∧
      badTypeF ds off ((flat ts t i dl off).map (bindF ds) ++ rest) tr = (wrongR ts L t i (wB (tr.getD off false))).or (badTypeF ds (off + t.size) rest tr') := by
  have other : ∀ (n : Nd) (i dl : Nat), n.kind ≠ 2 → bindF ds (mkN ts i dl n) = mkN ts i dl n := fun n i dl h => by unfold bindF; rw [if_neg (show ¬ (mkN ts i dl n).kind = 2 from h)]
  intro t
  induction t with
  | leaf =>
    intro i dl off tr rest hs hl hd hlen
    refine ⟨tr, rfl, fun _ _ => rfl, ?_⟩
    simp only [flat, List.map_cons, List.map_nil, List.singleton_append]
    rw [badType_cons, fits_first hF hN hs.1 hs.2 (fun hk => hd (i, false) (by simp [nmD, hk])) dl]
    simp only [wrongR, Ast.size]
    have ht : tell (bindF ds (mkN ts i dl (leafN0 (tkAt ts i)))) (tr.getD off false) tr = tr := by
      have hk : (bindF ds (mkN ts i dl (leafN0 (tkAt ts i)))).kind ≤ 2 := by
        rw [(bindF_keep ds _).1, mkN_kind]
        unfold leafN0
        split; · simp
        split; · simp
        split; · simp
        · simp
      unfold tell
      rw [if_neg (by omega), if_neg (by omega), if_neg (by omega), if_neg (by omega)]
    rw [ht]
    have hp : (bindF ds (mkN ts i dl (leafN0 (tkAt ts i)))).pos = (tkAt ts i).pos := by unfold bindF; split <;> rfl
    rw [hp]
    cases badR ts L i (wB (tr.getD off false)) <;> simp
  | neg a iha =>
    intro i dl off tr rest hs hl hd hlen
    obtain ⟨h1, h2, h3, h4⟩ := hs
    have pa := a.size_pos
    simp only [Ast.len, Ast.size] at hl hlen ⊢
    simp only [flat, List.map_cons, List.cons_append]
    rw [other _ _ _ (by simp), badType_cons]
    have hi : isR ts L i = wB true := by rw [isR_open hF h1, if_pos h2]; rfl
    have hf : fitsF ds (mkN ts i dl { ndZero with kind := 3, a := off + 1 }) (tr.getD off false) = !badR ts L i (wB (tr.getD off false)) := by
      rw [bad_truth _ hi]; unfold fitsF; simp [mkN]
    rw [hf]
    simp only [wrongR]
    cases hb : badR ts L i (wB (tr.getD off false)) with
    | true => exact ⟨tr, rfl, fun _ _ => rfl, by simp [mkN]⟩
    | false =>
      have ht : tell (mkN ts i dl { ndZero with kind := 3, a := off + 1 }) (tr.getD off false) tr = tr.set (off + 1) true := by unfold tell; simp [mkN]
      rw [ht]
      obtain ⟨tr', e1, e2, e3⟩ := iha (i + 2) dl (off + 1) (tr.set (off + 1) true) rest h3 (by omega) hd (by simp; omega)
      refine ⟨tr', by rw [e1]; simp, fun j hj => by rw [e2 j (by omega), getD_set_ne (by omega)], ?_⟩
      rw [if_pos (by simp), e3, getD_set_eq (by omega)]
      simp only [Bool.false_eq_true, if_false]
      rw [show off + 1 + a.size = off + (a.size + 1) by omega]
      rfl
  | ite a b c iha ihb ihc =>
    intro i dl off tr rest hs hl hd hlen
    obtain ⟨h1, h2, h3, h4, h5, h6⟩ := hs
    have pa := a.size_pos
    have pb := b.size_pos
    have pc := c.size_pos
    simp only [Ast.len, Ast.size] at hl hlen ⊢
    simp only [flat, List.map_cons, List.cons_append, List.map_append, List.append_assoc]
    rw [other _ _ _ (by simp), badType_cons]
    have hi : isR ts L i = 63 := by rw [isR_open hF h1, if_neg (by rw [h2]; decide), if_pos h2]
    have hf : fitsF ds (mkN ts i dl { ndZero with kind := 4, a := off + 1, b := off + 1 + a.size, c := off + 1 + a.size + b.size }) (tr.getD off false) = true := by
      unfold fitsF; simp [mkN]
    rw [hf, if_pos rfl]
    simp only [wrongR]
    rw [bad_any hi]
    have ht : tell (mkN ts i dl { ndZero with kind := 4, a := off + 1, b := off + 1 + a.size, c := off + 1 + a.size + b.size }) (tr.getD off false) tr = ((tr.set (off + 1) true).set (off + 1 + a.size) (tr.getD off false)).set (off + 1 + a.size + b.size) (tr.getD off false) := by unfold tell; simp [mkN]
    rw [ht]
    generalize hv : tr.getD off false = v
    generalize htr : ((tr.set (off + 1) true).set (off + 1 + a.size) v).set (off + 1 + a.size + b.size) v = tr0
    have l0 : tr0.length = tr.length := by rw [← htr]; simp
    have ga : tr0.getD (off + 1) false = true := by rw [← htr, getD_set_ne (by omega), getD_set_ne (by omega), getD_set_eq (by omega)]
    have gb : tr0.getD (off + 1 + a.size) false = v := by rw [← htr, getD_set_ne (by omega), getD_set_eq (by simp; omega)]
    have gc : tr0.getD (off + 1 + a.size + b.size) false = v := by rw [← htr, getD_set_eq (by simp; omega)]
    have go : ∀ j, off + (a.size + b.size + c.size + 1) ≤ j → tr0.getD j false = tr.getD j false := fun j hj => by rw [← htr, getD_set_ne (by omega), getD_set_ne (by omega), getD_set_ne (by omega)]
    obtain ⟨t1, x1, y1, z1⟩ := iha (i + 2) dl (off + 1) tr0 ((flat ts b (i + 2 + a.len) dl (off + 1 + a.size)).map (bindF ds) ++ ((flat ts c (i + 2 + a.len + b.len) dl (off + 1 + a.size + b.size)).map (bindF ds) ++ rest)) h3 (by omega) (fun x hx => hd x (by simp only [nmD, List.mem_append]; exact .inl hx)) (by omega)
    obtain ⟨t2, x2, y2, z2⟩ := ihb (i + 2 + a.len) dl (off + 1 + a.size) t1 ((flat ts c (i + 2 + a.len + b.len) dl (off + 1 + a.size + b.size)).map (bindF ds) ++ rest) h4 (by omega) (fun x hx => hd x (by simp only [nmD, List.mem_append]; exact .inr (.inl hx))) (by omega)
    obtain ⟨t3, x3, y3, z3⟩ := ihc (i + 2 + a.len + b.len) dl (off + 1 + a.size + b.size) t2 rest h5 (by omega) (fun x hx => hd x (by simp only [nmD, List.mem_append]; exact .inr (.inr hx))) (by omega)
    refine ⟨t3, by omega, fun j hj => by rw [y3 j (by omega), y2 j (by omega), y1 j (by omega), go j hj], ?_⟩
    rw [z1, z2, z3, ga, y1 _ (by omega), gb, y2 _ (by omega), y1 _ (by omega), gc]
    simp only [Bool.false_eq_true, if_false]
    rw [show off + 1 + a.size + b.size + c.size = off + (a.size + b.size + c.size + 1) by omega, Option.or_assoc, Option.or_assoc]
    rfl
  | dly b ihb =>
    intro i dl off tr rest hs hl hd hlen
    obtain ⟨h1, h2, h3, h4, h5⟩ := hs
    have hlf : leafT (tkAt ts (i + 1)) = true := by unfold leafT; rw [h2]; rfl
    obtain ⟨n1, n2, n3, _⟩ := leaf_ne2 hF hlf
    have pb := b.size_pos
    simp only [Ast.len, Ast.size] at hl hlen ⊢
    simp only [flat, List.map_cons, List.cons_append]
    rw [other _ _ _ (by simp), badType_cons]
    have hbh : behindF ts (i + 1) = i + 2 := behind_sp hF .leaf (i + 1) ⟨hlf, n3⟩ (by simp only [Ast.len]; omega)
    have hi : isR ts L i = 63 := by rw [isR_open hF h1, if_neg n1, if_neg n2, hbh]; unfold opR; rw [if_pos h3]
    have hf : fitsF ds (mkN ts i dl { ndZero with kind := 5, a := off + 1, b := off + 2 }) (tr.getD off false) = true := by
      unfold fitsF; simp [mkN]
    rw [hf, if_pos rfl]
    simp only [wrongR]
    rw [bad_any hi]
    have ht : tell (mkN ts i dl { ndZero with kind := 5, a := off + 1, b := off + 2 }) (tr.getD off false) tr = (tr.set (off + 1) (tr.getD off false)).set (off + 2) (tr.getD off false) := by unfold tell; simp [mkN]
    rw [ht]
    generalize hv : tr.getD off false = v
    generalize htr : (tr.set (off + 1) v).set (off + 2) v = tr0
    have l0 : tr0.length = tr.length := by rw [← htr]; simp
    have ga : tr0.getD (off + 1) false = v := by rw [← htr, getD_set_ne (by omega), getD_set_eq (by omega)]
    have gb : tr0.getD (off + 2) false = v := by rw [← htr, getD_set_eq (by simp; omega)]
    have go : ∀ j, off + (b.size + 2) ≤ j → tr0.getD j false = tr.getD j false := fun j hj => by rw [← htr, getD_set_ne (by omega), getD_set_ne (by omega)]
    have hk1 : (tkAt ts (i + 1)).kind ≠ 1 := by have := lit_nm hF h2; unfold isNm at this; simpa using this
    rw [badType_cons, ga, fits_first hF hN hlf n3 (fun hk => absurd hk hk1) dl]
    have ht2 : tell (bindF ds (mkN ts (i + 1) dl (leafN0 (tkAt ts (i + 1))))) v tr0 = tr0 := by
      have hk : (bindF ds (mkN ts (i + 1) dl (leafN0 (tkAt ts (i + 1))))).kind ≤ 2 := by
        rw [(bindF_keep ds _).1, mkN_kind]
        unfold leafN0
        split; · simp
        split; · simp
        split; · simp
        · simp
      unfold tell
      rw [if_neg (by omega), if_neg (by omega), if_neg (by omega), if_neg (by omega)]
    have hp : (bindF ds (mkN ts (i + 1) dl (leafN0 (tkAt ts (i + 1))))).pos = (tkAt ts (i + 1)).pos := by unfold bindF; split <;> rfl
    rw [ht2, hp]
    cases hb : badR ts L (i + 1) (wB v) with
    | true => exact ⟨tr, rfl, fun _ _ => rfl, by simp⟩
    | false =>
      obtain ⟨t1, x1, y1, z1⟩ := ihb (i + 3) (dl + 1) (off + 2) tr0 rest h4 (by omega) (fun x hx => by
        have := hd
        simp only [nmD] at this
        have hmem : (x.1, true) ∈ nmD ts b (i + 3) true := by
          have hx1 : x.1 ∈ (nmD ts b (i + 3) false).map Prod.fst := List.mem_map.2 ⟨x, hx, rfl⟩
          rw [← nm_filter hF b (i + 3) false h4, nm_filter hF b (i + 3) true h4] at hx1
          obtain ⟨y, hy, he⟩ := List.mem_map.1 hx1
          have hyt : y.2 = true := nm_true b (i + 3) y hy
          have e : y = (x.1, true) := Prod.ext he hyt
          rw [← e]; exact hy
        exact this (x.1, true) hmem) (by omega)
      refine ⟨t1, by omega, fun j hj => by rw [y1 j (by omega), go j (by omega)], ?_⟩
      rw [if_pos (by simp), z1, gb]
      simp only [Bool.false_eq_true, if_false, Option.none_or]
      rw [show off + 2 + b.size = off + (b.size + 2) by omega]
  | bin a b iha ihb =>
    intro i dl off tr rest hs hl hd hlen
    obtain ⟨h1, h2, h3, h4, h5⟩ := hs
    obtain ⟨n1, n2⟩ := sp_first hF h2
    have pa := a.size_pos
    have pb := b.size_pos
    simp only [Ast.len, Ast.size] at hl hlen ⊢
    simp only [flat, List.map_cons, List.cons_append, List.map_append, List.append_assoc]
    rw [other _ _ _ (by simp), badType_cons]
    have hbh : behindF ts (i + 1) = i + 1 + a.len := behind_sp hF a (i + 1) h2 (by omega)
    generalize ho : lAt ts (i + 1 + a.len) = o at h3 ⊢
    have hcs : (opR o = wB (makesT ((opOf o).getD 0))) ∧ bothR o = wB (takesT ((opOf o).getD 0)) := by
      revert h3
      unfold opOf
      split; · rename_i e; subst e; intro _; decide
      split; · rename_i e; subst e; intro _; decide
      split; · rename_i e; subst e; intro _; decide
      split; · rename_i e; subst e; intro _; decide
      split; · rename_i e; subst e; intro _; decide
      split; · rename_i e; subst e; intro _; decide
      split; · rename_i e; subst e; intro _; decide
      split; · rename_i e; subst e; intro _; decide
      · intro h; cases h
    have hi : isR ts L i = wB (makesT ((opOf o).getD 0)) := by rw [isR_open hF h1, if_neg n1, if_neg n2, hbh, ho]; exact hcs.1
    have hf : fitsF ds (mkN ts i dl { ndZero with kind := 6, op := (opOf o).getD 0, a := off + 1, b := off + 1 + a.size }) (tr.getD off false) = !badR ts L i (wB (tr.getD off false)) := by
      rw [bad_truth _ hi]; unfold fitsF; simp [mkN]
    rw [hf]
    simp only [wrongR]
    rw [ho]
    cases hb : badR ts L i (wB (tr.getD off false)) with
    | true => exact ⟨tr, rfl, fun _ _ => rfl, by simp [mkN]⟩
    | false =>
      have ht : tell (mkN ts i dl { ndZero with kind := 6, op := (opOf o).getD 0, a := off + 1, b := off + 1 + a.size }) (tr.getD off false) tr = (tr.set (off + 1) (takesT ((opOf o).getD 0))).set (off + 1 + a.size) (takesT ((opOf o).getD 0)) := by unfold tell; simp [mkN]
      rw [ht, hcs.2]
      generalize hv : takesT ((opOf o).getD 0) = v
      generalize htr : (tr.set (off + 1) v).set (off + 1 + a.size) v = tr0
      have l0 : tr0.length = tr.length := by rw [← htr]; simp
      have ga : tr0.getD (off + 1) false = v := by rw [← htr, getD_set_ne (by omega), getD_set_eq (by omega)]
      have gb : tr0.getD (off + 1 + a.size) false = v := by rw [← htr, getD_set_eq (by simp; omega)]
      have go : ∀ j, off + (a.size + b.size + 1) ≤ j → tr0.getD j false = tr.getD j false := fun j hj => by rw [← htr, getD_set_ne (by omega), getD_set_ne (by omega)]
      obtain ⟨t1, x1, y1, z1⟩ := iha (i + 1) dl (off + 1) tr0 ((flat ts b (i + 2 + a.len) dl (off + 1 + a.size)).map (bindF ds) ++ rest) h2 (by omega) (fun x hx => hd x (by simp only [nmD, List.mem_append]; exact .inl hx)) (by omega)
      obtain ⟨t2, x2, y2, z2⟩ := ihb (i + 2 + a.len) dl (off + 1 + a.size) t1 rest h4 (by omega) (fun x hx => hd x (by simp only [nmD, List.mem_append]; exact .inr hx)) (by omega)
      refine ⟨t2, by omega, fun j hj => by rw [y2 j (by omega), y1 j (by omega), go j (by omega)], ?_⟩
      rw [if_pos (by simp), z1, z2, ga, y1 _ (by omega), gb]
      simp only [Bool.false_eq_true, if_false]
      rw [show off + 1 + a.size + b.size = off + (a.size + b.size + 1) by omega, Option.or_assoc]

end

end Go.Proofs.YtmndgoapkmhglaaDoor
