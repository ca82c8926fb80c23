import Derived.Test.YtmndgoapkmhglaaM17AstO
import Derived.Test.YtmndgoapkmhglaaM21StrE
import Derived.Test.YtmndgoapkmhglaaM31GoodT
/- Plain mathematics: tokens that differ in the places alone. -/
namespace Go.Proofs.Ytmndgoapkmhglaa

/-- the tokens differ in the places of equations alone. -/
structure MovT (ts ts' : List Tk) (L : List Dl) (g : Nat → Nat) : Prop where
  F : ∀ i, TkF (tkAt ts i)
  F' : ∀ i, TkF (tkAt ts' i)
  len : ts'.length = ts.length
  oth : ∀ j, (∀ x ∈ eqL L, j ≠ x.i + 3) → tkAt ts' j = tkAt ts j
  pl : ∀ x ∈ eqL L, (tkAt ts (x.i + 3)).kind = 3 ∧ (tkAt ts' (x.i + 3)).kind = 3 ∧ (tkAt ts' (x.i + 3)).pos = (tkAt ts (x.i + 3)).pos ∧ placeD ts' x = g (placeD ts x)
  lt : ∀ x ∈ eqL L, placeD ts x < 4 ∧ g (placeD ts x) < 4
  sp : Spell ts L 0

theorem any_same {α : Type} {p q : α → Bool} : ∀ (l : List α), (∀ x ∈ l, p x = q x) → l.any p = l.any q := by
  intro l
  induction l with
  | nil => intro _; rfl
  | cons a r ih => intro h; rw [List.any_cons, List.any_cons, h a (by simp), ih (fun x hx => h x (List.mem_cons_of_mem _ hx))]

theorem eq_mem {L : List Dl} {x : Dl} (h : x ∈ eqL L) : x ∈ L := (List.mem_filter.1 h).1

section
variable {ts ts' : List Tk} {L : List Dl} {g : Nat → Nat} (H : MovT ts ts' L g)
include H

theorem MovT.cs (j : Nat) : tkAt ts' j = tkAt ts j ∨ ((tkAt ts j).kind = 3 ∧ (tkAt ts' j).kind = 3 ∧ (tkAt ts' j).pos = (tkAt ts j).pos) := by
  by_cases h : ∃ x ∈ eqL L, j = x.i + 3
  · obtain ⟨x, hx, rfl⟩ := h
    obtain ⟨h1, h2, h3, _⟩ := H.pl x hx
    exact .inr ⟨h1, h2, h3⟩
  · exact .inl (H.oth j (fun x hx e => h ⟨x, hx, e⟩))
theorem MovT.kind (j : Nat) : (tkAt ts' j).kind = (tkAt ts j).kind := by
  rcases H.cs j with h | ⟨h1, h2, _⟩
  · rw [h]
  · rw [h1, h2]
theorem MovT.pos (j : Nat) : (tkAt ts' j).pos = (tkAt ts j).pos := by
  rcases H.cs j with h | ⟨_, _, h⟩
  · rw [h]
  · exact h
theorem MovT.nm (j : Nat) : isNm ts' j = isNm ts j := by unfold isNm; rw [H.kind j]
theorem MovT.same {j : Nat} (h : (tkAt ts j).kind ≠ 3) : tkAt ts' j = tkAt ts j := by
  rcases H.cs j with e | ⟨e, _⟩
  · exact e
  · exact absurd e h
theorem MovT.lnm {j : Nat} (h : isNm ts j = true) : lAt ts' j = lAt ts j := by
  have hk : (tkAt ts j).kind = 1 := by simpa [isNm] using h
  unfold lAt; rw [H.same (by omega)]
theorem MovT.kw (j : Nat) (w : List UInt8) (hw : kwL.contains w = true) : lAt ts' j = w ↔ lAt ts j = w := by
  rcases H.cs j with h | ⟨h1, h2, _⟩
  · unfold lAt; rw [h]
  · have a := (H.F j).k3 h1
    have b := (H.F' j).k3 h2
    constructor
    · intro e; rw [show (tkAt ts' j).l = w from e, hw] at b; cases b
    · intro e; rw [show (tkAt ts j).l = w from e, hw] at a; cases a
theorem MovT.kwb (j : Nat) (w : List UInt8) (hw : kwL.contains w = true) : (lAt ts' j == w) = (lAt ts j == w) := by
  rw [Bool.eq_iff_iff, beq_iff_eq, beq_iff_eq]; exact H.kw j w hw

/-- a declaration's tokens but its place stand apart from all places. -/
theorem MovT.far {x : Dl} (hx : x ∈ L) {j : Nat} (h1 : x.i ≤ j) (h2 : j < x.i + x.len) (h3 : x.kind = 0 ∨ j ≠ x.i + 3) : tkAt ts' j = tkAt ts j := by
  refine H.oth j (fun y hy e => ?_)
  have hy' := (List.mem_filter.1 hy)
  have hyk : y.kind ≠ 0 := by simpa using hy'.2
  have hyl : y.len = y.t.len + 6 := by unfold Dl.len; rw [if_neg hyk]
  by_cases hxy : x.i = y.i
  · rcases h3 with h3 | h3
    · have hpw := spell_lt L 0 H.sp
      have e2 : nrm x = nrm y := dl_uniq H.F hxy (spell_mem L 0 H.sp x hx).2.2 (spell_mem L 0 H.sp y hy'.1).2.2
      unfold nrm at e2
      rw [if_pos h3, if_neg hyk] at e2
      rw [← e2] at hyk
      exact hyk rfl
    · exact h3 (by omega)
  · have hpw := spell_lt L 0 H.sp
    obtain ⟨a, ha, rfl⟩ := List.getElem_of_mem hx
    obtain ⟨b, hb, hbe⟩ := List.getElem_of_mem hy'.1
    rw [List.pairwise_iff_getElem] at hpw
    rcases Nat.lt_trichotomy a b with h | h | h
    · have := hpw a b ha hb h; rw [hbe] at this; omega
    · subst h; rw [hbe] at hxy; exact hxy rfl
    · have := hpw b a hb ha h; rw [hbe] at this; omega

theorem MovT.nameD {x : Dl} (hx : x ∈ L) : nameD ts' x = nameD ts x := by
  unfold Go.Proofs.Ytmndgoapkmhglaa.nameD
  have := x.len_pos
  have hl : 1 < x.len := by unfold Dl.len; split <;> omega
  rw [H.far hx (j := x.i + 1) (by omega) (by omega) (.inr (by omega))]
theorem MovT.posD (x : Dl) : posD ts' x = posD ts x := by unfold Go.Proofs.Ytmndgoapkmhglaa.posD; rw [H.pos]

theorem MovT.dstep (k : Nat) (d : Int) : dstep ts' k d = dstep ts k d := by
  unfold Go.Proofs.Ytmndgoapkmhglaa.dstep
  have h1 := H.kw k [40] (by decide)
  have h2 := H.kw k [41] (by decide)
  by_cases a : lAt ts k = [40]
  · rw [if_pos (h1.2 a), if_pos a]
  · rw [if_neg (fun h => a (h1.1 h)), if_neg a]
    by_cases b : lAt ts k = [41]
    · rw [if_pos (h2.2 b), if_pos b]
    · rw [if_neg (fun h => b (h2.1 h)), if_neg b]
theorem MovT.bhF : ∀ f k d, bhF ts' f k d = bhF ts f k d := by
  intro f
  induction f with
  | zero => intro k d; exact H.len
  | succ f ih => intro k d; simp only [Go.Proofs.Ytmndgoapkmhglaa.bhF]; rw [H.dstep, ih]
theorem MovT.behindF (i : Nat) : behindF ts' i = behindF ts i := by unfold Go.Proofs.Ytmndgoapkmhglaa.behindF; rw [H.len, H.bhF]

theorem MovT.many : manyR ts' L = manyR ts L := by
  unfold manyR
  have e : Go.Proofs.Ytmndgoapkmhglaa.posD ts' = Go.Proofs.Ytmndgoapkmhglaa.posD ts := by funext x; exact H.posD x
  rw [e]
theorem MovT.names : namesR ts' L = namesR ts L := by
  unfold namesR
  have e : badNm ts' L = badNm ts L := by
    funext k
    unfold badNm
    rw [H.nm k]
    cases hk : isNm ts k with
    | false => rfl
    | true =>
      unfold qNm someR aheadR
      rw [H.lnm hk]
      congr 2
      · congr 1
        exact any_same L (fun x hx => by rw [H.nameD hx])
      · congr 1
        exact any_same L (fun x hx => by rw [H.nameD hx])
  rw [e, H.len]
  congr 1
  funext k
  exact H.pos k
theorem MovT.opR (j : Nat) : opR (lAt ts' j) = opR (lAt ts j) := by
  unfold Go.Proofs.Ytmndgoapkmhglaa.opR
  simp only [H.kw j kFby (by decide), H.kw j [43] (by decide), H.kw j [45] (by decide), H.kw j [42] (by decide), H.kw j [47] (by decide)]
theorem MovT.bothR (j : Nat) : bothR (lAt ts' j) = bothR (lAt ts j) := by
  unfold Go.Proofs.Ytmndgoapkmhglaa.bothR
  simp only [H.kw j [38] (by decide), H.kw j [124] (by decide)]
theorem MovT.isR (i : Nat) : isR ts' L i = isR ts L i := by
  unfold Go.Proofs.Ytmndgoapkmhglaa.isR
  rw [H.kind i]
  by_cases h1 : (tkAt ts i).kind = 1
  · rw [if_pos h1, if_pos h1]
    have : nameT ts' L i = nameT ts L i := by
      unfold nameT
      rw [H.lnm (show isNm ts i = true by unfold isNm; rw [h1]; rfl)]
      exact any_same _ (fun x hx => by rw [H.nameD (eq_mem hx)])
    rw [this]
  · rw [if_neg h1, if_neg h1]
    by_cases h3 : (tkAt ts i).kind = 3
    · rw [if_pos h3, if_pos h3]
    · rw [if_neg h3, if_neg h3, H.behindF, H.opR]
      simp only [ne_eq, H.kw i [40] (by decide), H.kw (i + 1) kNot (by decide), H.kw (i + 1) kIf (by decide)]
theorem MovT.badR (i w : Nat) : badR ts' L i w = badR ts L i w := by unfold Go.Proofs.Ytmndgoapkmhglaa.badR; rw [H.isR]
theorem MovT.wrongR : ∀ (t : Ast) (i w : Nat), wrongR ts' L t i w = wrongR ts L t i w := by
  intro t
  induction t with
  | leaf => intro i w; simp only [Go.Proofs.Ytmndgoapkmhglaa.wrongR]; rw [H.badR, H.pos]
  | neg a iha => intro i w; simp only [Go.Proofs.Ytmndgoapkmhglaa.wrongR]; rw [H.badR, H.pos, iha]
  | ite a b c iha ihb ihc => intro i w; simp only [Go.Proofs.Ytmndgoapkmhglaa.wrongR]; rw [H.badR, H.pos, iha, ihb, ihc]
  | dly b ihb => intro i w; simp only [Go.Proofs.Ytmndgoapkmhglaa.wrongR]; rw [H.badR, H.badR, H.pos, H.pos, ihb]
  | bin a b iha ihb => intro i w; simp only [Go.Proofs.Ytmndgoapkmhglaa.wrongR]; rw [H.badR, H.pos, H.bothR, iha, ihb]
theorem MovT.types : typesR ts' L = typesR ts L := by
  unfold typesR
  congr 1
  funext x
  rw [H.wrongR]
theorem MovT.delayedR (a j : Nat) : delayedR ts' a j = delayedR ts a j := by
  unfold Go.Proofs.Ytmndgoapkmhglaa.delayedR
  congr 1
  funext f
  rw [H.kwb f kFby (by decide), H.behindF]
theorem MovT.hangsR (x : Dl) (nm : List UInt8) : hangsR ts' x nm = hangsR ts x nm := by
  unfold Go.Proofs.Ytmndgoapkmhglaa.hangsR
  congr 1
  funext j
  rw [H.nm j]
  cases hj : isNm ts j with
  | false => rfl
  | true => rw [H.lnm hj, H.delayedR]
theorem MovT.relR : relR ts' L = relR ts L := by
  funext i j
  unfold Go.Proofs.Ytmndgoapkmhglaa.relR
  cases hi : (eqL L)[i]? with
  | none => rfl
  | some x =>
    cases hj : (eqL L)[j]? with
    | none => rfl
    | some z =>
      show Go.Proofs.Ytmndgoapkmhglaa.hangsR ts' x (Go.Proofs.Ytmndgoapkmhglaa.nameD ts' z).data.toList = Go.Proofs.Ytmndgoapkmhglaa.hangsR ts x (Go.Proofs.Ytmndgoapkmhglaa.nameD ts z).data.toList
      rw [H.hangsR, H.nameD (eq_mem (List.mem_of_getElem? hj))]
theorem MovT.firstC (W : Mx) : ∀ (l : List Dl) (i : Nat), firstC ts' W i l = firstC ts W i l := by
  intro l
  induction l with
  | nil => intro i; rfl
  | cons x r ih => intro i; simp only [Go.Proofs.Ytmndgoapkmhglaa.firstC]; rw [H.posD, ih]
theorem MovT.cyc : cycR ts' L = cycR ts L := by unfold cycR; rw [H.relR, H.firstC]

omit H in
/-- the parts stand there too. -/
theorem MovT.sp' : ∀ (t : Ast) (i : Nat), (∀ j, i ≤ j → j < i + t.len → tkAt ts' j = tkAt ts j) → Sp ts t i → Sp ts' t i := by
  intro t
  have eL : ∀ j, tkAt ts' j = tkAt ts j → lAt ts' j = lAt ts j := fun j h => by unfold lAt; rw [h]
  induction t with
  | leaf => intro i h hs; unfold Sp at *; rw [eL i (h i (by omega) (by simp only [Ast.len]; omega)), h i (by omega) (by simp only [Ast.len]; omega)]; exact hs
  | neg a iha =>
    intro i h hs
    simp only [Ast.len] at h
    obtain ⟨h1, h2, h3, h4⟩ := hs
    exact ⟨by rw [eL _ (h i (by omega) (by omega))]; exact h1, by rw [eL _ (h _ (by omega) (by omega))]; exact h2, iha _ (fun j a b => h j (by omega) (by omega)) h3, by rw [eL _ (h _ (by omega) (by omega))]; exact h4⟩
  | ite a b c iha ihb ihc =>
    intro i h hs
    simp only [Ast.len] at h
    obtain ⟨h1, h2, h3, h4, h5, h6⟩ := hs
    exact ⟨by rw [eL _ (h i (by omega) (by omega))]; exact h1, by rw [eL _ (h _ (by omega) (by omega))]; exact h2, iha _ (fun j a b => h j (by omega) (by omega)) h3, ihb _ (fun j a b => h j (by omega) (by omega)) h4, ihc _ (fun j a b => h j (by omega) (by omega)) h5, by rw [eL _ (h _ (by omega) (by omega))]; exact h6⟩
  | dly b ihb =>
    intro i h hs
    simp only [Ast.len] at h
    obtain ⟨h1, h2, h3, h4, h5⟩ := hs
    exact ⟨by rw [eL _ (h i (by omega) (by omega))]; exact h1, by rw [h _ (by omega) (by omega)]; exact h2, by rw [eL _ (h _ (by omega) (by omega))]; exact h3, ihb _ (fun j a b => h j (by omega) (by omega)) h4, by rw [eL _ (h _ (by omega) (by omega))]; exact h5⟩
  | bin a b iha ihb =>
    intro i h hs
    simp only [Ast.len] at h
    obtain ⟨h1, h2, h3, h4, h5⟩ := hs
    exact ⟨by rw [eL _ (h i (by omega) (by omega))]; exact h1, iha _ (fun j a b => h j (by omega) (by omega)) h2, by rw [eL _ (h _ (by omega) (by omega))]; exact h3, ihb _ (fun j a b => h j (by omega) (by omega)) h4, by rw [eL _ (h _ (by omega) (by omega))]; exact h5⟩

theorem MovT.dl {x : Dl} (hx : x ∈ L) (h : DlOk ts x) : DlOk ts' x := by
  have eL : ∀ j, tkAt ts' j = tkAt ts j → lAt ts' j = lAt ts j := fun j h => by unfold lAt; rw [h]
  rcases h with ⟨h0, h1, h2, h3⟩ | ⟨h1, h2, h3, h4, h5, h6, h7⟩
  · have hl : x.len = 3 := by unfold Dl.len; rw [if_pos h0]
    refine .inl ⟨h0, ?_, ?_, ?_⟩
    · rw [eL _ (H.far hx (by omega) (by omega) (.inl h0))]; exact h1
    · rw [H.far hx (by omega) (by omega) (.inl h0)]; exact h2
    · rw [eL _ (H.far hx (by omega) (by omega) (.inl h0))]; exact h3
  · have hk : x.kind ≠ 0 := by rcases h1 with ⟨h, _⟩ | ⟨h, _⟩ <;> omega
    have hl : x.len = x.t.len + 6 := by unfold Dl.len; rw [if_neg hk]
    have hxe : x ∈ eqL L := List.mem_filter.2 ⟨hx, by simpa using hk⟩
    obtain ⟨p1, p2, p3, p4⟩ := H.pl x hxe
    refine .inr ⟨?_, ?_, ?_, ⟨p2, ?_⟩, ?_, ?_, ?_⟩
    · rw [eL _ (H.far hx (j := x.i) (by omega) (by omega) (.inr (by omega)))]; exact h1
    · rw [H.far hx (j := x.i + 1) (by omega) (by omega) (.inr (by omega))]; exact h2
    · rw [eL _ (H.far hx (j := x.i + 2) (by omega) (by omega) (.inr (by omega)))]; exact h3
    · have := (H.lt x hxe).2; rw [← p4] at this; exact this
    · rw [eL _ (H.far hx (j := x.i + 4) (by omega) (by omega) (.inr (by omega)))]; exact h5
    · exact MovT.sp' _ _ (fun j a b => H.far hx (by omega) (by omega) (.inr (by omega))) h6
    · rw [eL _ (H.far hx (j := x.i + 5 + x.t.len) (by omega) (by omega) (.inr (by omega)))]; exact h7
theorem MovT.spell' : ∀ (l : List Dl) (i : Nat), (∀ x ∈ l, x ∈ L) → Spell ts l i → Spell ts' l i := by
  intro l
  induction l with
  | nil => intro i _ h; exact ⟨by rw [H.len]; exact h.1, by rw [H.kind]; exact h.2⟩
  | cons x r ih =>
    intro i hm h
    exact ⟨h.1, by rw [H.len]; exact h.2.1, H.dl (hm x (by simp)) h.2.2.1, ih _ (fun y hy => hm y (List.mem_cons_of_mem _ hy)) h.2.2.2⟩
theorem MovT.spell : Spell ts' L 0 := H.spell' L 0 (fun _ h => h) H.sp

end

end Go.Proofs.Ytmndgoapkmhglaa

/- Plain mathematics: links and loops, with the places further on, and all at one. -/
namespace Go.Proofs.Ytmndgoapkmhglaa

theorem warsh_min {M : Mx} {T : Nat → Nat → Prop} (hT : ∀ i k j, T i k → T k j → T i j) (h : ∀ i j, M i j = true → T i j) : ∀ n i j, warsh M n i j = true → T i j := by
  intro n
  induction n with
  | zero => intro i j hm; exact h i j hm
  | succ n ih =>
    intro i j hm
    change phase (warsh M n) n i j = true at hm
    unfold phase at hm
    simp only [Bool.or_eq_true, Bool.and_eq_true] at hm
    rcases hm with hm | ⟨h1, h2⟩
    · exact ih i j hm
    · exact hT i n j (ih i n h1) (ih n j h2)

theorem waits_mem (pl : List Nat) : ∀ (rs : List Rt) (M : Mx) (i j : Nat), waitsP pl rs M i j = true ↔ M i j = true ∨ ∃ r ∈ rs, r.late = false ∧ r.dst = i ∧ pl.getD r.src 0 = j := by
  intro rs
  induction rs with
  | nil => intro M i j; simp [waitsP]
  | cons r l ih =>
    intro M i j
    unfold waitsP
    rw [ih]
    constructor
    · rintro (h | ⟨x, hx, h⟩)
      · by_cases hl : r.late = true
        · rw [if_pos hl] at h; exact .inl h
        · rw [if_neg hl] at h
          unfold upd at h
          split at h
          · rename_i e; exact .inr ⟨r, by simp, by simpa using hl, e.1.symm, e.2.symm⟩
          · exact .inl h
      · exact .inr ⟨x, List.mem_cons_of_mem _ hx, h⟩
    · rintro (h | ⟨x, hx, h1, h2, h3⟩)
      · left
        split
        · exact h
        · unfold upd; split
          · rfl
          · exact h
      · rcases List.mem_cons.1 hx with rfl | hx
        · left
          rw [if_neg (by rw [h1]; decide)]
          unfold upd
          rw [if_pos ⟨h2.symm, h3.symm⟩]
        · exact .inr ⟨x, hx, h1, h2, h3⟩

theorem route_to (ts : List Tk) (L : List Dl) (b : Nat) (x : Dl) (r : Rt) : ∀ k, r ∈ routeTo ts L b x k ↔ ∃ q, q < k ∧ r ∈ routeAt ts L b x q := by
  intro k
  induction k with
  | zero => simp [routeTo]
  | succ k ih =>
    simp only [routeTo, List.mem_append, ih]
    constructor
    · rintro (⟨q, h1, h2⟩ | h)
      · exact ⟨q, by omega, h2⟩
      · exact ⟨k, by omega, h⟩
    · rintro ⟨q, h1, h2⟩
      by_cases e : q = k
      · subst e; exact .inr h2
      · exact .inl ⟨q, by omega, h2⟩
theorem route_from (ts : List Tk) (L : List Dl) (r : Rt) : ∀ (l : List Dl) (b : Nat), r ∈ routesFrom ts L b l ↔ ∃ k x, l[k]? = some x ∧ r ∈ routeTo ts L (b + k) x 4 := by
  intro l
  induction l with
  | nil => intro b; simp [routesFrom]
  | cons x l ih =>
    intro b
    simp only [routesFrom, List.mem_append, ih]
    constructor
    · rintro (h | ⟨k, y, h1, h2⟩)
      · exact ⟨0, x, rfl, h⟩
      · exact ⟨k + 1, y, by simpa using h1, by rwa [show b + (k + 1) = b + 1 + k by omega]⟩
    · rintro ⟨k, y, h1, h2⟩
      cases k with
      | zero => simp at h1; subst h1; exact .inl h2
      | succ k => exact .inr ⟨k, y, by simpa using h1, by rwa [show b + 1 + k = b + (k + 1) by omega]⟩
theorem route_at {ts : List Tk} {L : List Dl} {b : Nat} {x : Dl} {q : Nat} {r : Rt} (h : r ∈ routeAt ts L b x q) : r.src = b ∧ r.dst = q := by
  unfold routeAt at h
  split at h
  · simp at h; subst h; exact ⟨rfl, rfl⟩
  · simp at h
theorem route_mem (ts : List Tk) (L : List Dl) (r : Rt) : r ∈ routesR ts L ↔ ∃ x, (eqL L)[r.src]? = some x ∧ r.dst < 4 ∧ r ∈ routeAt ts L r.src x r.dst := by
  unfold routesR
  rw [route_from]
  constructor
  · rintro ⟨k, x, h1, h2⟩
    rw [route_to] at h2
    obtain ⟨q, h3, h4⟩ := h2
    obtain ⟨e1, e2⟩ := route_at h4
    rw [Nat.zero_add] at e1
    refine ⟨x, by rw [e1]; exact h1, by omega, ?_⟩
    rw [e1, e2]
    rwa [Nat.zero_add] at h4
  · rintro ⟨x, h1, h2, h3⟩
    exact ⟨r.src, x, h1, by rw [route_to, Nat.zero_add]; exact ⟨r.dst, h2, h3⟩⟩

theorem flat_same {α β : Type} {f h : α → List β} : ∀ (l : List α), (∀ x ∈ l, f x = h x) → l.flatMap f = l.flatMap h := by
  intro l
  induction l with
  | nil => intro _; rfl
  | cons a r ih => intro hh; rw [List.flatMap_cons, List.flatMap_cons, hh a (by simp), ih (fun x hx => hh x (List.mem_cons_of_mem _ hx))]

/-- who waits for whom. -/
def waitM (ts : List Tk) (L : List Dl) : Mx := waitsP ((eqL L).map (placeD ts)) (routesR ts L) noM

theorem wait_mem (ts : List Tk) (L : List Dl) (i j : Nat) : waitM ts L i j = true ↔ ∃ r ∈ routesR ts L, ∃ x, (eqL L)[r.src]? = some x ∧ r.late = false ∧ r.dst = i ∧ placeD ts x = j := by
  unfold waitM
  rw [waits_mem]
  constructor
  · rintro (h | ⟨r, hr, h1, h2, h3⟩)
    · cases h
    · obtain ⟨x, hx, _⟩ := (route_mem ts L r).1 hr
      refine ⟨r, hr, x, hx, h1, h2, ?_⟩
      rw [← h3, List.getD_eq_getElem?_getD, List.getElem?_map, hx]; rfl
  · rintro ⟨r, hr, x, hx, h1, h2, h3⟩
    refine .inr ⟨r, hr, h1, h2, ?_⟩
    rw [List.getD_eq_getElem?_getD, List.getElem?_map, hx]; exact h3

section
variable {ts ts' : List Tk} {L : List Dl} {g : Nat → Nat} (H : MovT ts ts' L g)
include H

theorem MovT.useOf (x : Dl) (nm : List UInt8) : useOf ts' x nm = useOf ts x nm := by
  unfold Go.Proofs.Ytmndgoapkmhglaa.useOf
  congr 1
  funext j
  rw [H.nm j]
  cases hj : isNm ts j with
  | false => rfl
  | true => rw [H.lnm hj]
theorem MovT.lateR (u : List Nat) : lateR ts' u = lateR ts u := by
  unfold Go.Proofs.Ytmndgoapkmhglaa.lateR
  congr 1
  funext k
  exact H.kwb _ kFby (by decide)

variable (inj : ∀ p q, p < 4 → q < 4 → g p = g q → p = q)
include inj

theorem MovT.usesR (nm : List UInt8) (q : Nat) (hq : q < 4) : usesR ts' L nm (g q) = usesR ts L nm q := by
  unfold Go.Proofs.Ytmndgoapkmhglaa.usesR
  refine flat_same _ (fun x hx => ?_)
  obtain ⟨_, _, _, hp⟩ := H.pl x hx
  rw [hp, H.useOf]
  by_cases e : placeD ts x = q
  · rw [if_pos (by rw [e]), if_pos e]
  · rw [if_neg (fun h => e (inj _ _ (H.lt x hx).1 hq h)), if_neg e]
theorem MovT.routeAt (b : Nat) {x : Dl} (hx : x ∈ eqL L) (q : Nat) (hq : q < 4) : routeAt ts' L b x (g q) = (routeAt ts L b x q).map fun r => ⟨r.src, g r.dst, r.late⟩ := by
  unfold Go.Proofs.Ytmndgoapkmhglaa.routeAt
  obtain ⟨_, _, _, hp⟩ := H.pl x hx
  rw [H.nameD (eq_mem hx), H.usesR inj _ q hq, hp, H.lateR]
  by_cases h1 : Go.Proofs.Ytmndgoapkmhglaa.usesR ts L (Go.Proofs.Ytmndgoapkmhglaa.nameD ts x).data.toList q ≠ []
  · by_cases h2 : q = placeD ts x
    · rw [if_neg (fun h => h.2 (by rw [← h2])), if_neg (fun h => h.2 h2)]; rfl
    · rw [if_pos ⟨h1, fun h => h2 (inj _ _ hq (H.lt x hx).1 h)⟩, if_pos ⟨h1, h2⟩]; rfl
  · rw [if_neg (fun h => h1 h.1), if_neg (fun h => h1 h.1)]; rfl

variable (gl : ∀ q, q < 4 → g q < 4)
include gl

theorem MovT.links (r : Rt) (hd : r.dst < 4) : (⟨r.src, g r.dst, r.late⟩ : Rt) ∈ routesR ts' L ↔ r ∈ routesR ts L := by
  rw [route_mem, route_mem]
  constructor
  · rintro ⟨x, h1, _, h3⟩
    refine ⟨x, h1, hd, ?_⟩
    have hx := List.mem_of_getElem? h1
    change _ ∈ Go.Proofs.Ytmndgoapkmhglaa.routeAt ts' L r.src x (g r.dst) at h3
    rw [H.routeAt inj r.src hx r.dst hd] at h3
    obtain ⟨y, hy, e⟩ := List.mem_map.1 h3
    obtain ⟨y1, y2⟩ := route_at hy
    obtain ⟨ys, yd, yl⟩ := y
    obtain ⟨rs, rd, rl⟩ := r
    simp only [Rt.mk.injEq] at e y1 y2
    obtain ⟨_, _, e3⟩ := e
    subst y1 y2 e3
    exact hy
  · rintro ⟨x, h1, h2, h3⟩
    have hx := List.mem_of_getElem? h1
    refine ⟨x, h1, gl _ hd, ?_⟩
    show _ ∈ Go.Proofs.Ytmndgoapkmhglaa.routeAt ts' L r.src x (g r.dst)
    rw [H.routeAt inj r.src hx r.dst hd]
    exact List.mem_map.2 ⟨r, h3, rfl⟩

variable (sur : ∀ p, p < 4 → ∃ q, q < 4 ∧ g q = p)
include sur

omit sur in
theorem MovT.wait (p q : Nat) (hp : p < 4) (hq : q < 4) : waitM ts' L (g p) (g q) = waitM ts L p q := by
  rw [Bool.eq_iff_iff, wait_mem, wait_mem]
  constructor
  · rintro ⟨r, hr, x, hx, h1, h2, h3⟩
    have hxe := List.mem_of_getElem? hx
    obtain ⟨_, _, _, hpl⟩ := H.pl x hxe
    refine ⟨⟨r.src, p, r.late⟩, (H.links inj gl ⟨r.src, p, r.late⟩ hp).1 ?_, x, hx, h1, rfl, inj _ _ (H.lt x hxe).1 hq (by rw [← hpl, h3])⟩
    show (⟨r.src, g p, r.late⟩ : Rt) ∈ _
    rw [← h2]; exact hr
  · rintro ⟨r, hr, x, hx, h1, h2, h3⟩
    have hxe := List.mem_of_getElem? hx
    obtain ⟨_, _, _, hpl⟩ := H.pl x hxe
    exact ⟨⟨r.src, g r.dst, r.late⟩, (H.links inj gl r (by omega)).2 hr, x, hx, h1, by rw [h2], by rw [hpl, h3]⟩
omit inj gl sur in
theorem MovT.wait_lt (a b : Nat) (h : waitM ts' L a b = true) : a < 4 ∧ b < 4 := by
  rw [wait_mem] at h
  obtain ⟨r, hr, x, hx, _, h2, h3⟩ := h
  obtain ⟨y, _, hd, _⟩ := (route_mem ts' L r).1 hr
  have hxe := List.mem_of_getElem? hx
  obtain ⟨_, _, _, hpl⟩ := H.pl x hxe
  exact ⟨by omega, by rw [← h3, hpl]; exact (H.lt x hxe).2⟩
omit inj gl sur in
theorem MovT.wait_lt0 (a b : Nat) (h : waitM ts L a b = true) : a < 4 ∧ b < 4 := by
  rw [wait_mem] at h
  obtain ⟨r, hr, x, hx, _, h2, h3⟩ := h
  obtain ⟨y, _, hd, _⟩ := (route_mem ts L r).1 hr
  exact ⟨by omega, by rw [← h3]; exact (H.lt x (List.mem_of_getElem? hx)).1⟩

theorem MovT.circ (p q : Nat) (hp : p < 4) (hq : q < 4) : warsh (waitM ts' L) 4 (g p) (g q) = warsh (waitM ts L) 4 p q := by
  rw [Bool.eq_iff_iff]
  constructor
  · intro h
    have := warsh_min (M := waitM ts' L) (T := fun a b => ∃ p q, p < 4 ∧ q < 4 ∧ a = g p ∧ b = g q ∧ warsh (waitM ts L) 4 p q = true) (fun i k j h1 h2 => by
        obtain ⟨p1, q1, a1, a2, rfl, rfl, w1⟩ := h1
        obtain ⟨p2, q2, b1, b2, e, rfl, w2⟩ := h2
        have e' := inj _ _ a2 b1 e
        subst e'
        exact ⟨p1, q2, a1, b2, rfl, rfl, warsh_trans _ 4 q1 p1 q2 a2 w1 w2⟩) (fun a b hab => by
        obtain ⟨ha, hb⟩ := H.wait_lt a b hab
        obtain ⟨p, hp, rfl⟩ := sur a ha
        obtain ⟨q, hq, rfl⟩ := sur b hb
        exact ⟨p, q, hp, hq, rfl, rfl, warsh_up _ _ _ (by rw [← H.wait inj gl p q hp hq]; exact hab) 4⟩) 4 _ _ h
    obtain ⟨p', q', h1, h2, e1, e2, h3⟩ := this
    rw [inj _ _ hp h1 e1, inj _ _ hq h2 e2]
    exact h3
  · intro h
    have := warsh_min (M := waitM ts L) (T := fun p q => p < 4 ∧ q < 4 ∧ warsh (waitM ts' L) 4 (g p) (g q) = true) (fun i k j h1 h2 => by
        exact ⟨h1.1, h2.2.1, warsh_trans _ 4 (g k) _ _ (gl _ h1.2.1) h1.2.2 h2.2.2⟩) (fun a b hab => by
        obtain ⟨ha, hb⟩ := H.wait_lt0 a b hab
        exact ⟨ha, hb, warsh_up _ _ _ (by rw [H.wait inj gl a b ha hb]; exact hab) 4⟩) 4 _ _ h
    exact this.2.2

theorem MovT.lp : lpR ts' L = lpR ts L := by
  have key : ∀ l : List Dl, (∀ x ∈ l, x ∈ eqL L) → firstP ts' (warsh (waitM ts' L) 4) l = firstP ts (warsh (waitM ts L) 4) l := by
    intro l
    induction l with
    | nil => intro _; rfl
    | cons x r ih =>
      intro h
      have hx := h x (by simp)
      obtain ⟨_, _, _, hpl⟩ := H.pl x hx
      simp only [firstP]
      rw [hpl, H.circ inj gl sur _ _ (H.lt x hx).1 (H.lt x hx).1, H.posD, ih (fun y hy => h y (List.mem_cons_of_mem _ hy))]
  exact key (eqL L) (fun _ h => h)

theorem MovT.read : readR ts' L = readR ts L := by
  unfold readR
  rw [H.many, H.names, H.types, H.cyc, H.lp inj gl sur]
end

/-- all at one place: no links, no loops. -/
theorem MovT.gather {ts ts' : List Tk} {L : List Dl} (H : MovT ts ts' L (fun _ => 0)) : routesR ts' L = [] ∧ lpR ts' L = none := by
  have h0 : routesR ts' L = [] := by
    rw [List.eq_nil_iff_forall_not_mem]
    intro r hr
    obtain ⟨x, hx, _, h⟩ := (route_mem ts' L r).1 hr
    have hxe := List.mem_of_getElem? hx
    unfold Go.Proofs.Ytmndgoapkmhglaa.routeAt at h
    split at h
    · rename_i hc
      obtain ⟨_, _, _, hpl⟩ := H.pl x hxe
      have hne : r.dst ≠ 0 := fun e => hc.2 (by rw [e, hpl])
      apply hc.1
      unfold Go.Proofs.Ytmndgoapkmhglaa.usesR
      rw [List.flatMap_eq_nil_iff]
      intro y hy
      obtain ⟨_, _, _, hpy⟩ := H.pl y hy
      rw [if_neg (by rw [hpy]; exact fun e => hne e.symm)]
    · simp at h
  refine ⟨h0, ?_⟩
  have hw : waitM ts' L = noM := by unfold waitM; rw [h0]; rfl
  have hn : ∀ n i j, warsh noM n i j = false := by
    intro n
    induction n with
    | zero => intro i j; rfl
    | succ n ih => intro i j; show phase (warsh noM n) n i j = false; unfold phase; rw [ih, ih]; rfl
  have key : ∀ l : List Dl, firstP ts' (warsh (waitM ts' L) 4) l = none := by
    intro l
    induction l with
    | nil => rfl
    | cons x r ih => simp only [firstP]; rw [hw, hn, ← hw, ih]; rfl
  exact key _

end Go.Proofs.Ytmndgoapkmhglaa

/- Plain mathematics: the streams, the links and the answer of a text whose places were turned. -/
namespace Go.Proofs.Ytmndgoapkmhglaa

/-- each place r further on. -/
def rotG (r : Nat) (q : Nat) : Nat := (q + r) % 4
theorem rot_inj (r p q : Nat) (hp : p < 4) (hq : q < 4) (h : rotG r p = rotG r q) : p = q := by unfold rotG at h; omega
theorem rot_lt (r q : Nat) (_ : q < 4) : rotG r q < 4 := by unfold rotG; omega
theorem rot_sur (r p : Nat) (hp : p < 4) : ∃ q, q < 4 ∧ rotG r q = p := by
  unfold rotG
  have : r % 4 < 4 := Nat.mod_lt _ (by omega)
  refine ⟨(p + 4 - r % 4) % 4, Nat.mod_lt _ (by omega), ?_⟩
  omega

section
variable {ts ts' : List Tk} {L : List Dl}

theorem rot_len {r : Nat} (H : MovT ts ts' L (rotG r)) : (routesR ts' L).length = (routesR ts L).length := by
  have one : ∀ (b : Nat) (x : Dl), x ∈ eqL L → (routeTo ts' L b x 4).length = (routeTo ts L b x 4).length := fun b x hx => by
    have e : ∀ q, q < 4 → (routeAt ts' L b x (rotG r q)).length = (routeAt ts L b x q).length := fun q hq => by
      rw [H.routeAt (rot_inj r) b hx q hq, List.length_map]
    have e0 := e 0 (by omega)
    have e1 := e 1 (by omega)
    have e2 := e 2 (by omega)
    have e3 := e 3 (by omega)
    unfold rotG at e0 e1 e2 e3
    simp only [routeTo, List.nil_append, List.length_append]
    have hr : r % 4 = 0 ∨ r % 4 = 1 ∨ r % 4 = 2 ∨ r % 4 = 3 := by omega
    rcases hr with h | h | h | h
    · rw [show (0 + r) % 4 = 0 by omega] at e0; rw [show (1 + r) % 4 = 1 by omega] at e1; rw [show (2 + r) % 4 = 2 by omega] at e2; rw [show (3 + r) % 4 = 3 by omega] at e3; omega
    · rw [show (0 + r) % 4 = 1 by omega] at e0; rw [show (1 + r) % 4 = 2 by omega] at e1; rw [show (2 + r) % 4 = 3 by omega] at e2; rw [show (3 + r) % 4 = 0 by omega] at e3; omega
    · rw [show (0 + r) % 4 = 2 by omega] at e0; rw [show (1 + r) % 4 = 3 by omega] at e1; rw [show (2 + r) % 4 = 0 by omega] at e2; rw [show (3 + r) % 4 = 1 by omega] at e3; omega
    · rw [show (0 + r) % 4 = 3 by omega] at e0; rw [show (1 + r) % 4 = 0 by omega] at e1; rw [show (2 + r) % 4 = 1 by omega] at e2; rw [show (3 + r) % 4 = 2 by omega] at e3; omega
  have key : ∀ (l : List Dl) (b : Nat), (∀ x ∈ l, x ∈ eqL L) → (routesFrom ts' L b l).length = (routesFrom ts L b l).length := by
    intro l
    induction l with
    | nil => intro b _; rfl
    | cons x r ih =>
      intro b h
      simp only [routesFrom, List.length_append]
      rw [one b x (h x (by simp)), ih (b + 1) (fun y hy => h y (List.mem_cons_of_mem _ hy))]
  exact key _ 0 (fun _ h => h)

/-- the links go along. -/
theorem rot_links {r : Nat} (H : MovT ts ts' L (rotG r)) (x : Rt) (h : x ∈ routesR ts L) : (⟨x.src, (x.dst + r) % 4, x.late⟩ : Rt) ∈ routesR ts' L := by
  obtain ⟨_, _, hd, _⟩ := (route_mem ts L x).1 h
  exact (H.links (rot_inj r) (rot_lt r) x hd).2 h

variable {g : Nat → Nat} (H : MovT ts ts' L g)
include H

omit H in
theorem MovT.evT {V : List UInt8 → Nat → Int} : ∀ (t : Ast) (i n : Nat), (∀ j, i ≤ j → j < i + t.len → tkAt ts' j = tkAt ts j) → evT ts' V t i n = evT ts V t i n := by
  intro t
  have eL : ∀ j, tkAt ts' j = tkAt ts j → lAt ts' j = lAt ts j := fun j h => by unfold lAt; rw [h]
  induction t with
  | leaf => intro i n h; have e := h i (by omega) (by simp only [Ast.len]; omega); simp only [Go.Proofs.Ytmndgoapkmhglaa.evT]; rw [eL _ e, e]
  | neg a iha => intro i n h; simp only [Ast.len] at h; simp only [Go.Proofs.Ytmndgoapkmhglaa.evT]; rw [iha _ n (fun j a b => h j (by omega) (by omega))]
  | ite a b c iha ihb ihc => intro i n h; simp only [Ast.len] at h; simp only [Go.Proofs.Ytmndgoapkmhglaa.evT]; rw [iha _ n (fun j a b => h j (by omega) (by omega)), ihb _ n (fun j a b => h j (by omega) (by omega)), ihc _ n (fun j a b => h j (by omega) (by omega))]
  | dly b ihb =>
    intro i n h
    simp only [Ast.len] at h
    cases n with
    | zero => simp only [Go.Proofs.Ytmndgoapkmhglaa.evT]; rw [h _ (by omega) (by omega)]
    | succ n => simp only [Go.Proofs.Ytmndgoapkmhglaa.evT]; rw [ihb _ n (fun j a b => h j (by omega) (by omega))]
  | bin a b iha ihb => intro i n h; simp only [Ast.len] at h; simp only [Go.Proofs.Ytmndgoapkmhglaa.evT]; rw [iha _ n (fun j a b => h j (by omega) (by omega)), ihb _ n (fun j a b => h j (by omega) (by omega)), eL _ (h _ (by omega) (by omega))]

theorem MovT.solF (ins : List (List Int)) : ∀ f j n, solF ts' L ins f j n = solF ts L ins f j n := by
  intro f
  induction f with
  | zero => intro j n; rfl
  | succ f ih =>
    intro j n
    simp only [Go.Proofs.Ytmndgoapkmhglaa.solF, bodyV]
    cases hx : (eqL L)[j]? with
    | none => rfl
    | some x =>
      have hxe := List.mem_of_getElem? hx
      have hk : x.kind ≠ 0 := by simpa using (List.mem_filter.1 hxe).2
      have hl : x.len = x.t.len + 6 := by unfold Dl.len; rw [if_neg hk]
      have hV : valV ts' L ins (Go.Proofs.Ytmndgoapkmhglaa.solF ts' L ins f) = valV ts L ins (Go.Proofs.Ytmndgoapkmhglaa.solF ts L ins f) := by
        funext w n'
        unfold valV
        have e1 : inIx ts' L w = inIx ts L w := by
          unfold inIx
          rw [ix_nm ts', ix_nm ts]
          congr 1
          exact List.map_congr_left (fun y hy => by rw [H.nameD (List.mem_filter.1 hy).1])
        have e2 : eqIx ts' L w = eqIx ts L w := by
          unfold eqIx
          rw [ix_nm ts', ix_nm ts]
          congr 1
          exact List.map_congr_left (fun y hy => by rw [H.nameD (eq_mem hy)])
        rw [e1, e2]
        cases inIx ts L w with
        | some i => rfl
        | none =>
          cases eqIx ts L w with
          | none => rfl
          | some l => exact ih l n'
      show Go.Proofs.Ytmndgoapkmhglaa.evT ts' _ x.t (x.i + 5) n = Go.Proofs.Ytmndgoapkmhglaa.evT ts _ x.t (x.i + 5) n
      rw [hV]
      exact MovT.evT _ _ _ (fun j a b => H.far (eq_mem hxe) (by omega) (by omega) (.inr (by omega)))
theorem MovT.sol (ins : List (List Int)) (j n : Nat) : sol ts' L ins j n = sol ts L ins j n := H.solF ins _ j n

end

end Go.Proofs.Ytmndgoapkmhglaa

/- Plain mathematics: what a text is found to be whose places were turned. -/
namespace Go.Proofs.Ytmndgoapkmhglaa

theorem Ans.one {ts : List Tk} : ∀ {n : Nat} {X : List UInt8} {d : Int} {i : Nat} {r : Int}, Ans ts n X d i r → ∀ {n' : Nat} {r' : Int}, Ans ts n' X d i r' → r = r' := by
  intro n X d i r h
  induction h with
  | done n X d i hi hX hk =>
    intro n' r' h'
    cases h' with
    | done => rfl
    | fail _ _ _ _ _ _ _ h80 _ => exact absurd ⟨rfl, hk⟩ h80
    | step _ _ _ _ _ _ m u _ _ h80 _ _ => exact absurd ⟨rfl, hk⟩ h80
  | fail n x X d i hi hX h80 hr =>
    intro n' r' h'
    cases h' with
    | done _ _ _ _ _ _ hk => exact absurd ⟨rfl, hk⟩ h80
    | fail => rfl
    | step _ _ _ _ _ _ m u _ _ _ hr' _ => rw [hr'] at hr; cases hr
  | step n x X d i r m u hi hX h80 hr hn ih =>
    intro n' r' h'
    cases h' with
    | done _ _ _ _ _ _ hk => exact absurd ⟨rfl, hk⟩ h80
    | fail _ _ _ _ _ _ _ _ hr' => rw [hr] at hr'; cases hr'
    | step _ _ _ _ _ _ m' u' _ _ _ hr' hn' =>
      rw [hr] at hr'
      simp only [Prod.mk.injEq, and_true] at hr'
      obtain ⟨rfl, rfl⟩ := hr'
      exact ih hn'

section
variable {ts ts' : List Tk} {L : List Dl} {g : Nat → Nat} (H : MovT ts ts' L g)
include H

theorem MovT.rule (x : Nat) (i : Nat) (d : Int) : ruleF x (rtok (tkAt ts' i)) d = ruleF x (rtok (tkAt ts i)) d := by
  by_cases h : ∃ y ∈ eqL L, i = y.i + 3
  · obtain ⟨y, hy, rfl⟩ := h
    obtain ⟨h1, h2, h3, h4⟩ := H.pl y hy
    have hlt := H.lt y hy
    have e : ∀ t : Tk, t.kind = 3 → rtok t = ⟨110, ⟨#[]⟩, t.pos, valOf t.text.data.toList⟩ := fun t ht => by unfold rtok; simp [ht]
    rw [e _ h1, e _ h2, h3]
    have v1 : valOf (tkAt ts' (y.i + 3)).text.data.toList < 4 := by show placeD ts' y < 4; rw [h4]; exact hlt.2
    have v2 : valOf (tkAt ts (y.i + 3)).text.data.toList < 4 := hlt.1
    generalize valOf (tkAt ts' (y.i + 3)).text.data.toList = a at v1
    generalize valOf (tkAt ts (y.i + 3)).text.data.toList = b at v2
    unfold ruleF
    have q : ((110 : Nat) == 110 && decide (a < 4)) = ((110 : Nat) == 110 && decide (b < 4)) := by rw [decide_eq_true v1, decide_eq_true v2]
    simp only [q]
    rfl
  · rw [H.oth i (fun y hy e => h ⟨y, hy, e⟩)]

theorem MovT.ans : ∀ {n : Nat} {X : List UInt8} {d : Int} {i : Nat} {r : Int}, Ans ts n X d i r → Ans ts' n X d i r := by
  intro n X d i r h
  induction h with
  | done n X d i hi hX hk => exact Ans.done n X d i (by rw [H.len]; exact hi) hX (by rw [H.kind]; exact hk)
  | fail n x X d i hi hX h80 hr =>
    rw [← H.pos i]
    exact Ans.fail n x X d i (by rw [H.len]; exact hi) hX (by rw [H.kind]; exact h80) (by rw [H.rule]; exact hr)
  | step n x X d i r m u hi hX h80 hr hn ih =>
    refine Ans.step n x X d i r m u (by rw [H.len]; exact hi) hX (by rw [H.kind]; exact h80) (by rw [H.rule]; exact hr) ?_
    have e1 := H.kw i [40] (by decide)
    have e2 := H.kw i [41] (by decide)
    simp only [e1, e2]
    exact ih
end

theorem routes_eqs (ts : List Tk) {L L' : List Dl} (h : eqL L = eqL L') : routesR ts L = routesR ts L' := by
  have e1 : usesR ts L = usesR ts L' := by funext nm q; unfold usesR; rw [h]
  have e2 : ∀ b x q, routeAt ts L b x q = routeAt ts L' b x q := fun b x q => by unfold routeAt; rw [e1]
  have e3 : ∀ b x k, routeTo ts L b x k = routeTo ts L' b x k := by
    intro b x k
    induction k with
    | zero => rfl
    | succ k ih => simp only [routeTo]; rw [ih, e2]
  have e4 : ∀ (l : List Dl) b, routesFrom ts L b l = routesFrom ts L' b l := by
    intro l
    induction l with
    | nil => intro b; rfl
    | cons x r ih => intro b; simp only [routesFrom]; rw [e3, ih]
  unfold routesR
  rw [h, e4]
theorem inL_map_nrm (L : List Dl) : inL (L.map nrm) = (inL L).map nrm := by
  unfold inL
  induction L with
  | nil => rfl
  | cons x r ih =>
    rw [List.map_cons, List.filter_cons, List.filter_cons, ih]
    unfold nrm
    by_cases h : x.kind = 0
    · simp [h]
    · simp [h]
theorem nrm_i (x : Dl) : (nrm x).i = x.i := by unfold nrm; split <;> rfl
theorem read_nrm (ts : List Tk) (L : List Dl) : readR ts (L.map nrm) = readR ts L := by
  have e1 : manyR ts (L.map nrm) = manyR ts L := by
    unfold manyR
    rw [eqL_nrm, inL_map_nrm, List.getElem?_map, Option.map_map]
    congr 2
    funext x
    show posD ts (nrm x) = posD ts x
    unfold posD; rw [nrm_i]
  have e2 : namesR ts (L.map nrm) = namesR ts L := by
    unfold namesR
    congr 2
    funext k
    unfold badNm qNm hereR aheadR someR
    simp only [List.any_map]
    congr 2
    · congr 1
      · congr 1; funext x; simp [nrm_i]
      · congr 1; funext x; simp [nameD, nrm_i]
    · congr 1; congr 1; funext x; simp [nameD, nrm_i]
  have e3 : ∀ i, nameT ts (L.map nrm) i = nameT ts L i := fun i => by unfold nameT; rw [eqL_nrm]
  have e4 : ∀ i, isR ts (L.map nrm) i = isR ts L i := fun i => by unfold isR; rw [e3]
  have eB : ∀ i w, badR ts (L.map nrm) i w = badR ts L i w := fun i w => by unfold badR; rw [e4]
  have e5 : ∀ (t : Ast) (i w : Nat), wrongR ts (L.map nrm) t i w = wrongR ts L t i w := by
    intro t
    induction t with
    | leaf => intro i w; simp only [wrongR]; rw [eB]
    | neg a iha => intro i w; simp only [wrongR]; rw [eB, iha]
    | ite a b c iha ihb ihc => intro i w; simp only [wrongR]; rw [eB, iha, ihb, ihc]
    | dly b ihb => intro i w; simp only [wrongR]; rw [eB, eB, ihb]
    | bin a b iha ihb => intro i w; simp only [wrongR]; rw [eB, iha, ihb]
  have e6 : typesR ts (L.map nrm) = typesR ts L := by unfold typesR; rw [eqL_nrm]; congr 1; funext x; rw [e5]
  have e7 : cycR ts (L.map nrm) = cycR ts L := by
    unfold cycR
    have : relR ts (L.map nrm) = relR ts L := by funext i j; unfold relR; rw [eqL_nrm]
    rw [this, eqL_nrm]
  have e8 : routesR ts (L.map nrm) = routesR ts L := routes_eqs ts (eqL_nrm L)
  have e9 : lpR ts (L.map nrm) = lpR ts L := by unfold lpR; rw [eqL_nrm, e8]
  unfold readR
  rw [e1, e2, e6, e7, e9]

/-- the answer to a text whose places were turned. -/
theorem mov_text {s s' : ByteArray} {L : List Dl} {g : Nat → Nat} (H : MovT (toks s) (toks s') L g) (hA : ∃ n, Ans (toks s) n [80] 0 0 (-1)) (hs' : s'.size ≤ 1500) : textF s' = readR (toks s') L := by
  rcases text_read s' hs' with ⟨k, _, _, n', h'⟩ | ⟨L'', hsp, _, ht, _⟩
  · obtain ⟨n, hn⟩ := hA
    have := (H.ans hn).one h'
    omega
  · rw [ht, ← read_nrm, spell_uniq (toks_F s') L'' L 0 hsp H.spell, read_nrm]

end Go.Proofs.Ytmndgoapkmhglaa
