import Derived.Test.YtghomdecppfonaaGreatM13StrB
/- Plain mathematics: a right text, by both readers. -/
namespace Go.Proofs.YtghomdecppfonaaGreat

/-- the text's answer, and its parts. -/
theorem text_read (s : ByteArray) (hs : s.size ≤ 1500) :
    (∃ k, k < (toks s).length ∧ textF s = (2, (tkAt (toks s) k).pos) ∧ ∃ n, Ans (toks s) n [80] 0 0 ((tkAt (toks s) k).pos : Int)) ∨
    (∃ L, Spell (toks s) L 0 ∧ (∃ n, Ans (toks s) n [80] 0 0 (-1)) ∧ textF s = readR (toks s) L ∧ ∃ p, parseF s = .ok p ∧ p.decls = declsD (toks s) L 0 0 0 ∧ p.nodes = nodesD (toks s) L 0) := by
  obtain ⟨hok, hbad⟩ := parseA s hs
  unfold textF
  rw [if_neg (by omega)]
  cases hp : parseF s with
  | error k =>
    obtain ⟨h1, h2⟩ := hbad k hp
    exact .inl ⟨k, h1, rfl, h2⟩
  | ok p =>
    obtain ⟨L, h1, h2, h3, h4⟩ := hok p hp
    refine .inr ⟨L, h1, h4, ?_, p, rfl, h2, h3⟩
    show meaningF p.decls (boundN p) = _
    unfold boundN
    rw [h2, h3]
    exact meaning_ref (toks_F s) (toks_pos s) (toks_end s) L h1 (toks_ok s hs).pos

/-- a right text: its parts, and that nothing is wrong with them. -/
structure RGood (s : ByteArray) (L : List Dl) : Prop where
  many : manyR (toks s) L = none
  names : namesR (toks s) L = none
  types : typesR (toks s) L = none
  cyc : cycR (toks s) L = none
  lp : lpR (toks s) L = none
  sp : Spell (toks s) L 0
  parse : ∃ p, parseF s = .ok p ∧ p.decls = declsD (toks s) L 0 0 0 ∧ p.nodes = nodesD (toks s) L 0

theorem spell_lt {ts : List Tk} : ∀ (L : List Dl) (i : Nat), Spell ts L i → L.Pairwise (fun x y => x.i + x.len ≤ y.i) := by
  intro L
  induction L with
  | nil => intro i _; exact List.Pairwise.nil
  | cons x r ih =>
    intro i h
    obtain ⟨_, h2, _, _, _, h6⟩ := spell_mid (L2 := r) [] i h
    exact List.Pairwise.cons h2 (ih _ h6)

end Go.Proofs.YtghomdecppfonaaGreat

/- Plain mathematics: of a right text every name is known, and known once; the passes of the document's own answer. -/
namespace Go.Proofs.YtghomdecppfonaaGreat

theorem names_at {ts : List Tk} {L : List Dl} (h : namesR ts L = none) {k : Nat} (hk : k < ts.length) (hn : isNm ts k = true) : (hereR L k = true → aheadR ts L k = false) ∧ someR ts L k = true := by
  unfold namesR at h
  rw [Option.map_eq_none_iff, List.find?_eq_none] at h
  have := h k (by rw [List.mem_range'_1]; omega)
  unfold badNm qNm at this
  rw [hn] at this
  simp at this
  exact this

/-- what is known of a right text. -/
structure Right (ts : List Tk) (L : List Dl) : Prop extends Eqs ts L where
  own : ∀ x ∈ L, ∀ y ∈ L, (nameD ts x).data.toList = (nameD ts y).data.toList → x.i = y.i
  decl : ∀ k, k < ts.length → isNm ts k = true → ∃ x ∈ L, (nameD ts x).data.toList = lAt ts k
  pw : L.Pairwise (fun x y => x.i + x.len ≤ y.i)
  few : (eqL L).length ≤ 12 ∧ (inL L).length ≤ 4

theorem less_none {a b : Option Nat} (h : less a b = none) : a = none ∧ b = none := by
  cases a <;> cases b <;> simp_all [less]

theorem right_of {ts : List Tk} {L : List Dl} (hF : ∀ i, TkF (tkAt ts i)) (hs : Spell ts L 0) (hm : manyR ts L = none) (hn : namesR ts L = none) (hc : cycR ts L = none) : Right ts L := by
  have hmem := fun x hx => (spell_mem L 0 hs x hx).2
  have hnm : ∀ x ∈ L, x.i + 1 < ts.length ∧ isNm ts (x.i + 1) = true := fun x hx => by
    obtain ⟨h1, h2⟩ := hmem x hx
    have := x.len_pos
    refine ⟨by omega, ?_⟩
    unfold isNm
    rcases h2 with ⟨_, _, h, _⟩ | ⟨_, h, _⟩ <;> rw [h] <;> rfl
  have hown : ∀ x ∈ L, ∀ y ∈ L, (nameD ts x).data.toList = (nameD ts y).data.toList → ¬ x.i < y.i := fun x hx y hy he hlt => by
    obtain ⟨h1, h2⟩ := hnm y hy
    have h3 := (names_at hn h1 h2).1 (by unfold hereR; rw [List.any_eq_true]; exact ⟨y, hy, by simp⟩)
    unfold aheadR at h3
    rw [List.any_eq_false] at h3
    refine h3 x hx ?_
    simp only [Bool.and_eq_true, beq_iff_eq, decide_eq_true_eq]
    exact ⟨he, by omega⟩
  have hmany := less_none hm
  refine { F := hF, sp := fun x hx => ?_, cyc := hc, own := fun x hx y hy he => ?_, decl := fun k hk h => ?_, pw := spell_lt L 0 hs, few := ⟨?_, ?_⟩ }
  · have hm' := List.mem_filter.1 hx
    have hk : x.kind ≠ 0 := by simpa using hm'.2
    obtain ⟨h1, h2⟩ := hmem x hm'.1
    have hl : x.len = x.t.len + 6 := by unfold Dl.len; rw [if_neg hk]
    rcases h2 with ⟨h, _⟩ | ⟨_, _, _, _, _, h, _⟩
    · exact absurd h hk
    · exact ⟨h, by omega⟩
  · have a := hown x hx y hy he
    have b := hown y hy x hx he.symm
    omega
  · have h3 := (names_at hn hk h).2
    unfold someR at h3
    rw [List.any_eq_true] at h3
    obtain ⟨x, hx, he⟩ := h3
    exact ⟨x, hx, by simpa using he⟩
  · have := hmany.1
    rw [Option.map_eq_none_iff, List.getElem?_eq_none_iff] at this
    exact this
  · have := hmany.2
    rw [Option.map_eq_none_iff, List.getElem?_eq_none_iff] at this
    exact this

theorem nms_lt {ts : List Tk} (t : Ast) (i : Nat) : ∀ j ∈ nms ts t i, i ≤ j ∧ j < i + t.len := by
  intro j hj
  rw [nms_nmD ts t i false] at hj
  obtain ⟨x, hx, rfl⟩ := List.mem_map.1 hj
  exact nm_in t i false x hx

theorem nms_nm {ts : List Tk} : ∀ (t : Ast) (i : Nat), ∀ j ∈ nms ts t i, isNm ts j = true := by
  intro t
  induction t with
  | leaf =>
    intro i j h
    unfold nms at h
    split at h
    · rename_i hk; simp at h; rw [h]; unfold isNm; rw [hk]; rfl
    · simp at h
  | neg a iha => intro i j h; exact iha _ j h
  | ite a b c iha ihb ihc =>
    intro i j h
    simp only [nms, List.mem_append] at h
    exact h.elim (iha _ j) (fun h => h.elim (ihb _ j) (ihc _ j))
  | dly b ihb => intro i j h; exact ihb _ j h
  | bin a b iha ihb =>
    intro i j h
    simp only [nms, List.mem_append] at h
    exact h.elim (iha _ j) (ihb _ j)

theorem ix_some {l : List Dl} {p : Dl → Bool} {x : Dl} (hx : x ∈ l) (hp : p x = true) : ∃ j, l.findIdx? p = some j := by
  cases h : l.findIdx? p with
  | some j => exact ⟨j, rfl⟩
  | none => rw [List.findIdx?_eq_none_iff] at h; rw [h x hx] at hp; cases hp

theorem Right.find {ts : List Tk} {L : List Dl} (H : Right ts L) {k : Nat} (hk : k < ts.length) (hn : isNm ts k = true) : (∃ i, inIx ts L (lAt ts k) = some i) ∨ (∃ j, eqIx ts L (lAt ts k) = some j) := by
  obtain ⟨x, hx, he⟩ := H.decl k hk hn
  have hp : nmIs ts (lAt ts k) x = true := by unfold nmIs; rw [he]; simp
  by_cases h0 : x.kind = 0
  · exact .inl (ix_some (List.mem_filter.2 ⟨hx, by rw [h0]; rfl⟩) hp)
  · exact .inr (ix_some (List.mem_filter.2 ⟨hx, by simpa using h0⟩) hp)

/-- two equations of one name are one. -/
theorem Right.same {ts : List Tk} {L : List Dl} (H : Right ts L) {i j : Nat} {x y : Dl} (hx : (eqL L)[i]? = some x) (hy : (eqL L)[j]? = some y) (he : (nameD ts x).data.toList = (nameD ts y).data.toList) : i = j := by
  have mx : x ∈ L := (List.mem_filter.1 (List.mem_of_getElem? hx)).1
  have my : y ∈ L := (List.mem_filter.1 (List.mem_of_getElem? hy)).1
  have hi := H.own x mx y my he
  obtain ⟨h1, rfl⟩ := List.getElem?_eq_some_iff.1 hx
  obtain ⟨h2, rfl⟩ := List.getElem?_eq_some_iff.1 hy
  have hp : (eqL L).Pairwise (fun x y => x.i + x.len ≤ y.i) := H.pw.filter _
  rw [List.pairwise_iff_getElem] at hp
  rcases Nat.lt_trichotomy i j with h | h | h
  · have := hp i j h1 h2 h; have := (eqL L)[i].len_pos; omega
  · exact h
  · have := hp j i h2 h1 h; have := (eqL L)[j].len_pos; omega

/-- a name's value, as far as it is known. -/
def knR (ts : List Tk) (L : List Dl) (ins : List (List Int)) (R : Nat → Nat → Int) (D : Nat → Bool) (now : Nat) (w : List UInt8) (n : Nat) : Int × Bool :=
  match inIx ts L w with
  | some i => (elemF ins i n, true)
  | none => match eqIx ts L w with
    | some j => if decide (n < now) || D j then (R j n, true) else (0, false)
    | none => (0, false)

/-- how far the rows have come. -/
structure UpTo (ts : List Tk) (L : List Dl) (ins : List (List Int)) (R : Nat → Nat → Int) (D : Nat → Bool) (now : Nat) : Prop where
  old : ∀ j k, j < (eqL L).length → k < now → R j k = sol ts L ins j k
  new : ∀ j, j < (eqL L).length → D j = true → R j now = sol ts L ins j now

theorem inst_val {ts : List Tk} {L : List Dl} {ins : List (List Int)} {R : Nat → Nat → Int} {D : Nat → Bool} {now : Nat} (H : Right ts L) (h : UpTo ts L ins R D now) (j : Nat) (hj : j < (eqL L).length)
    (hk : (evR ts (knR ts L ins R D now) (eqL L)[j].t ((eqL L)[j].i + 5) now).2 = true) : (evR ts (knR ts L ins R D now) (eqL L)[j].t ((eqL L)[j].i + 5) now).1 = sol ts L ins j now := by
  rw [sol_eq H.toEqs j now hj]
  refine evR_val ts _ _ _ (fun w n' hn hw => ?_) hk
  unfold knR at hw ⊢
  unfold valV
  cases hi : inIx ts L w with
  | some i => rfl
  | none =>
    simp only [hi] at hw ⊢
    cases he : eqIx ts L w with
    | none => simp only [he] at hw; cases hw
    | some l =>
      simp only [he] at hw ⊢
      obtain ⟨z, hz, _⟩ := eqIx_some he
      have hlt : l < (eqL L).length := (List.getElem?_eq_some_iff.1 hz).1
      split at hw
      · rename_i hc
        rw [if_pos hc]
        show R l n' = _
        by_cases h1 : n' < now
        · exact h.old l n' hlt h1
        · have e : n' = now := by omega
          subst e
          have hd : D l = true := by simpa using hc
          exact h.new l hlt hd
      · cases hw

theorem inst_known {ts : List Tk} {L : List Dl} {ins : List (List Int)} {R : Nat → Nat → Int} {D : Nat → Bool} {now : Nat} (H : Right ts L) (j : Nat) (hj : j < (eqL L).length)
    (hd : ∀ l, l < (eqL L).length → relR ts L j l = true → D l = true) : (evR ts (knR ts L ins R D now) (eqL L)[j].t ((eqL L)[j].i + 5) now).2 = true := by
  have hx : (eqL L)[j]? = some (eqL L)[j] := List.getElem?_eq_getElem hj
  obtain ⟨hs, hl⟩ := H.sp (eqL L)[j] (List.getElem_mem hj)
  have hex : ∀ k ∈ nms ts (eqL L)[j].t ((eqL L)[j].i + 5), (∃ i, inIx ts L (lAt ts k) = some i) ∨ (∃ l, eqIx ts L (lAt ts k) = some l) := fun k hk => by
    have := nms_lt _ _ k hk
    exact H.find (by omega) (nms_nm _ _ k hk)
  refine evR_known ts _ _ _ (fun k hk => ?_) (fun k hk n' hn => ?_)
  · unfold knR
    cases hi : inIx ts L (lAt ts k) with
    | some i => rfl
    | none =>
      rcases hex k (und_nms ts _ _ k hk) with ⟨i, h⟩ | ⟨l, h⟩
      · rw [hi] at h; cases h
      · simp only [h]
        obtain ⟨z, hz, _⟩ := eqIx_some h
        rw [hd l (List.getElem?_eq_some_iff.1 hz).1 (rel_und H.F hx hs hl hk h)]
        simp
  · unfold knR
    cases hi : inIx ts L (lAt ts k) with
    | some i => rfl
    | none =>
      rcases hex k hk with ⟨i, h⟩ | ⟨l, h⟩
      · rw [hi] at h; cases h
      · simp only [h]
        rw [decide_eq_true hn]
        simp

/-- where the passes over an instant stand: behind so many passes, and so many equations of this one. -/
structure Pass (ts : List Tk) (L : List Dl) (ins : List (List Int)) (R : Nat → Nat → Int) (D : Nat → Bool) (now p i : Nat) : Prop where
  up : UpTo ts L ins R D now
  done : ∀ j, j < (eqL L).length → rk ts L j < p → D j = true
  here : ∀ j, j < i → j < (eqL L).length → rk ts L j ≤ p → D j = true

def setR (R : Nat → Nat → Int) (a b : Nat) (v : Int) : Nat → Nat → Int := fun i k => if i = a ∧ k = b then v else R i k
def setD (D : Nat → Bool) (a : Nat) (v : Bool) : Nat → Bool := fun i => if i = a then v else D i

theorem Pass.skip {ts : List Tk} {L : List Dl} {ins : List (List Int)} {R : Nat → Nat → Int} {D : Nat → Bool} {now p i : Nat} (h : Pass ts L ins R D now p i) (hd : D i = true) : Pass ts L ins R D now p (i + 1) :=
  ⟨h.up, h.done, fun j hj hj' hr => by
    by_cases e : j = i
    · rw [e]; exact hd
    · exact h.here j (by omega) hj' hr⟩

theorem Pass.next {ts : List Tk} {L : List Dl} {ins : List (List Int)} {R : Nat → Nat → Int} {D : Nat → Bool} {now p i : Nat} (H : Right ts L) (h : Pass ts L ins R D now p i) (hi : i < (eqL L).length) (hd : D i = false) :
    Pass ts L ins (setR R i now (evR ts (knR ts L ins R D now) (eqL L)[i].t ((eqL L)[i].i + 5) now).1) (setD D i (evR ts (knR ts L ins R D now) (eqL L)[i].t ((eqL L)[i].i + 5) now).2) now p (i + 1) := by
  refine ⟨⟨fun j k hj hk => ?_, fun j hj hD => ?_⟩, fun j hj hr => ?_, fun j hj hj' hr => ?_⟩
  · unfold setR; rw [if_neg (by omega)]; exact h.up.old j k hj hk
  · unfold setD at hD
    by_cases e : j = i
    · subst e
      rw [if_pos rfl] at hD
      unfold setR
      rw [if_pos ⟨rfl, rfl⟩]
      exact inst_val H h.up j hj hD
    · rw [if_neg e] at hD
      unfold setR
      rw [if_neg (by omega)]
      exact h.up.new j hj hD
  · unfold setD
    by_cases e : j = i
    · subst e; rw [h.done j hj hr] at hd; cases hd
    · rw [if_neg e]; exact h.done j hj hr
  · unfold setD
    by_cases e : j = i
    · subst e
      rw [if_pos rfl]
      refine inst_known H j hj' (fun l hl hrel => h.done l hl ?_)
      have := rk_less H.cyc hl hrel
      omega
    · rw [if_neg e]; exact h.here j (by omega) hj' hr

theorem Pass.over {ts : List Tk} {L : List Dl} {ins : List (List Int)} {R : Nat → Nat → Int} {D : Nat → Bool} {now p : Nat} (h : Pass ts L ins R D now p (eqL L).length) : Pass ts L ins R D now (p + 1) 0 :=
  ⟨h.up, fun j hj hr => h.here j hj hj (by omega), fun j hj => by omega⟩

theorem Pass.first {ts : List Tk} {L : List Dl} {ins : List (List Int)} {R : Nat → Nat → Int} {now : Nat} (h : ∀ j k, j < (eqL L).length → k < now → R j k = sol ts L ins j k) : Pass ts L ins R (fun _ => false) now 0 0 :=
  ⟨⟨h, fun j _ hd => by cases hd⟩, fun j _ hr => by omega, fun j hj => by omega⟩

theorem Pass.last {ts : List Tk} {L : List Dl} {ins : List (List Int)} {R : Nat → Nat → Int} {D : Nat → Bool} {now : Nat} (H : Right ts L) (h : Pass ts L ins R D now (eqL L).length 0) : ∀ j k, j < (eqL L).length → k < now + 1 → R j k = sol ts L ins j k := by
  intro j k hj hk
  by_cases h1 : k < now
  · exact h.up.old j k hj h1
  · have e : k = now := by omega
    subst e
    exact h.up.new j hj (h.done j hj (rk_lt H.cyc hj))

end Go.Proofs.YtghomdecppfonaaGreat

/- Plain mathematics: what is a truth is 0 or 1, at every instant. -/
namespace Go.Proofs.YtghomdecppfonaaGreat

def Bit (x : Int) : Prop := x = 0 ∨ x = 1
theorem bit_b2i (b : Bool) : Bit (b2i b) := by cases b <;> simp [Bit, b2i]

theorem or_none {a b : Option Nat} (h : a.or b = none) : a = none ∧ b = none := by cases a <;> simp_all
theorem bad_if {c : Bool} {p : Nat} {x : Option Nat} (h : (if c = true then some p else x) = none) : c = false ∧ x = none := by
  cases c <;> simp_all

theorem w64_id (x : Int) (h1 : -9223372036854775808 ≤ x) (h2 : x < 9223372036854775808) : w64 x = x := by
  unfold w64 Go.RowKit.wrap64
  omega

section
variable {ts : List Tk} (hF : ∀ i, TkF (tkAt ts i)) {L : List Dl}
include hF

theorem lit_bit {i : Nat} (h2 : litT (tkAt ts i) = true) (hb : badR ts L i 116 = false) : Bit (litV (tkAt ts i)) := by
  have hlf : leafT (tkAt ts i) = true := by unfold leafT; rw [h2]; rfl
  have hk1 : (tkAt ts i).kind ≠ 1 := by have := lit_nm hF h2; unfold isNm at this; simpa using this
  by_cases h3 : (tkAt ts i).kind = 3
  · have hi : isR ts L i = 110 := by unfold isR; rw [if_neg hk1, if_pos h3]
    unfold badR at hb; rw [hi] at hb; cases hb
  · unfold litV; rw [if_neg h3]; exact bit_b2i _

omit hF in
theorem op_truth {o : List UInt8} (h : (opOf o).isSome = true) (h2 : opR o = 116) (a b : Int) : Bit (apF o a b) := by
  revert h h2
  unfold opOf
  split; · rename_i e; subst e; intro _ h; exact absurd h (by decide)
  split; · rename_i e; subst e; intro _ h; exact absurd h (by decide)
  split; · rename_i e; subst e; intro _ h; exact absurd h (by decide)
  split; · rename_i e; subst e; intro _ h; exact absurd h (by decide)
  split; · rename_i e; subst e; intro _ _; exact bit_b2i _
  split; · rename_i e; subst e; intro _ _; exact bit_b2i _
  split; · rename_i e; subst e; intro _ _; exact bit_b2i _
  split; · rename_i e; subst e; intro _ _; exact bit_b2i _
  · intro h; cases h

theorem ev_bit {V : List UInt8 → Nat → Int} (hV : ∀ k n, k < ts.length → nameT ts L k = true → Bit (V (lAt ts k) n)) : ∀ (t : Ast) (i n : Nat), Sp ts t i → i + t.len ≤ ts.length → wrongR ts L t i 116 = none → Bit (evT ts V t i n) := by
  intro t
  induction t with
  | leaf =>
    intro i n hs hl h
    simp only [Ast.len] at hl
    simp only [wrongR] at h
    obtain ⟨hb, _⟩ := bad_if h
    unfold evT
    by_cases h1 : (tkAt ts i).kind = 1
    · rw [if_pos h1]
      cases hn : nameT ts L i with
      | true => exact hV i n (by omega) hn
      | false =>
        have hi : isR ts L i = 110 := by unfold isR; rw [if_pos h1, hn]; rfl
        unfold badR at hb; rw [hi] at hb; cases hb
    · rw [if_neg h1]
      have h2 : litT (tkAt ts i) = true := by
        have := hs.1
        unfold leafT at this
        have hk : ((tkAt ts i).kind == 1) = false := by simpa using h1
        rwa [hk, Bool.or_false] at this
      exact lit_bit hF h2 hb
  | neg a iha =>
    intro i n hs hl h
    obtain ⟨h1, h2, h3, h4⟩ := hs
    simp only [Ast.len] at hl
    simp only [wrongR] at h
    have ha := iha (i + 2) n h3 (by omega) (bad_if h).2
    simp only [evT]
    rcases ha with ha | ha <;> rw [ha] <;> simp [Bit, w64, Go.RowKit.wrap64]
  | ite a b c iha ihb ihc =>
    intro i n hs hl h
    obtain ⟨h1, h2, h3, h4, h5, h6⟩ := hs
    simp only [Ast.len] at hl
    simp only [wrongR] at h
    obtain ⟨_, h⟩ := bad_if h
    obtain ⟨_, h⟩ := or_none h
    obtain ⟨hb, hc⟩ := or_none h
    simp only [evT]
    split
    · exact ihb _ n h4 (by omega) hb
    · exact ihc _ n h5 (by omega) hc
  | dly b ihb =>
    intro i n hs hl h
    obtain ⟨h1, h2, h3, h4, h5⟩ := hs
    simp only [Ast.len] at hl
    simp only [wrongR] at h
    obtain ⟨_, h⟩ := bad_if h
    obtain ⟨hb, hc⟩ := or_none h
    cases n with
    | zero => simp only [evT]; exact lit_bit hF h2 (bad_if hb).1
    | succ n => simp only [evT]; exact ihb _ n h4 (by omega) hc
  | bin a b iha ihb =>
    intro i n hs hl h
    obtain ⟨h1, h2, h3, h4, h5⟩ := hs
    obtain ⟨n1, n2⟩ := sp_first hF h2
    simp only [Ast.len] at hl
    simp only [wrongR] at h
    obtain ⟨hb, _⟩ := bad_if h
    have hbh : behindF ts (i + 1) = i + 1 + a.len := behind_sp hF a (i + 1) h2 (by omega)
    have hi : isR ts L i = opR (lAt ts (i + 1 + a.len)) := by rw [isR_open hF h1, if_neg n1, if_neg n2, hbh]
    simp only [evT]
    refine op_truth h3 ?_ _ _
    unfold badR at hb
    rw [hi] at hb
    have hne : lAt ts (i + 1 + a.len) ≠ kFby := fun e => by rw [e] at h3; revert h3; decide
    unfold opR at hb ⊢
    rw [if_neg hne] at hb ⊢
    split at hb
    · cases hb
    · rename_i hx; rw [if_neg hx]

end

theorem nameT_of {ts : List Tk} {L : List Dl} (H : Right ts L) {k : Nat} (h : nameT ts L k = true) : ∃ j x, inIx ts L (lAt ts k) = none ∧ eqIx ts L (lAt ts k) = some j ∧ (eqL L)[j]? = some x ∧ x.kind = 2 := by
  unfold nameT at h
  rw [List.any_eq_true] at h
  obtain ⟨x, hx, h2⟩ := h
  rw [Bool.and_eq_true, beq_iff_eq, beq_iff_eq] at h2
  obtain ⟨j, hj⟩ := ix_some (p := nmIs ts (lAt ts k)) hx (by unfold nmIs; rw [h2.1]; simp)
  obtain ⟨z, hz, hn⟩ := eqIx_some hj
  obtain ⟨m, hm, rfl⟩ := List.getElem_of_mem hx
  have hjm := H.same hz (List.getElem?_eq_getElem hm) (hn.trans h2.1.symm)
  subst hjm
  refine ⟨j, _, ?_, hj, List.getElem?_eq_getElem hm, h2.2⟩
  cases hi : inIx ts L (lAt ts k) with
  | none => rfl
  | some i =>
    exfalso
    obtain ⟨g1, g2, _⟩ := List.findIdx?_eq_some_iff_getElem.1 hi
    have g3 : (nameD ts (inL L)[i]).data.toList = lAt ts k := by simpa [nmIs] using g2
    have m1 := List.mem_filter.1 (List.getElem_mem g1)
    have m2 := List.mem_filter.1 hx
    have e := H.own _ m1.1 _ m2.1 (g3.trans h2.1.symm)
    have hp := H.pw
    have k1 : (inL L)[i].kind = 0 := by simpa using m1.2
    have k2 : (eqL L)[j].kind ≠ 0 := by simpa using m2.2
    obtain ⟨a, ha, ea⟩ := List.getElem_of_mem m1.1
    obtain ⟨b, hb, eb⟩ := List.getElem_of_mem m2.1
    rw [List.pairwise_iff_getElem] at hp
    rw [← ea] at k1 e
    rw [← eb] at k2 e
    rcases Nat.lt_trichotomy a b with h | h | h
    · have := hp a b ha hb h; have := L[a].len_pos; omega
    · subst h; exact k2 k1
    · have := hp b a hb ha h; have := L[b].len_pos; omega

theorem val_bit {ts : List Tk} {L : List Dl} (H : Right ts L) {ins : List (List Int)} {R : Nat → Nat → Int} (hR : ∀ j n x, (eqL L)[j]? = some x → x.kind = 2 → Bit (R j n)) : ∀ k n, k < ts.length → nameT ts L k = true → Bit (valV ts L ins R (lAt ts k) n) := by
  intro k n _ h
  obtain ⟨j, x, h1, h2, h3, h4⟩ := nameT_of H h
  unfold valV
  rw [h1, h2]
  exact hR j n x h3 h4

theorem solF_bit {ts : List Tk} {L : List Dl} (H : Right ts L) (hT : typesR ts L = none) {ins : List (List Int)} : ∀ f j n x, (eqL L)[j]? = some x → x.kind = 2 → Bit (solF ts L ins f j n) := by
  intro f
  induction f with
  | zero => intro j n x _ _; exact .inl rfl
  | succ f ih =>
    intro j n x hx hk
    simp only [solF, bodyV, hx]
    obtain ⟨hs, hl⟩ := H.sp x (List.mem_of_getElem? hx)
    unfold typesR at hT
    rw [List.findSome?_eq_none_iff] at hT
    have hw := hT x (List.mem_of_getElem? hx)
    rw [hk] at hw
    exact ev_bit H.F (val_bit H ih) x.t _ n hs hl hw

theorem sol_bit {ts : List Tk} {L : List Dl} (H : Right ts L) (hT : typesR ts L = none) {ins : List (List Int)} (j n : Nat) (x : Dl) (hx : (eqL L)[j]? = some x) (hk : x.kind = 2) : Bit (sol ts L ins j n) := solF_bit H hT _ j n x hx hk

end Go.Proofs.YtghomdecppfonaaGreat
