import Derived.Test.YtmndgoapkmhglaaA16JudC
import Derived.Test.YtmndgoapkmhglaaA24RefF
import Derived.Test.YtmndgoapkmhglaaA25RefHa
/- Plain mathematics: a right text, by both readers. -/
namespace Go.Proofs.Ytmndgoapkmhglaa

/-- the text's answer, and its parts. -/
theorem text_read (s : ByteArray) (hs : s.size ≤ 1500) :
    (∃ k, k < (toks s).length ∧ textF s = (2, (tkAt (toks s) k).pos) ∧ ∃ n, Ans (toks s) n [80] 0 0 ((tkAt (toks s) k).pos : Int)) ∨
    (∃ L, Spell (toks s) L 0 ∧ (∃ n, Ans (toks s) n [80] 0 0 (-1)) ∧ textF s = readR (toks s) L ∧ ∃ p, parseF s = .ok p ∧ p.decls = declsD (toks s) L 0 0 0 ∧ p.nodes = nodesD (toks s) L 0) := by
  obtain ⟨hok, hbad⟩ := parseA s hs
  unfold textF
  rw [if_neg (by omega)]
  cases hp : parseF s with
  | error k =>
    obtain ⟨h1, h2⟩ := hbad k hp
    exact .inl ⟨k, h1, rfl, h2⟩
  | ok p =>
    obtain ⟨L, h1, h2, h3, h4⟩ := hok p hp
    refine .inr ⟨L, h1, h4, ?_, p, rfl, h2, h3⟩
    show meaningF p.decls (boundN p) = _
    unfold boundN
    rw [h2, h3]
    exact meaning_ref (toks_F s) (toks_pos s) (toks_end s) L h1 (toks_ok s hs).pos

/-- a right text: its parts, and that nothing is wrong with them. -/
structure RGood (s : ByteArray) (L : List Dl) : Prop where
  many : manyR (toks s) L = none
  names : namesR (toks s) L = none
  types : typesR (toks s) L = none
  cyc : cycR (toks s) L = none
  lp : lpR (toks s) L = none
  sp : Spell (toks s) L 0
  parse : ∃ p, parseF s = .ok p ∧ p.decls = declsD (toks s) L 0 0 0 ∧ p.nodes = nodesD (toks s) L 0

theorem spell_lt {ts : List Tk} : ∀ (L : List Dl) (i : Nat), Spell ts L i → L.Pairwise (fun x y => x.i + x.len ≤ y.i) := by
  intro L
  induction L with
  | nil => intro i _; exact List.Pairwise.nil
  | cons x r ih =>
    intro i h
    obtain ⟨_, h2, _, _, _, h6⟩ := spell_mid (L2 := r) [] i h
    exact List.Pairwise.cons h2 (ih _ h6)

end Go.Proofs.Ytmndgoapkmhglaa

/- Plain mathematics: of a right text every name is known, and known once; the passes of the document's own answer. -/
namespace Go.Proofs.Ytmndgoapkmhglaa

theorem names_at {ts : List Tk} {L : List Dl} (h : namesR ts L = none) {k : Nat} (hk : k < ts.length) (hn : isNm ts k = true) : (hereR L k = true → aheadR ts L k = false) ∧ someR ts L k = true := by
  unfold namesR at h
  rw [Option.map_eq_none_iff, List.find?_eq_none] at h
  have := h k (by rw [List.mem_range'_1]; omega)
  unfold badNm qNm at this
  rw [hn] at this
  simp at this
  exact this

/-- what is known of a right text. -/
structure Right (ts : List Tk) (L : List Dl) : Prop extends Eqs ts L where
  own : ∀ x ∈ L, ∀ y ∈ L, (nameD ts x).data.toList = (nameD ts y).data.toList → x.i = y.i
  decl : ∀ k, k < ts.length → isNm ts k = true → ∃ x ∈ L, (nameD ts x).data.toList = lAt ts k
  pw : L.Pairwise (fun x y => x.i + x.len ≤ y.i)
  few : (eqL L).length ≤ 12 ∧ (inL L).length ≤ 4

theorem less_none {a b : Option Nat} (h : less a b = none) : a = none ∧ b = none := by
  cases a <;> cases b <;> simp_all [less]

theorem right_of {ts : List Tk} {L : List Dl} (hF : ∀ i, TkF (tkAt ts i)) (hs : Spell ts L 0) (hm : manyR ts L = none) (hn : namesR ts L = none) (hc : cycR ts L = none) : Right ts L := by
  have hmem := fun x hx => (spell_mem L 0 hs x hx).2
  have hnm : ∀ x ∈ L, x.i + 1 < ts.length ∧ isNm ts (x.i + 1) = true := fun x hx => by
    obtain ⟨h1, h2⟩ := hmem x hx
    have := x.len_pos
    refine ⟨by omega, ?_⟩
    unfold isNm
    rcases h2 with ⟨_, _, h, _⟩ | ⟨_, h, _⟩ <;> rw [h] <;> rfl
  have hown : ∀ x ∈ L, ∀ y ∈ L, (nameD ts x).data.toList = (nameD ts y).data.toList → ¬ x.i < y.i := fun x hx y hy he hlt => by
    obtain ⟨h1, h2⟩ := hnm y hy
    have h3 := (names_at hn h1 h2).1 (by unfold hereR; rw [List.any_eq_true]; exact ⟨y, hy, by simp⟩)
    unfold aheadR at h3
    rw [List.any_eq_false] at h3
    refine h3 x hx ?_
    simp only [Bool.and_eq_true, beq_iff_eq, decide_eq_true_eq]
    exact ⟨he, by omega⟩
  have hmany := less_none hm
  refine { F := hF, sp := fun x hx => ?_, cyc := hc, own := fun x hx y hy he => ?_, decl := fun k hk h => ?_, pw := spell_lt L 0 hs, few := ⟨?_, ?_⟩ }
  · have hm' := List.mem_filter.1 hx
    have hk : x.kind ≠ 0 := by simpa using hm'.2
    obtain ⟨h1, h2⟩ := hmem x hm'.1
    have hl : x.len = x.t.len + 6 := by unfold Dl.len; rw [if_neg hk]
    rcases h2 with ⟨h, _⟩ | ⟨_, _, _, _, _, h, _⟩
    · exact absurd h hk
    · exact ⟨h, by omega⟩
  · have a := hown x hx y hy he
    have b := hown y hy x hx he.symm
    omega
  · have h3 := (names_at hn hk h).2
    unfold someR at h3
    rw [List.any_eq_true] at h3
    obtain ⟨x, hx, he⟩ := h3
    exact ⟨x, hx, by simpa using he⟩
  · have := hmany.1
    rw [Option.map_eq_none_iff, List.getElem?_eq_none_iff] at this
    exact this
  · have := hmany.2
    rw [Option.map_eq_none_iff, List.getElem?_eq_none_iff] at this
    exact this

theorem nms_lt {ts : List Tk} (t : Ast) (i : Nat) : ∀ j ∈ nms ts t i, i ≤ j ∧ j < i + t.len := by
  intro j hj
  rw [nms_nmD ts t i false] at hj
  obtain ⟨x, hx, rfl⟩ := List.mem_map.1 hj
  exact nm_in t i false x hx

theorem nms_nm {ts : List Tk} : ∀ (t : Ast) (i : Nat), ∀ j ∈ nms ts t i, isNm ts j = true := by
  intro t
  induction t with
  | leaf =>
    intro i j h
    unfold nms at h
    split at h
    · rename_i hk; simp at h; rw [h]; unfold isNm; rw [hk]; rfl
    · simp at h
  | neg a iha => intro i j h; exact iha _ j h
  | ite a b c iha ihb ihc =>
    intro i j h
    simp only [nms, List.mem_append] at h
    exact h.elim (iha _ j) (fun h => h.elim (ihb _ j) (ihc _ j))
  | dly b ihb => intro i j h; exact ihb _ j h
  | bin a b iha ihb =>
    intro i j h
    simp only [nms, List.mem_append] at h
    exact h.elim (iha _ j) (ihb _ j)

theorem ix_some {l : List Dl} {p : Dl → Bool} {x : Dl} (hx : x ∈ l) (hp : p x = true) : ∃ j, l.findIdx? p = some j := by
  cases h : l.findIdx? p with
  | some j => exact ⟨j, rfl⟩
  | none => rw [List.findIdx?_eq_none_iff] at h; rw [h x hx] at hp; cases hp

theorem Right.find {ts : List Tk} {L : List Dl} (H : Right ts L) {k : Nat} (hk : k < ts.length) (hn : isNm ts k = true) : (∃ i, inIx ts L (lAt ts k) = some i) ∨ (∃ j, eqIx ts L (lAt ts k) = some j) := by
  obtain ⟨x, hx, he⟩ := H.decl k hk hn
  have hp : nmIs ts (lAt ts k) x = true := by unfold nmIs; rw [he]; simp
  by_cases h0 : x.kind = 0
  · exact .inl (ix_some (List.mem_filter.2 ⟨hx, by rw [h0]; rfl⟩) hp)
  · exact .inr (ix_some (List.mem_filter.2 ⟨hx, by simpa using h0⟩) hp)

/-- two equations of one name are one. -/
theorem Right.same {ts : List Tk} {L : List Dl} (H : Right ts L) {i j : Nat} {x y : Dl} (hx : (eqL L)[i]? = some x) (hy : (eqL L)[j]? = some y) (he : (nameD ts x).data.toList = (nameD ts y).data.toList) : i = j := by
  have mx : x ∈ L := (List.mem_filter.1 (List.mem_of_getElem? hx)).1
  have my : y ∈ L := (List.mem_filter.1 (List.mem_of_getElem? hy)).1
  have hi := H.own x mx y my he
  obtain ⟨h1, rfl⟩ := List.getElem?_eq_some_iff.1 hx
  obtain ⟨h2, rfl⟩ := List.getElem?_eq_some_iff.1 hy
  have hp : (eqL L).Pairwise (fun x y => x.i + x.len ≤ y.i) := H.pw.filter _
  rw [List.pairwise_iff_getElem] at hp
  rcases Nat.lt_trichotomy i j with h | h | h
  · have := hp i j h1 h2 h; have := (eqL L)[i].len_pos; omega
  · exact h
  · have := hp j i h2 h1 h; have := (eqL L)[j].len_pos; omega

/-- a name's value, as far as it is known. -/
def knR (ts : List Tk) (L : List Dl) (ins : List (List Int)) (R : Nat → Nat → Int) (D : Nat → Bool) (now : Nat) (w : List UInt8) (n : Nat) : Int × Bool :=
  match inIx ts L w with
  | some i => (elemF ins i n, true)
  | none => match eqIx ts L w with
    | some j => if decide (n < now) || D j then (R j n, true) else (0, false)
    | none => (0, false)

/-- how far the rows have come. -/
structure UpTo (ts : List Tk) (L : List Dl) (ins : List (List Int)) (R : Nat → Nat → Int) (D : Nat → Bool) (now : Nat) : Prop where
  old : ∀ j k, j < (eqL L).length → k < now → R j k = sol ts L ins j k
  new : ∀ j, j < (eqL L).length → D j = true → R j now = sol ts L ins j now

theorem inst_val {ts : List Tk} {L : List Dl} {ins : List (List Int)} {R : Nat → Nat → Int} {D : Nat → Bool} {now : Nat} (H : Right ts L) (h : UpTo ts L ins R D now) (j : Nat) (hj : j < (eqL L).length)
    (hk : (evR ts (knR ts L ins R D now) (eqL L)[j].t ((eqL L)[j].i + 5) now).2 = true) : (evR ts (knR ts L ins R D now) (eqL L)[j].t ((eqL L)[j].i + 5) now).1 = sol ts L ins j now := by
  rw [sol_eq H.toEqs j now hj]
  refine evR_val ts _ _ _ (fun w n' hn hw => ?_) hk
  unfold knR at hw ⊢
  unfold valV
  cases hi : inIx ts L w with
  | some i => rfl
  | none =>
    simp only [hi] at hw ⊢
    cases he : eqIx ts L w with
    | none => simp only [he] at hw; cases hw
    | some l =>
      simp only [he] at hw ⊢
      obtain ⟨z, hz, _⟩ := eqIx_some he
      have hlt : l < (eqL L).length := (List.getElem?_eq_some_iff.1 hz).1
      split at hw
      · rename_i hc
        rw [if_pos hc]
        show R l n' = _
        by_cases h1 : n' < now
        · exact h.old l n' hlt h1
        · have e : n' = now := by omega
          subst e
          have hd : D l = true := by simpa using hc
          exact h.new l hlt hd
      · cases hw

theorem inst_known {ts : List Tk} {L : List Dl} {ins : List (List Int)} {R : Nat → Nat → Int} {D : Nat → Bool} {now : Nat} (H : Right ts L) (j : Nat) (hj : j < (eqL L).length)
    (hd : ∀ l, l < (eqL L).length → relR ts L j l = true → D l = true) : (evR ts (knR ts L ins R D now) (eqL L)[j].t ((eqL L)[j].i + 5) now).2 = true := by
  have hx : (eqL L)[j]? = some (eqL L)[j] := List.getElem?_eq_getElem hj
  obtain ⟨hs, hl⟩ := H.sp (eqL L)[j] (List.getElem_mem hj)
  have hex : ∀ k ∈ nms ts (eqL L)[j].t ((eqL L)[j].i + 5), (∃ i, inIx ts L (lAt ts k) = some i) ∨ (∃ l, eqIx ts L (lAt ts k) = some l) := fun k hk => by
    have := nms_lt _ _ k hk
    exact H.find (by omega) (nms_nm _ _ k hk)
  refine evR_known ts _ _ _ (fun k hk => ?_) (fun k hk n' hn => ?_)
  · unfold knR
    cases hi : inIx ts L (lAt ts k) with
    | some i => rfl
    | none =>
      rcases hex k (und_nms ts _ _ k hk) with ⟨i, h⟩ | ⟨l, h⟩
      · rw [hi] at h; cases h
      · simp only [h]
        obtain ⟨z, hz, _⟩ := eqIx_some h
        rw [hd l (List.getElem?_eq_some_iff.1 hz).1 (rel_und H.F hx hs hl hk h)]
        simp
  · unfold knR
    cases hi : inIx ts L (lAt ts k) with
    | some i => rfl
    | none =>
      rcases hex k hk with ⟨i, h⟩ | ⟨l, h⟩
      · rw [hi] at h; cases h
      · simp only [h]
        rw [decide_eq_true hn]
        simp

/-- where the passes over an instant stand: behind so many passes, and so many equations of this one. -/
structure Pass (ts : List Tk) (L : List Dl) (ins : List (List Int)) (R : Nat → Nat → Int) (D : Nat → Bool) (now p i : Nat) : Prop where
  up : UpTo ts L ins R D now
  done : ∀ j, j < (eqL L).length → rk ts L j < p → D j = true
  here : ∀ j, j < i → j < (eqL L).length → rk ts L j ≤ p → D j = true

def setR (R : Nat → Nat → Int) (a b : Nat) (v : Int) : Nat → Nat → Int := fun i k => if i = a ∧ k = b then v else R i k
def setD (D : Nat → Bool) (a : Nat) (v : Bool) : Nat → Bool := fun i => if i = a then v else D i

theorem Pass.skip {ts : List Tk} {L : List Dl} {ins : List (List Int)} {R : Nat → Nat → Int} {D : Nat → Bool} {now p i : Nat} (h : Pass ts L ins R D now p i) (hd : D i = true) : Pass ts L ins R D now p (i + 1) :=
  ⟨h.up, h.done, fun j hj hj' hr => by
    by_cases e : j = i
    · rw [e]; exact hd
    · exact h.here j (by omega) hj' hr⟩

theorem Pass.next {ts : List Tk} {L : List Dl} {ins : List (List Int)} {R : Nat → Nat → Int} {D : Nat → Bool} {now p i : Nat} (H : Right ts L) (h : Pass ts L ins R D now p i) (hi : i < (eqL L).length) (hd : D i = false) :
    Pass ts L ins (setR R i now (evR ts (knR ts L ins R D now) (eqL L)[i].t ((eqL L)[i].i + 5) now).1) (setD D i (evR ts (knR ts L ins R D now) (eqL L)[i].t ((eqL L)[i].i + 5) now).2) now p (i + 1) := by
  refine ⟨⟨fun j k hj hk => ?_, fun j hj hD => ?_⟩, fun j hj hr => ?_, fun j hj hj' hr => ?_⟩
  · unfold setR; rw [if_neg (by omega)]; exact h.up.old j k hj hk
  · unfold setD at hD
    by_cases e : j = i
    · subst e
      rw [if_pos rfl] at hD
      unfold setR
      rw [if_pos ⟨rfl, rfl⟩]
      exact inst_val H h.up j hj hD
    · rw [if_neg e] at hD
      unfold setR
      rw [if_neg (by omega)]
      exact h.up.new j hj hD
  · unfold setD
    by_cases e : j = i
    · subst e; rw [h.done j hj hr] at hd; cases hd
    · rw [if_neg e]; exact h.done j hj hr
  · unfold setD
    by_cases e : j = i
    · subst e
      rw [if_pos rfl]
      refine inst_known H j hj' (fun l hl hrel => h.done l hl ?_)
      have := rk_less H.cyc hl hrel
      omega
    · rw [if_neg e]; exact h.here j (by omega) hj' hr

theorem Pass.over {ts : List Tk} {L : List Dl} {ins : List (List Int)} {R : Nat → Nat → Int} {D : Nat → Bool} {now p : Nat} (h : Pass ts L ins R D now p (eqL L).length) : Pass ts L ins R D now (p + 1) 0 :=
  ⟨h.up, fun j hj hr => h.here j hj hj (by omega), fun j hj => by omega⟩

theorem Pass.first {ts : List Tk} {L : List Dl} {ins : List (List Int)} {R : Nat → Nat → Int} {now : Nat} (h : ∀ j k, j < (eqL L).length → k < now → R j k = sol ts L ins j k) : Pass ts L ins R (fun _ => false) now 0 0 :=
  ⟨⟨h, fun j _ hd => by cases hd⟩, fun j _ hr => by omega, fun j hj => by omega⟩

theorem Pass.last {ts : List Tk} {L : List Dl} {ins : List (List Int)} {R : Nat → Nat → Int} {D : Nat → Bool} {now : Nat} (H : Right ts L) (h : Pass ts L ins R D now (eqL L).length 0) : ∀ j k, j < (eqL L).length → k < now + 1 → R j k = sol ts L ins j k := by
  intro j k hj hk
  by_cases h1 : k < now
  · exact h.up.old j k hj h1
  · have e : k = now := by omega
    subst e
    exact h.up.new j hj (h.done j hj (rk_lt H.cyc hj))

end Go.Proofs.Ytmndgoapkmhglaa

/- Plain mathematics: scripts. An act is four numbers: its place k, its time a, its delays b and c. -/
namespace Go.Proofs.Ytmndgoapkmhglaa
open Go.RowKit

/-- act i of a script. -/
def actF (sc : List OpF) (i : Nat) : OpF := (sc[i]?).getD ⟨0, 0, 0, 0⟩
theorem actF_get {sc : List OpF} {i : Nat} (h : i < sc.length) : sc[i] = actF sc i := by simp [actF, h]
/-- the next act of the same place from act k on, or -1. -/
def laterG (sc : List OpF) (i : Nat) : Nat → Nat → Int
  | 0, _ => -1
  | f + 1, k => if (actF sc k).k = (actF sc i).k then (k : Int) else laterG sc i f (k + 1)
def laterF (sc : List OpF) (i : Nat) : Int := laterG sc i (sc.length - (i + 1)) (i + 1)
/-- is none of the first k acts of the same place? -/
def firstG (sc : List OpF) (i k : Nat) : Bool := (List.range k).all fun k => (actF sc k).k != (actF sc i).k
def firstF (sc : List OpF) (i : Nat) : Bool := firstG sc i i
theorem later_step {sc : List OpF} {i k : Nat} (h : k < sc.length) : laterG sc i (sc.length - k) k = if (actF sc k).k = (actF sc i).k then (k : Int) else laterG sc i (sc.length - (k + 1)) (k + 1) := by
  rw [show sc.length - k = (sc.length - (k + 1)) + 1 by omega]
  rfl
theorem all_step {m : Nat} {p : Nat → Bool} (h : (List.range m).all p = true) (hp : p m = true) : (List.range (m + 1)).all p = true := by
  rw [List.range_succ, List.all_append, h, List.all_cons, hp]; rfl
theorem all_fail {m n : Nat} {p : Nat → Bool} (hm : m < n) (hp : p m = false) : (List.range n).all p = false := by
  rw [List.all_eq_false]
  exact ⟨m, List.mem_range.2 hm, by rw [hp]; simp⟩

theorem later_range (sc : List OpF) (i : Nat) : ∀ (f k : Nat), i < k → k + f = sc.length → laterG sc i f k = -1 ∨ ∃ j : Nat, laterG sc i f k = (j : Int) ∧ i < j ∧ j < sc.length := by
  intro f
  induction f with
  | zero => intro k _ _; exact .inl rfl
  | succ f ih =>
    intro k hk hl
    unfold laterG
    split
    · exact .inr ⟨k, rfl, hk, by omega⟩
    · exact ih (k + 1) (by omega) (by omega)

/-- the first m equations that lie at a place, by their numbers. -/
def atG (ts : List Tk) (L : List Dl) (pl : Int) (m : Nat) : List Nat := (List.range m).filter fun i => (((eqL L)[i]?).map fun x => ((placeD ts x : Nat) : Int) == pl) == some true
def atR (ts : List Tk) (L : List Dl) (pl : Int) : List Nat := atG ts L pl (eqL L).length
theorem atG_len (ts : List Tk) (L : List Dl) (pl : Int) (m : Nat) : (atG ts L pl m).length ≤ m := by
  have := List.length_filter_le (fun i => (((eqL L)[i]?).map fun x => ((placeD ts x : Nat) : Int) == pl) == some true) (List.range m)
  rwa [List.length_range] at this
theorem atG_hit {ts : List Tk} {L : List Dl} {pl : Int} {m : Nat} (hm : m < (eqL L).length) (h : ((placeD ts ((eqL L)[m]) : Nat) : Int) = pl) : atG ts L pl (m + 1) = atG ts L pl m ++ [m] := by
  unfold atG
  rw [List.range_succ, List.filter_append]
  congr 1
  simp [hm, h]
theorem atG_miss {ts : List Tk} {L : List Dl} {pl : Int} {m : Nat} (hm : m < (eqL L).length) (h : ((placeD ts ((eqL L)[m]) : Nat) : Int) ≠ pl) : atG ts L pl (m + 1) = atG ts L pl m := by
  unfold atG
  rw [List.range_succ, List.filter_append]
  simp [hm, h]

/-- is an act ahead of the one before it? -/
def backA (sc : List OpF) : Nat → Bool
  | 0 => false
  | i + 1 => decide ((actF sc (i + 1)).a < (actF sc i).a)
/-- does a delay reach the next act of the place? -/
def overA (sc : List OpF) (i : Nat) : Bool :=
  decide (0 ≤ laterF sc i) && (decide (IntKind.i64.wrap ((actF sc (laterF sc i).toNat).a - (actF sc i).a) ≤ (actF sc i).b) || decide (IntKind.i64.wrap ((actF sc (laterF sc i).toNat).a - (actF sc i).a) ≤ (actF sc i).c))
def badA (ts : List Tk) (L : List Dl) (sc : List OpF) (i : Nat) : Bool :=
  (atR ts L (actF sc i).k).isEmpty || decide ((actF sc i).a < 0) || decide (1099511627776 < (actF sc i).a) || backA sc i || decide ((actF sc i).b < 0) || decide (1099511627776 < (actF sc i).b) || decide ((actF sc i).c < 0) || decide (1099511627776 < (actF sc i).c) || overA sc i
def playF (ts : List Tk) (L : List Dl) (sc : List OpF) : Bool := decide (sc.length ≤ 400) && (List.range sc.length).all fun i => !badA ts L sc i

/-- is there a chain of n waits that begins here? -/
def aheadF (M : Mx) : Nat → Nat → Bool
  | _, 0 => true
  | i, n + 1 => (List.range 4).any fun q => M i q && aheadF M q n

/-- the longest chain of waits, up to one of n. -/
def dUp (M : Mx) : Nat → Nat
  | 0 => 0
  | n + 1 => if (List.range 4).any (fun q => aheadF M q (n + 1)) then n + 1 else dUp M n
theorem dUp_le (M : Mx) (n : Nat) : dUp M n ≤ n := by
  induction n with
  | zero => exact Nat.le_refl _
  | succ n ih => unfold dUp; split <;> omega

/-- bounds. -/
structure BdF where
  tmin : Int
  tmax : Int
  dmin : Int
  dmax : Int
abbrev BdF.val (b : BdF) : Value := .agg #[.int .i64 b.tmin, .int .i64 b.tmax, .int .i64 b.dmin, .int .i64 b.dmax]
def fitF (b : BdF) : Bool := !decide (b.tmin < 1) && !decide (b.tmax < b.tmin) && !decide (1000000 < b.tmax) && decide (0 ≤ b.dmin) && decide (b.dmin ≤ b.dmax) && decide (b.dmax < b.tmin)


end Go.Proofs.Ytmndgoapkmhglaa

/- Plain mathematics: nothing is ever stuck. -/
namespace Go.Proofs.Ytmndgoapkmhglaa

theorem did_app (P Q : PastF) (pl what now : Int) (data : Bool) : didF (P ++ Q) pl what now data = didF P pl what now data + didF Q pl what now data := by
  unfold didF; rw [List.filter_append, List.length_append]
theorem cnt_app (P Q : PastF) (pl what : Int) : cntF (P ++ Q) pl what = cntF P pl what + cntF Q pl what := by
  unfold cntF; rw [List.filter_append, List.length_append]
theorem did_none {S : PastF} {x : Int} (h : ∀ y ∈ S, x < y.2.a) (pl what : Int) : didF S pl what x false = 0 := by
  unfold didF
  rw [List.length_eq_zero_iff, List.filter_eq_nil_iff]
  intro y hy
  have := h y hy
  simp only [Bool.and_eq_true, decide_eq_true_eq, Bool.false_eq_true, if_false]
  omega
theorem taken_none {x : Int} (l : Nat) : ∀ {S : PastF}, (∀ y ∈ S, x < y.2.a) → takenF x l false S = 0 := by
  intro S
  induction S with
  | nil => intro _; rfl
  | cons y S ih =>
    intro h
    have := h y (by simp)
    simp only [takenF]
    rw [if_neg (by simp; omega), ih (fun z hz => h z (List.mem_cons_of_mem _ hz))]
theorem did_mono {P : PastF} {x y : Int} (h : x ≤ y) (pl what : Int) : didF P pl what x false ≤ didF P pl what y false := by
  refine past_ind (p := fun P => didF P pl what x false ≤ didF P pl what y false) (by simp [didF]) (fun P z ih => ?_) P
  rw [didF_snoc, didF_snoc]
  have : (if (isD pl what z && decide (z.2.a + (if false = true then z.1.c else 0) ≤ x)) = true then 1 else 0) ≤ if (isD pl what z && decide (z.2.a + (if false = true then z.1.c else 0) ≤ y)) = true then 1 else 0 := by
    simp only [Bool.false_eq_true, if_false]
    cases isD pl what z with
    | false => simp
    | true =>
      simp only [Bool.true_and, decide_eq_true_eq]
      by_cases h1 : z.2.a + 0 ≤ x
      · rw [if_pos h1, if_pos (by omega)]; exact Nat.le_refl _
      · rw [if_neg h1]; exact Nat.zero_le _
  omega
theorem taken_mono {x y : Int} (h : x ≤ y) (l : Nat) : ∀ (P : PastF), takenF x l false P ≤ takenF y l false P := by
  intro P
  induction P with
  | nil => exact Nat.le_refl _
  | cons z P ih =>
    simp only [takenF, Bool.false_eq_true, if_false]
    by_cases h1 : z.2.a + 0 ≤ x
    · rw [if_pos h1, if_pos (by omega)]; omega
    · rw [if_neg h1]; omega

/-- if all that was taken was taken by a time, it is known soon behind it. -/
theorem known_le {Dm y : Int} (hy : 0 ≤ y + Dm) (l : Nat) : ∀ P : PastF, (∀ x ∈ P, x.1.b ≤ Dm) → tkF l P ≤ takenF y l false P → knownF l P 0 ≤ y + Dm := by
  refine past_ind (fun _ _ => hy) (fun P x ih hb h => ?_)
  have hb' : ∀ z ∈ P, z.1.b ≤ Dm := fun z hz => hb z (List.mem_append_left _ hz)
  rw [tkF_app, takenF_app] at h
  simp only [tkF, takenF, Nat.add_zero, Bool.false_eq_true, if_false, Int.add_zero] at h
  have h1 := taken_le y l false P
  rw [knownF_app]
  simp only [knownF]
  by_cases hm : l ∈ x.2.took
  · have hc : 0 < x.2.took.count l := List.count_pos_iff.2 hm
    rw [if_pos hm]
    by_cases hx : x.2.a ≤ y
    · have := hb x (by simp); omega
    · rw [if_neg hx] at h; omega
  · rw [if_neg hm]
    refine ih hb' ?_
    have hc : x.2.took.count l = 0 := List.count_eq_zero.2 hm
    rw [hc] at h
    split at h <;> omega
theorem comes_le {Dm y : Int} (hy : 0 ≤ y + Dm) (pl : Int) : ∀ P : PastF, (∀ x ∈ P, x.1.c ≤ Dm) → cntF P pl 2 ≤ didF P pl 2 y false → comesF pl P 0 ≤ y + Dm := by
  refine past_ind (fun _ _ => hy) (fun P x ih hb h => ?_)
  have hb' : ∀ z ∈ P, z.1.c ≤ Dm := fun z hz => hb z (List.mem_append_left _ hz)
  rw [cntF_snoc, didF_snoc] at h
  simp only [Bool.false_eq_true, if_false, Int.add_zero] at h
  have h1 := did_le P pl 2 y false
  rw [comesF_app]
  simp only [comesF]
  cases hm : isD pl 2 x with
  | true =>
    rw [if_pos rfl]
    rw [hm] at h
    simp only [Bool.true_and, if_true] at h
    by_cases hx : x.2.a ≤ y
    · have := hb x (by simp); omega
    · rw [if_neg (by simpa using hx)] at h; omega
  | false =>
    rw [if_neg (by simp)]
    rw [hm] at h
    simp at h
    exact ih hb' h

section
variable {N : List LnF} {V : Int → Nat → List Int} {P : PastF} {a : OpF} (hO : PastOk N P a.a) (hI : RunInv N P)
include hO hI

/-- it publishes. -/
theorem go_publish {k : Nat} (h1 : k + 1 ≤ cntF P a.k 1) (h2 : ∀ l, l < N.length → (lnAt N l).src = a.k → k ≤ tkF l P ∧ (tkF l P ≤ k → knownF l P 0 ≤ a.a)) : k + 1 ≤ cntF (P ++ [(a, wakeF N V P a)]) a.k 2 := by
  rw [cnt_next]
  by_cases hd : k + 1 ≤ cntF P a.k 2
  · omega
  · have ht := hI.turn a.k
    have e2 : cntF P a.k 2 = k := by omega
    have e1 : cntF P a.k 1 = k + 1 := by omega
    have hnr : ¬ readyF N P a = true := fun hr => by have := ((ready_iff hO hI).1 hr).1; omega
    have hf : freeF N P a = true := by
      rw [free_iff hO hI]
      refine ⟨by omega, fun l hl hs => ?_⟩
      obtain ⟨g1, g2⟩ := h2 l hl hs
      have := (hI.sent l hl).1
      rw [hs] at this
      have e : tkF l P = k := by omega
      exact ⟨by omega, .inl (g2 (by omega))⟩
    rcases did_cases N V P a with ⟨hr, _⟩ | ⟨_, _, hd⟩ | ⟨_, hf', _⟩
    · exact absurd hr hnr
    · rw [hd, if_pos ⟨rfl, rfl⟩]; omega
    · rw [hf] at hf'; cases hf'

/-- it takes. -/
theorem go_take {m l : Nat} (hl : l < N.length) (hd : (lnAt N l).dst = a.k) (h1 : m ≤ cntF P (lnAt N l).src 2) (h2 : cntF P (lnAt N l).src 2 ≤ m → comesF (lnAt N l).src P 0 ≤ a.a) (h3 : m + lateN N l ≤ cntF P a.k 1 + 1) : m ≤ tkF l P + (if canF N P a l = true then 1 else 0) := by
  by_cases hm : m ≤ tkF l P
  · omega
  · have hs := hI.sent l hl
    have hsl := hI.slot l hl
    rw [hd] at hsl
    have hc : canF N P a l = true := by
      rw [can_iff hO hI hl]
      exact ⟨hd, by omega, h2 (by omega), by omega⟩
    rw [if_pos hc]; omega

/-- it steps. -/
theorem go_step {k : Nat} (h1 : k ≤ cntF P a.k 2) (h2 : ∀ l, l < N.length → (lnAt N l).dst = a.k → k + 1 ≤ tkF l P + (if canF N P a l = true then 1 else 0) + lateN N l) : k + 1 ≤ cntF (P ++ [(a, wakeF N V P a)]) a.k 1 := by
  rw [cnt_next]
  by_cases hd : k + 1 ≤ cntF P a.k 1
  · omega
  · have ht := hI.turn a.k
    have hr : readyF N P a = true := by
      rw [ready_iff hO hI]
      refine ⟨by omega, fun l hl hs => ?_⟩
      have g := h2 l hl hs
      have hsl := hI.slot l hl
      rw [hs] at hsl
      by_cases hc : canF N P a l = true
      · have := ((can_iff hO hI hl).1 hc).2.2.2
        rw [if_pos hc] at g ⊢; omega
      · rw [if_neg hc] at g ⊢; omega
    rcases did_cases N V P a with ⟨_, hd⟩ | ⟨hr', _, _⟩ | ⟨hr', _, _⟩
    · rw [hd, if_pos ⟨rfl, rfl⟩]; omega
    · rw [hr] at hr'; cases hr'
    · rw [hr] at hr'; cases hr'

end

theorem run_app (N : List LnF) (V : Int → Nat → List Int) : ∀ (s t : List OpF) (P : PastF), runG N V P (s ++ t) = runG N V (runG N V P s) t := by
  intro s
  induction s with
  | nil => intro t P; rfl
  | cons a s ih => intro t P; exact ih t _
theorem run_ext (N : List LnF) (V : Int → Nat → List Int) : ∀ (t : List OpF) (P : PastF), ∃ S, runG N V P t = P ++ S ∧ S.map Prod.fst = t ∧ ∀ x ∈ S, x.2.a = x.1.a := by
  intro t
  induction t with
  | nil => intro P; exact ⟨[], by simp [runG], rfl, fun x hx => by simp at hx⟩
  | cons a t ih =>
    intro P
    obtain ⟨S, h1, h2, h3⟩ := ih (P ++ [(a, wakeF N V P a)])
    refine ⟨(a, wakeF N V P a) :: S, ?_, by simp [h2], fun x hx => ?_⟩
    · show runG N V (P ++ [(a, wakeF N V P a)]) t = _
      rw [h1]; simp
    · rcases List.mem_cons.1 hx with rfl | hx
      · rfl
      · exact h3 x hx

/-- an act of a script that is played: what is there ahead of it, and behind it. -/
structure AtAct (N : List LnF) (V : Int → Nat → List Int) (sc : List OpF) (R : PastF) (a : OpF) (P : PastF) : Prop where
  ok : PastOk N P a.a
  inv : RunInv N P
  did0 : ∀ x, x < a.a → ∀ pl what, didF R pl what x false ≤ cntF P pl what
  tk0 : ∀ x, x < a.a → ∀ l, takenF x l false R ≤ tkF l P
  didP : ∀ x, x < a.a → ∀ pl what, didF P pl what x false = didF R pl what x false
  tkP : ∀ x, x < a.a → ∀ l, takenF x l false P = takenF x l false R
  did1 : ∀ pl what, cntF (P ++ [(a, wakeF N V P a)]) pl what ≤ didF R pl what a.a false
  tk1 : ∀ l, l < N.length → tkF l P + (if canF N P a l = true then 1 else 0) ≤ takenF a.a l false R
  mem : ∀ x ∈ P, x.1 ∈ sc

theorem at_act {N : List LnF} (hA : Apart N) (V : Int → Nat → List Int) {sc : List OpF} (hS : ActsOk sc) {a : OpF} (ha : a ∈ sc) : ∃ P, AtAct N V sc (runG N V [] sc) a P := by
  obtain ⟨s, t, rfl⟩ := List.append_of_mem ha
  have hg := List.pairwise_append.1 hS.gap
  have hind := run_ind hA V (p := fun _ => True) (fun _ _ _ _ _ _ => trivial) s [] (fun x hx => hS.nn x (List.mem_append_left _ hx)) (by simpa using hg.1) (fun t _ => past_start N t) (inv_start N) trivial
  obtain ⟨S0, f1, f2, f3⟩ := run_ext N V s []
  rw [List.nil_append] at f1
  have hPm : ∀ x ∈ runG N V [] s, x.1 ∈ s := fun x hx => by rw [← f2, ← f1]; exact List.mem_map.2 ⟨x, hx, rfl⟩
  have hle : ∀ x ∈ runG N V [] s, x.1.a ≤ a.a := fun x hx => (hg.2.2 x.1 (hPm x hx) a (by simp)).1
  obtain ⟨S, e1, e2, e3⟩ := run_ext N V t (runG N V [] s ++ [(a, wakeF N V (runG N V [] s) a)])
  have hR : runG N V [] (s ++ a :: t) = runG N V [] s ++ ([(a, wakeF N V (runG N V [] s) a)] ++ S) := by
    rw [run_app]
    show runG N V (runG N V [] s ++ [(a, wakeF N V (runG N V [] s) a)]) t = _
    rw [e1, List.append_assoc]
  have hlate : ∀ x, x < a.a → ∀ y ∈ [(a, wakeF N V (runG N V [] s) a)] ++ S, x < y.2.a := fun x hx y hy => by
    rcases List.mem_append.1 hy with hy | hy
    · rw [List.mem_singleton] at hy; subst hy; exact hx
    · have hyt : y.1 ∈ t := by rw [← e2]; exact List.mem_map.2 ⟨y, hy, rfl⟩
      have h2 := ((List.pairwise_cons.1 hg.2.1).1 y.1 hyt).1
      rw [e3 y hy]; omega
  have hO := hind.2.2 a.a hle
  refine ⟨runG N V [] s, hO, hind.2.1, ?_, ?_, ?_, ?_, ?_, ?_, ?_⟩
  · intro x hx pl what
    rw [hR, did_app, did_none (hlate x hx)]
    have := did_le (runG N V [] s) pl what x false
    omega
  · intro x hx l
    rw [hR, takenF_app, taken_none l (hlate x hx)]
    have := taken_le x l false (runG N V [] s)
    omega
  · intro x hx pl what
    rw [hR, did_app, did_none (hlate x hx)]; rfl
  · intro x hx l
    rw [hR, takenF_app, taken_none l (hlate x hx)]; rfl
  · intro pl what
    rw [hR, ← List.append_assoc, did_app]
    have h1 : didF (runG N V [] s ++ [(a, wakeF N V (runG N V [] s) a)]) pl what a.a false = cntF (runG N V [] s ++ [(a, wakeF N V (runG N V [] s) a)]) pl what :=
      did_all (past_next hO (fun x hx => hg.2.2 x.1 (hPm x hx) a (by simp))) pl what
    omega
  · intro l hl
    rw [hR, ← List.append_assoc, takenF_app, ← tk_next N V _ a hl]
    have h1 : takenF a.a l false (runG N V [] s ++ [(a, wakeF N V (runG N V [] s) a)]) = tkF l (runG N V [] s ++ [(a, wakeF N V (runG N V [] s) a)]) :=
      taken_all l (past_next hO (fun x hx => hg.2.2 x.1 (hPm x hx) a (by simp)))
    omega
  · intro x hx
    exact List.mem_append_left _ (hPm x hx)

end Go.Proofs.Ytmndgoapkmhglaa

/- Plain mathematics: each place makes its step k no later than is told. -/
namespace Go.Proofs.Ytmndgoapkmhglaa

/-- at every time: a step has used one value of each link. -/
theorem slot_at {N : List LnF} (hA : Apart N) (V : Int → Nat → List Int) {sc : List OpF} (hS : ActsOk sc) : ∀ (x : Int) (l : Nat), l < N.length → didF (runG N V [] sc) (lnAt N l).dst 1 x false ≤ takenF x l false (runG N V [] sc) + lateN N l := by
  refine (run_ind hA V (p := fun P => ∀ (x : Int) (l : Nat), l < N.length → didF P (lnAt N l).dst 1 x false ≤ takenF x l false P + lateN N l) (fun P a hO hI _ ih x l hl => ?_) sc [] hS.nn (by simpa using hS.gap) (fun t _ => past_start N t) (inv_start N) (fun x l _ => by simp [didF])).1
  rw [did_app, takenF_app]
  by_cases hx : x < a.a
  · have h1 : ∀ y ∈ [(a, wakeF N V P a)], x < y.2.a := fun y hy => by rw [List.mem_singleton] at hy; subst hy; exact hx
    rw [did_none h1, taken_none l h1]
    have := ih x l hl
    omega
  · have hOx := hO.mono (Int.not_lt.1 hx)
    have hn := (inv_next (V := V) hA hO hI).slot l hl
    have h1 : didF [(a, wakeF N V P a)] (lnAt N l).dst 1 x false = cntF [(a, wakeF N V P a)] (lnAt N l).dst 1 := by
      unfold didF cntF
      congr 1
      apply List.filter_congr
      intro y hy
      rw [List.mem_singleton] at hy
      subst hy
      have : decide ((wakeF N V P a).a + (if false = true then a.c else 0) ≤ x) = true := by
        simp only [Bool.false_eq_true, if_false, decide_eq_true_eq]
        show a.a + 0 ≤ x
        omega
      rw [this, Bool.and_true]
    have h2 : takenF x l false [(a, wakeF N V P a)] = tkF l [(a, wakeF N V P a)] := by
      simp only [takenF, tkF]
      rw [if_pos (by simp only [Bool.false_eq_true, if_false]; show a.a + 0 ≤ x; omega)]
    rw [did_all hOx, taken_all l hOx, h1, h2, ← cnt_app, ← tkF_app]
    exact hn.1

/-- a script within bounds, up to a time. -/
structure Bound (N : List LnF) (sc : List OpF) (Q : Int → Prop) (dep : Int → Nat) (Tm Dm h : Int) : Prop where
  ok : ActsOk sc
  dly : ∀ a ∈ sc, a.b ≤ Dm ∧ a.c ≤ Dm
  d0 : 0 ≤ Dm
  t1 : 1 ≤ Tm
  ends : ∀ l, l < N.length → Q (lnAt N l).src ∧ Q (lnAt N l).dst
  first : ∀ q, Q q → Tm ≤ h → ∃ a ∈ sc, a.k = q ∧ a.a ≤ Tm
  act : ∀ q, Q q → ∀ x, 0 ≤ x → x + Tm ≤ h → ∃ a ∈ sc, a.k = q ∧ x < a.a ∧ a.a ≤ x + Tm
  dep : ∀ l, l < N.length → lateN N l = 0 → dep (lnAt N l).src < dep (lnAt N l).dst

/-- what is done by a time, ahead of the steps k. -/
structure Reach (N : List LnF) (R : PastF) (Q : Int → Prop) (dep : Int → Nat) (k : Nat) (u : Int) : Prop where
  pub : ∀ q, Q q → k ≤ didF R q 2 u false
  tak : ∀ l, l < N.length → k ≤ takenF u l false R
  stp : ∀ q, Q q → k ≤ didF R q 1 u false
  low : ∀ q, Q q → dep q = 0 → k + 1 ≤ didF R q 1 u false

section
variable {N : List LnF} (hA : Apart N) (V : Int → Nat → List Int) {sc : List OpF} {Q : Int → Prop} {dep : Int → Nat} {Tm Dm h : Int} (hB : Bound N sc Q dep Tm Dm h)
include hA hB

/-- a place that holds values publishes them, when those ahead are taken. -/
theorem publish_by {k : Nat} {u y : Int} (hu : 0 ≤ u) (huy : u ≤ y) (htk : ∀ l, l < N.length → k ≤ takenF u l false (runG N V [] sc)) {q : Int} (hq : Q q) (hst : k + 1 ≤ didF (runG N V [] sc) q 1 y false) (hh : y + Dm + Tm ≤ h) : k + 1 ≤ didF (runG N V [] sc) q 2 (y + Dm + Tm) false := by
  have hd := hB.d0
  obtain ⟨a, ha, rfl, h1, h2⟩ := hB.act q hq (y + Dm) (by omega) hh
  obtain ⟨P, hP⟩ := at_act hA V hB.ok ha
  have h3 := go_publish (V := V) hP.ok hP.inv (k := k) (Nat.le_trans hst (hP.did0 y (by omega) _ _)) (fun l hl _ => by
    have g1 := htk l hl
    have g2 := hP.tk0 u (by omega) l
    refine ⟨by omega, fun g3 => ?_⟩
    have := known_le (Dm := Dm) (y := u) (by omega) l P (fun x hx => (hB.dly x.1 (hP.mem x hx)).1) (by rw [hP.tkP u (by omega) l]; omega)
    omega)
  exact Nat.le_trans h3 (Nat.le_trans (hP.did1 _ _) (did_mono h2 _ _))

theorem depth_by {k : Nat} {u : Int} (hu : 0 ≤ u) (hR : Reach N (runG N V [] sc) Q dep k u) : ∀ (d : Nat) (q : Int), Q q → dep q ≤ d → u + (d : Int) * (2 * (Tm + Dm)) ≤ h → k + 1 ≤ didF (runG N V [] sc) q 1 (u + (d : Int) * (2 * (Tm + Dm))) false := by
  have hd := hB.d0
  have ht := hB.t1
  intro d
  induction d with
  | zero =>
    intro q hq hdq hh
    have := hR.low q hq (by omega)
    simpa using this
  | succ d ih =>
    intro q hq hdq hh
    have e : ((d + 1 : Nat) : Int) * (2 * (Tm + Dm)) = (d : Int) * (2 * (Tm + Dm)) + 2 * (Tm + Dm) := by
      rw [Int.natCast_add, Int.add_mul]; simp
    rw [e] at hh ⊢
    have hp : 0 ≤ (d : Int) * (2 * (Tm + Dm)) := Int.mul_nonneg (by omega) (by omega)
    generalize (d : Int) * (2 * (Tm + Dm)) = z at *
    obtain ⟨a, ha, rfl, h1, h2⟩ := hB.act q hq (u + z + (Dm + Tm) + Dm) (by omega) (by omega)
    obtain ⟨P, hP⟩ := at_act hA V hB.ok ha
    have key := go_step (V := V) hP.ok hP.inv (k := k) (Nat.le_trans (hR.pub _ hq) (hP.did0 u (by omega) _ _)) (fun l hl hdst => by
      have g1 := hR.tak l hl
      have g2 := hP.tk0 u (by omega) l
      by_cases hlt : lateN N l = 0
      · have hdp := hB.dep l hl hlt
        rw [hdst] at hdp
        have hqs := (hB.ends l hl).1
        have s1 := ih _ hqs (by omega) (by omega)
        have s2 := publish_by hA V hB hu (show u ≤ u + z by omega) hR.tak hqs s1 (by omega)
        rw [show u + z + Dm + Tm = u + z + (Dm + Tm) by omega] at s2
        have s3 := go_take hP.ok hP.inv (m := k + 1) hl hdst (Nat.le_trans s2 (hP.did0 _ (by omega) _ _)) (fun g3 => by
          have := comes_le (Dm := Dm) (y := u + z + (Dm + Tm)) (by omega) (lnAt N l).src P (fun x hx => (hB.dly x.1 (hP.mem x hx)).2) (by rw [hP.didP _ (by omega)]; omega)
          omega) (by have := Nat.le_trans (hR.stp _ hq) (hP.did0 u (by omega) _ 1); omega)
        omega
      · have := lateN_le N l
        omega)
    exact Nat.le_trans key (Nat.le_trans (hP.did1 _ _) (did_mono (by omega) _ _))

/-- from the steps k to what is done ahead of the steps k + 1. -/
theorem reach_next {k : Nat} {t : Int} (ht0 : 0 ≤ t) (hst : ∀ q, Q q → k + 1 ≤ didF (runG N V [] sc) q 1 t false) (hh : t + 2 * (Tm + Dm) ≤ h) : Reach N (runG N V [] sc) Q dep (k + 1) (t + 2 * (Tm + Dm)) := by
  have hd := hB.d0
  have ht := hB.t1
  have hslot := slot_at hA V hB.ok
  have tk0 : ∀ l, l < N.length → k ≤ takenF t l false (runG N V [] sc) := fun l hl => by
    have h1 := hslot t l hl
    have h2 := hst _ (hB.ends l hl).2
    have := lateN_le N l
    omega
  have pub : ∀ q, Q q → k + 1 ≤ didF (runG N V [] sc) q 2 (t + Dm + Tm) false := fun q hq => publish_by hA V hB ht0 (Int.le_refl _) tk0 hq (hst q hq) (by omega)
  -- an act at which what was published is there
  have take : ∀ q, Q q → ∃ (a : OpF) (P : PastF), a.k = q ∧ a.a ≤ t + 2 * (Tm + Dm) ∧ AtAct N V sc (runG N V [] sc) a P ∧ k + 1 ≤ cntF P a.k 2 ∧ ∀ l, l < N.length → (lnAt N l).dst = a.k → k + 1 ≤ tkF l P + (if canF N P a l = true then 1 else 0) := fun q hq => by
    obtain ⟨a, ha, rfl, h1, h2⟩ := hB.act q hq (t + Dm + Tm + Dm) (by omega) (by omega)
    obtain ⟨P, hP⟩ := at_act hA V hB.ok ha
    refine ⟨a, P, rfl, by omega, hP, Nat.le_trans (pub _ hq) (hP.did0 _ (by omega) _ _), fun l hl hdst => ?_⟩
    by_cases hlt : lateN N l = 0
    · have g1 := hslot t l hl
      have g2 := hst _ (hB.ends l hl).2
      have g3 := hP.tk0 t (by omega) l
      omega
    · have hl1 : lateN N l = 1 := by have := lateN_le N l; omega
      have hqs := (hB.ends l hl).1
      exact go_take hP.ok hP.inv (m := k + 1) hl hdst (Nat.le_trans (pub _ hqs) (hP.did0 _ (by omega) _ _)) (fun g3 => by
        have g4 := pub _ hqs
        have := comes_le (Dm := Dm) (y := t + Dm + Tm) (by omega) (lnAt N l).src P (fun x hx => (hB.dly x.1 (hP.mem x hx)).2) (by rw [hP.didP _ (by omega)]; omega)
        omega) (by have := Nat.le_trans (hst _ hq) (hP.did0 t (by omega) _ 1); omega)
  refine ⟨fun q hq => Nat.le_trans (pub q hq) (did_mono (by omega) _ _), fun l hl => ?_, fun q hq => Nat.le_trans (hst q hq) (did_mono (by omega) _ _), fun q hq h0 => ?_⟩
  · obtain ⟨a, P, e, h2, hP, _, h4⟩ := take _ (hB.ends l hl).2
    exact Nat.le_trans (h4 l hl e.symm) (Nat.le_trans (hP.tk1 l hl) (taken_mono h2 l _))
  · obtain ⟨a, P, rfl, h2, hP, h3, h4⟩ := take q hq
    have key := go_step (V := V) hP.ok hP.inv (k := k + 1) h3 (fun l hl hdst => by
      have g1 := h4 l hl hdst
      by_cases hlt : lateN N l = 0
      · have := hB.dep l hl hlt
        rw [hdst] at this
        omega
      · have := lateN_le N l
        omega)
    exact Nat.le_trans key (Nat.le_trans (hP.did1 _ _) (did_mono h2 _ _))

theorem reach_zero (hh : Tm ≤ h) : Reach N (runG N V [] sc) Q dep 0 Tm := by
  refine ⟨fun _ _ => Nat.zero_le _, fun _ _ => Nat.zero_le _, fun _ _ => Nat.zero_le _, fun q hq h0 => ?_⟩
  obtain ⟨a, ha, rfl, h1⟩ := hB.first q hq hh
  obtain ⟨P, hP⟩ := at_act hA V hB.ok ha
  have key := go_step (V := V) hP.ok hP.inv (k := 0) (Nat.zero_le _) (fun l hl hdst => by
    by_cases hlt : lateN N l = 0
    · have := hB.dep l hl hlt
      rw [hdst] at this
      omega
    · omega)
  exact Nat.le_trans key (Nat.le_trans (hP.did1 _ _) (did_mono h1 _ _))

/-- the time by which all is done ahead of the steps k. -/
def reachT (Tm Dm : Int) (D : Nat) : Nat → Int
  | 0 => Tm
  | k + 1 => reachT Tm Dm D k + (D : Int) * (2 * (Tm + Dm)) + 2 * (Tm + Dm)

omit hA hB in
theorem reachT_nn {Tm Dm : Int} (ht : 1 ≤ Tm) (hd : 0 ≤ Dm) (D : Nat) : ∀ k, 0 ≤ reachT Tm Dm D k := by
  intro k
  induction k with
  | zero => show 0 ≤ Tm; omega
  | succ k ih =>
    show 0 ≤ reachT Tm Dm D k + (D : Int) * (2 * (Tm + Dm)) + 2 * (Tm + Dm)
    have : 0 ≤ (D : Int) * (2 * (Tm + Dm)) := Int.mul_nonneg (by omega) (by omega)
    omega

/-- NOTHING IS EVER STUCK: each place makes its step k by then. -/
theorem steps_by {D : Nat} (hD : ∀ q, Q q → dep q ≤ D) : ∀ k, (reachT Tm Dm D k ≤ h → Reach N (runG N V [] sc) Q dep k (reachT Tm Dm D k)) ∧ (reachT Tm Dm D k + (D : Int) * (2 * (Tm + Dm)) ≤ h → ∀ q, Q q → k + 1 ≤ didF (runG N V [] sc) q 1 (reachT Tm Dm D k + (D : Int) * (2 * (Tm + Dm))) false) := by
  have hd := hB.d0
  have ht := hB.t1
  have hz : 0 ≤ (D : Int) * (2 * (Tm + Dm)) := Int.mul_nonneg (by omega) (by omega)
  intro k
  induction k with
  | zero =>
    have h0 := reach_zero hA V hB
    refine ⟨h0, fun hh q hq => ?_⟩
    exact depth_by hA V hB (by show 0 ≤ Tm; omega) (h0 (by show Tm ≤ h; have : reachT Tm Dm D 0 = Tm := rfl; omega)) D q hq (hD q hq) hh
  | succ k ih =>
    have hn := reachT_nn ht hd D k
    have hr : reachT Tm Dm D (k + 1) ≤ h → Reach N (runG N V [] sc) Q dep (k + 1) (reachT Tm Dm D (k + 1)) := fun hh => by
      have e : reachT Tm Dm D (k + 1) = reachT Tm Dm D k + (D : Int) * (2 * (Tm + Dm)) + 2 * (Tm + Dm) := rfl
      rw [e] at hh ⊢
      exact reach_next hA V hB (by omega) (ih.2 (by omega)) hh
    refine ⟨hr, fun hh q hq => ?_⟩
    exact depth_by hA V hB (reachT_nn ht hd D (k + 1)) (hr (by omega)) D q hq (hD q hq) hh

omit hA hB in
theorem reachT_eq (Tm Dm : Int) (D k : Nat) : reachT Tm Dm D k = Tm + (k : Int) * (((D : Int) + 1) * (2 * (Tm + Dm))) := by
  induction k with
  | zero => show Tm = _; simp
  | succ k ih =>
    show reachT Tm Dm D k + (D : Int) * (2 * (Tm + Dm)) + 2 * (Tm + Dm) = _
    have e : ((D : Int) + 1) * (2 * (Tm + Dm)) = (D : Int) * (2 * (Tm + Dm)) + 2 * (Tm + Dm) := by rw [Int.add_mul, Int.one_mul]
    rw [ih, e]
    generalize (D : Int) * (2 * (Tm + Dm)) = A
    generalize 2 * (Tm + Dm) = B
    have e2 : ((k + 1 : Nat) : Int) * (A + B) = (k : Int) * (A + B) + (A + B) := by rw [Int.natCast_add, Int.add_mul]; simp
    rw [e2]
    omega

end

end Go.Proofs.Ytmndgoapkmhglaa

/- num. -/
namespace Go.Proofs.Ytmndgoapkmhglaa
open Go.RowKit
attribute [local go_sem ↓] Go.wp_at_zero Go.wp_at_succ

theorem num_of (n : Int) (w : World) :
    Calls Try.prog 14 #[.int .i64 n] w fun e w' => e = .returned (.int .i64 n) ∧ w = w' := by
  go_enter Try.func14, Try.ntmps14
  go_wp2
  go_ret
  exact ⟨rfl, rfl⟩

end Go.Proofs.Ytmndgoapkmhglaa

/- Plain mathematics: what holds of a text's tokens and declarations. -/
namespace Go.Proofs.Ytmndgoapkmhglaa

/-- what holds of a text's tokens and declarations. -/
structure ROk (ts : List Tk) (L : List Dl) : Prop where
  F : ∀ i, TkF (tkAt ts i)
  E : ∀ i, (tkAt ts i).kind = 0 → ts.length ≤ i + 1
  len : ts.length ≤ 1501
  pos : 0 < ts.length
  sp : Spell ts L 0

theorem ROk.mem {ts : List Tk} {L : List Dl} (h : ROk ts L) {x : Dl} (hx : x ∈ L) : x.i + x.len < ts.length ∧ DlOk ts x := (spell_mem L 0 h.sp x hx).2
theorem ROk.eq {ts : List Tk} {L : List Dl} (h : ROk ts L) {x : Dl} (hx : x ∈ eqL L) : x ∈ L ∧ x.kind ≠ 0 ∧ Sp ts x.t (x.i + 5) ∧ x.i + 5 + x.t.len < ts.length ∧ placeD ts x < 4 := by
  have hm := List.mem_filter.1 hx
  have hk : x.kind ≠ 0 := by simpa using hm.2
  obtain ⟨h1, h2⟩ := h.mem hm.1
  have hl : x.len = x.t.len + 6 := by unfold Dl.len; rw [if_neg hk]
  refine ⟨hm.1, hk, ?_, by omega, ?_⟩
  · rcases h2 with ⟨h, _⟩ | ⟨_, _, _, _, _, h, _⟩
    · exact absurd h hk
    · exact h
  · rcases h2 with ⟨h, _⟩ | ⟨_, _, _, h, _⟩
    · exact absurd h hk
    · exact h.2
theorem spell_len {ts : List Tk} : ∀ (L : List Dl) (i : Nat), Spell ts L i → L.length + i ≤ ts.length := by
  intro L
  induction L with
  | nil => intro i h; have := h.1; simp; omega
  | cons x r ih => intro i h; have := ih _ h.2.2.2; have := Dl.len_pos x; simp; omega
theorem ROk.many {ts : List Tk} {L : List Dl} (h : ROk ts L) : L.length ≤ 1501 ∧ (eqL L).length ≤ 1501 ∧ (inL L).length ≤ 1501 := by
  have h1 := spell_len L 0 h.sp
  have h2 := h.len
  have h3 := List.length_filter_le (fun x : Dl => x.kind != 0) L
  have h4 := List.length_filter_le (fun x : Dl => x.kind == 0) L
  exact ⟨by omega, by unfold eqL; omega, by unfold inL; omega⟩



end Go.Proofs.Ytmndgoapkmhglaa

namespace Go.Proofs.Ytmndgoapkmhglaa
open Go.RowKit
attribute [local go_sem ↓] Go.wp_at_zero Go.wp_at_succ

/-- a program as the document's own reader has laid it. -/
structure RProg (w : World) (q g cap : Nat) (ts : List Tk) (L : List Dl) (vE vA vI vQ : Value) : Prop where
  lt : q < w.heap.size
  c0 : w.cell? ⟨q, 0, none⟩ = some (.slice (some ⟨g, 0, none⟩) ts.length cap)
  c1 : w.cell? ⟨q, 1, none⟩ = some vE
  c2 : w.cell? ⟨q, 2, none⟩ = some vA
  c3 : w.cell? ⟨q, 3, none⟩ = some vI
  c4 : w.cell? ⟨q, 4, none⟩ = some vQ
  toks : TokAt w g cap ts
  ends : w.ownsRow 0 3 1 vE ts.length (pCells ((List.range ts.length).map (behindF ts)))
  all : w.ownsRow 0 138 6 vA L.length (rdCells (L.map (rdc ts)))
  ins : w.ownsRow 0 138 6 vI (inL L).length (rdCells ((inL L).map (rdc ts)))
  eqs : w.ownsRow 0 138 6 vQ (eqL L).length (rdCells ((eqL L).map (rdc ts)))

theorem RProg.below {w w' : World} {q g cap : Nat} {ts : List Tk} {L : List Dl} {vE vA vI vQ : Value} (h : RProg w q g cap ts L vE vA vI vQ) (hb : Below w.heap.size w w') : RProg w' q g cap ts L vE vA vI vQ :=
  ⟨Nat.lt_of_lt_of_le h.lt hb.size, (hb.cell h.lt).trans h.c0, (hb.cell h.lt).trans h.c1, (hb.cell h.lt).trans h.c2, (hb.cell h.lt).trans h.c3, (hb.cell h.lt).trans h.c4, h.toks.below hb, bel_own h.ends hb, bel_own h.all hb, bel_own h.ins hb, bel_own h.eqs hb⟩

abbrev RDc.val (d : RDc) : Value := .agg #[.string d.name, .int .i64 (d.tok : Int), .bool d.input, .bool d.truth, .int .i64 (d.place : Int), .int .i64 (d.body : Int)]

theorem rd_later {w wr : World} {g cap : Nat} {ts : List Tk} {l : List Dl} (h : w.ownsRow 0 138 6 (.slice (some ⟨g, 0, none⟩) l.length cap) l.length (rdCells (l.map (rdc ts)))) (hb : Below w.heap.size w wr) (hg : g < w.heap.size) {k : Nat} (hk : k < l.length) (a : RDc) (ha : a = rdc ts (l[k]'hk)) :
    wr.cell? ⟨g, k * 6, none⟩ = some (.string a.name) ∧ wr.cell? ⟨g, k * 6 + 1, none⟩ = some (.int .i64 (a.tok : Int)) ∧ wr.cell? ⟨g, k * 6 + 2, none⟩ = some (.bool a.input) ∧ wr.cell? ⟨g, k * 6 + 3, none⟩ = some (.bool a.truth) ∧
    wr.cell? ⟨g, k * 6 + 4, none⟩ = some (.int .i64 (a.place : Int)) ∧ wr.cell? ⟨g, k * 6 + 5, none⟩ = some (.int .i64 (a.body : Int)) := by
  have hcr : ∀ j, j < 6 → wr.cell? ⟨g, k * 6 + j, none⟩ = a.cells[j]? := fun j hj => by
    rw [hb.cell (p := ⟨g, k * 6 + j, none⟩) hg, h.cellAt (k * 6 + j) (by omega)]
    have e := flat_get RDc.cells 6 rd_len (l.map (rdc ts)) k j (by simpa using hk) hj
    rw [List.getElem_map, ← ha] at e
    exact e
  exact ⟨hcr 0 (by omega), hcr 1 (by omega), hcr 2 (by omega), hcr 3 (by omega), hcr 4 (by omega), hcr 5 (by omega)⟩

theorem end_later {w wr : World} {g cap : Nat} {ts : List Tk} (h : w.ownsRow 0 3 1 (.slice (some ⟨g, 0, none⟩) ts.length cap) ts.length (pCells ((List.range ts.length).map (behindF ts)))) (hb : Below w.heap.size w wr) (hg : g < w.heap.size) {k : Nat} (hk : k < ts.length) :
    wr.cell? ⟨g, k, none⟩ = some (.int .i64 (behindF ts k : Nat)) := by
  rw [hb.cell (p := ⟨g, k, none⟩) hg, h.cellAt k (by omega)]
  unfold pCells
  rw [List.getElem?_map, List.getElem?_map, List.getElem?_range hk]
  rfl

set_option maxHeartbeats 1000000 in
theorem rplace_any (w : World) (q g cap : Nat) (ts : List Tk) (L : List Dl) (vE vA vI vQ : Value) (h : RProg w q g cap ts L vE vA vI vQ) (d : RDc) (hd : d.tok < ts.length) :
    Calls Try.prog 112 #[.pointer (some ⟨q, 0, none⟩), d.val] w fun e w' => e = .returned (.int .i64 ((tkAt ts d.tok).pos : Nat)) ∧ Below w.heap.size w w' := by
  have c0 : ∀ o, (w.alloc o).cell? ⟨q, 0, none⟩ = some (.slice (some ⟨g, 0, none⟩) ts.length cap) := fun o => by rw [World.cell?_alloc_past _ _ _ h.lt]; exact h.c0
  obtain ⟨a, ha⟩ : ∃ a, a = rtok (tkAt ts d.tok) := ⟨_, rfl⟩
  have x2 : ∀ o, (w.alloc o).cell? ⟨g, d.tok * 4 + 2, none⟩ = some (.int .i64 (a.pos : Int)) := fun o => by
    rw [World.cell?_alloc_past _ _ _ h.toks.lt]; exact (h.toks.cells (Below.refl _ _) hd a ha).2.2.1
  have HP : Hid ((tkAt ts d.tok).pos = a.pos) := hide (by rw [ha]; rfl)
  have j1 : (0 : Int) ≤ (d.tok : Int) := by omega
  have j2 : (d.tok : Int) < (ts.length : Int) := by omega
  clear h ha
  go_enter Try.func112, Try.ntmps112
  go_wp2_with fail
  go_quiet (fail)
  go_wp2
  go_ret
  exact ⟨by rw [HP.out]; rfl, below_drewN ((Below.refl _ _).alloc (Nat.le_refl _) _) _⟩

/-- a place, or -1. -/
def optI (o : Option Nat) : Value := .int .i64 (match o with | some a => (a : Int) | none => -1)

end Go.Proofs.Ytmndgoapkmhglaa

/- Plain mathematics: what is a truth is 0 or 1, at every instant. -/
namespace Go.Proofs.Ytmndgoapkmhglaa

def Bit (x : Int) : Prop := x = 0 ∨ x = 1
theorem bit_b2i (b : Bool) : Bit (b2i b) := by cases b <;> simp [Bit, b2i]

theorem or_none {a b : Option Nat} (h : a.or b = none) : a = none ∧ b = none := by cases a <;> simp_all
theorem bad_if {c : Bool} {p : Nat} {x : Option Nat} (h : (if c = true then some p else x) = none) : c = false ∧ x = none := by
  cases c <;> simp_all

theorem w64_id (x : Int) (h1 : -9223372036854775808 ≤ x) (h2 : x < 9223372036854775808) : w64 x = x := by
  unfold w64 Go.RowKit.wrap64
  omega

section
variable {ts : List Tk} (hF : ∀ i, TkF (tkAt ts i)) {L : List Dl}
include hF

theorem lit_bit {i : Nat} (h2 : litT (tkAt ts i) = true) (hb : badR ts L i 116 = false) : Bit (litV (tkAt ts i)) := by
  have hlf : leafT (tkAt ts i) = true := by unfold leafT; rw [h2]; rfl
  have hk1 : (tkAt ts i).kind ≠ 1 := by have := lit_nm hF h2; unfold isNm at this; simpa using this
  by_cases h3 : (tkAt ts i).kind = 3
  · have hi : isR ts L i = 110 := by unfold isR; rw [if_neg hk1, if_pos h3]
    unfold badR at hb; rw [hi] at hb; cases hb
  · unfold litV; rw [if_neg h3]; exact bit_b2i _

omit hF in
theorem op_truth {o : List UInt8} (h : (opOf o).isSome = true) (h2 : opR o = 116) (a b : Int) : Bit (apF o a b) := by
  revert h h2
  unfold opOf
  split; · rename_i e; subst e; intro _ h; exact absurd h (by decide)
  split; · rename_i e; subst e; intro _ h; exact absurd h (by decide)
  split; · rename_i e; subst e; intro _ h; exact absurd h (by decide)
  split; · rename_i e; subst e; intro _ h; exact absurd h (by decide)
  split; · rename_i e; subst e; intro _ _; exact bit_b2i _
  split; · rename_i e; subst e; intro _ _; exact bit_b2i _
  split; · rename_i e; subst e; intro _ _; exact bit_b2i _
  split; · rename_i e; subst e; intro _ _; exact bit_b2i _
  · intro h; cases h

theorem ev_bit {V : List UInt8 → Nat → Int} (hV : ∀ k n, k < ts.length → nameT ts L k = true → Bit (V (lAt ts k) n)) : ∀ (t : Ast) (i n : Nat), Sp ts t i → i + t.len ≤ ts.length → wrongR ts L t i 116 = none → Bit (evT ts V t i n) := by
  intro t
  induction t with
  | leaf =>
    intro i n hs hl h
    simp only [Ast.len] at hl
    simp only [wrongR] at h
    obtain ⟨hb, _⟩ := bad_if h
    unfold evT
    by_cases h1 : (tkAt ts i).kind = 1
    · rw [if_pos h1]
      cases hn : nameT ts L i with
      | true => exact hV i n (by omega) hn
      | false =>
        have hi : isR ts L i = 110 := by unfold isR; rw [if_pos h1, hn]; rfl
        unfold badR at hb; rw [hi] at hb; cases hb
    · rw [if_neg h1]
      have h2 : litT (tkAt ts i) = true := by
        have := hs.1
        unfold leafT at this
        have hk : ((tkAt ts i).kind == 1) = false := by simpa using h1
        rwa [hk, Bool.or_false] at this
      exact lit_bit hF h2 hb
  | neg a iha =>
    intro i n hs hl h
    obtain ⟨h1, h2, h3, h4⟩ := hs
    simp only [Ast.len] at hl
    simp only [wrongR] at h
    have ha := iha (i + 2) n h3 (by omega) (bad_if h).2
    simp only [evT]
    rcases ha with ha | ha <;> rw [ha] <;> simp [Bit, w64, Go.RowKit.wrap64]
  | ite a b c iha ihb ihc =>
    intro i n hs hl h
    obtain ⟨h1, h2, h3, h4, h5, h6⟩ := hs
    simp only [Ast.len] at hl
    simp only [wrongR] at h
    obtain ⟨_, h⟩ := bad_if h
    obtain ⟨_, h⟩ := or_none h
    obtain ⟨hb, hc⟩ := or_none h
    simp only [evT]
    split
    · exact ihb _ n h4 (by omega) hb
    · exact ihc _ n h5 (by omega) hc
  | dly b ihb =>
    intro i n hs hl h
    obtain ⟨h1, h2, h3, h4, h5⟩ := hs
    simp only [Ast.len] at hl
    simp only [wrongR] at h
    obtain ⟨_, h⟩ := bad_if h
    obtain ⟨hb, hc⟩ := or_none h
    cases n with
    | zero => simp only [evT]; exact lit_bit hF h2 (bad_if hb).1
    | succ n => simp only [evT]; exact ihb _ n h4 (by omega) hc
  | bin a b iha ihb =>
    intro i n hs hl h
    obtain ⟨h1, h2, h3, h4, h5⟩ := hs
    obtain ⟨n1, n2⟩ := sp_first hF h2
    simp only [Ast.len] at hl
    simp only [wrongR] at h
    obtain ⟨hb, _⟩ := bad_if h
    have hbh : behindF ts (i + 1) = i + 1 + a.len := behind_sp hF a (i + 1) h2 (by omega)
    have hi : isR ts L i = opR (lAt ts (i + 1 + a.len)) := by rw [isR_open hF h1, if_neg n1, if_neg n2, hbh]
    simp only [evT]
    refine op_truth h3 ?_ _ _
    unfold badR at hb
    rw [hi] at hb
    have hne : lAt ts (i + 1 + a.len) ≠ kFby := fun e => by rw [e] at h3; revert h3; decide
    unfold opR at hb ⊢
    rw [if_neg hne] at hb ⊢
    split at hb
    · cases hb
    · rename_i hx; rw [if_neg hx]

end

theorem nameT_of {ts : List Tk} {L : List Dl} (H : Right ts L) {k : Nat} (h : nameT ts L k = true) : ∃ j x, inIx ts L (lAt ts k) = none ∧ eqIx ts L (lAt ts k) = some j ∧ (eqL L)[j]? = some x ∧ x.kind = 2 := by
  unfold nameT at h
  rw [List.any_eq_true] at h
  obtain ⟨x, hx, h2⟩ := h
  rw [Bool.and_eq_true, beq_iff_eq, beq_iff_eq] at h2
  obtain ⟨j, hj⟩ := ix_some (p := nmIs ts (lAt ts k)) hx (by unfold nmIs; rw [h2.1]; simp)
  obtain ⟨z, hz, hn⟩ := eqIx_some hj
  obtain ⟨m, hm, rfl⟩ := List.getElem_of_mem hx
  have hjm := H.same hz (List.getElem?_eq_getElem hm) (hn.trans h2.1.symm)
  subst hjm
  refine ⟨j, _, ?_, hj, List.getElem?_eq_getElem hm, h2.2⟩
  cases hi : inIx ts L (lAt ts k) with
  | none => rfl
  | some i =>
    exfalso
    obtain ⟨g1, g2, _⟩ := List.findIdx?_eq_some_iff_getElem.1 hi
    have g3 : (nameD ts (inL L)[i]).data.toList = lAt ts k := by simpa [nmIs] using g2
    have m1 := List.mem_filter.1 (List.getElem_mem g1)
    have m2 := List.mem_filter.1 hx
    have e := H.own _ m1.1 _ m2.1 (g3.trans h2.1.symm)
    have hp := H.pw
    have k1 : (inL L)[i].kind = 0 := by simpa using m1.2
    have k2 : (eqL L)[j].kind ≠ 0 := by simpa using m2.2
    obtain ⟨a, ha, ea⟩ := List.getElem_of_mem m1.1
    obtain ⟨b, hb, eb⟩ := List.getElem_of_mem m2.1
    rw [List.pairwise_iff_getElem] at hp
    rw [← ea] at k1 e
    rw [← eb] at k2 e
    rcases Nat.lt_trichotomy a b with h | h | h
    · have := hp a b ha hb h; have := L[a].len_pos; omega
    · subst h; exact k2 k1
    · have := hp b a hb ha h; have := L[b].len_pos; omega

theorem val_bit {ts : List Tk} {L : List Dl} (H : Right ts L) {ins : List (List Int)} {R : Nat → Nat → Int} (hR : ∀ j n x, (eqL L)[j]? = some x → x.kind = 2 → Bit (R j n)) : ∀ k n, k < ts.length → nameT ts L k = true → Bit (valV ts L ins R (lAt ts k) n) := by
  intro k n _ h
  obtain ⟨j, x, h1, h2, h3, h4⟩ := nameT_of H h
  unfold valV
  rw [h1, h2]
  exact hR j n x h3 h4

theorem solF_bit {ts : List Tk} {L : List Dl} (H : Right ts L) (hT : typesR ts L = none) {ins : List (List Int)} : ∀ f j n x, (eqL L)[j]? = some x → x.kind = 2 → Bit (solF ts L ins f j n) := by
  intro f
  induction f with
  | zero => intro j n x _ _; exact .inl rfl
  | succ f ih =>
    intro j n x hx hk
    simp only [solF, bodyV, hx]
    obtain ⟨hs, hl⟩ := H.sp x (List.mem_of_getElem? hx)
    unfold typesR at hT
    rw [List.findSome?_eq_none_iff] at hT
    have hw := hT x (List.mem_of_getElem? hx)
    rw [hk] at hw
    exact ev_bit H.F (val_bit H ih) x.t _ n hs hl hw

theorem sol_bit {ts : List Tk} {L : List Dl} (H : Right ts L) (hT : typesR ts L = none) {ins : List (List Int)} (j n : Nat) (x : Dl) (hx : (eqL L)[j]? = some x) (hk : x.kind = 2) : Bit (sol ts L ins j n) := solF_bit H hT _ j n x hx hk

end Go.Proofs.Ytmndgoapkmhglaa

/- Plain mathematics: what the program works out at a node is the value of its expression. -/
namespace Go.Proofs.Ytmndgoapkmhglaa

def AllAt {α : Type} (P : Nat → α → Prop) : Nat → List α → Prop
  | _, [] => True
  | o, x :: l => P o x ∧ AllAt P (o + 1) l
theorem allAt_app {α : Type} {P : Nat → α → Prop} : ∀ (l m : List α) (o : Nat), AllAt P o (l ++ m) ↔ AllAt P o l ∧ AllAt P (o + l.length) m := by
  intro l
  induction l with
  | nil => intro m o; simp [AllAt]
  | cons x l ih =>
    intro m o
    simp only [List.cons_append, AllAt, ih, List.length_cons]
    rw [show o + 1 + l.length = o + (l.length + 1) by omega, and_assoc]
theorem allAt_get {α : Type} {P : Nat → α → Prop} : ∀ (l : List α) (o : Nat), AllAt P o l ↔ ∀ m x, l[m]? = some x → P (o + m) x := by
  intro l
  induction l with
  | nil => intro o; simp [AllAt]
  | cons x l ih =>
    intro o
    simp only [AllAt, ih]
    constructor
    · rintro ⟨h1, h2⟩ m y hm
      cases m with
      | zero => simp at hm; subst hm; exact h1
      | succ m => have := h2 m y (by simpa using hm); rwa [show o + 1 + m = o + (m + 1) by omega] at this
    · intro h
      refine ⟨h 0 x rfl, fun m y hm => ?_⟩
      have := h (m + 1) y (by simpa using hm)
      rwa [show o + (m + 1) = o + 1 + m by omega] at this
theorem AllAt.mono {α : Type} {P Q : Nat → α → Prop} (h : ∀ j x, P j x → Q j x) : ∀ (l : List α) (o : Nat), AllAt P o l → AllAt Q o l := by
  intro l
  induction l with
  | nil => intro o _; trivial
  | cons x l ih => intro o hp; exact ⟨h _ _ hp.1, ih _ hp.2⟩

def numAt (ds : List Dc) (i : Int) : Nat := (ds.getD i.toNat ⟨0, 0, ⟨#[]⟩, 0, 0, 0, 0⟩).number
def rootAt (ds : List Dc) (i : Int) : Nat := (ds.getD i.toNat ⟨0, 0, ⟨#[]⟩, 0, 0, 0, 0⟩).root

/-- an operation on two numbers. -/
def pairF (op : Nat) (a b : Int) : Int :=
  if op = 5 then w64 (a + b) else if op = 6 then w64 (a - b) else if op = 7 then w64 (a * b)
  else if op = 8 then (if b = 0 then 0 else if b = -1 then w64 (0 - a) else w64 (a.tdiv b)) else if op = 9 then b2i (decide (a < b)) else if op = 10 then b2i (decide (a = b))
  else if op = 11 then b2i (decide (a ≠ 0) && decide (b ≠ 0)) else if op = 12 then b2i (decide (a ≠ 0) || decide (b ≠ 0)) else 0
/-- what a node makes, by the values of this instant and of the one ahead of it. -/
def nameF (ds : List Dc) (ins : List (List Int)) (b : Int) (k : Nat) (X : Nat → Int) : Int := if kindAt ds b = 0 then elemF ins (numAt ds b) k else X (rootAt ds b)
def valF (ds : List Dc) (ins : List (List Int)) (n : Nd) (k : Nat) (X Y : Nat → Int) : Int :=
  if n.kind = 2 then nameF ds ins n.decl k X
  else if n.kind = 3 then b2i (decide (X n.a = 0))
  else if n.kind = 4 then (if X n.a ≠ 0 then X n.b else X n.c)
  else if n.kind = 5 then (if k = 0 then X n.a else Y n.b)
  else if n.kind = 6 then pairF n.op (X n.a) (X n.b)
  else (n.value : Int)
/-- the parts that it asks for at this instant. -/
def needs (n : Nd) : List Nat :=
  if n.kind = 3 then [n.a] else if n.kind = 4 then [n.a, n.b, n.c] else if n.kind = 5 then [n.a] else if n.kind = 6 then [n.a, n.b] else []

/-- the values of the nodes of an expression. -/
def flatV (ts : List Tk) (V : List UInt8 → Nat → Int) (k : Nat) : Ast → Nat → List Int
  | .leaf, i => [evT ts V .leaf i k]
  | .neg a, i => evT ts V (.neg a) i k :: flatV ts V k a (i + 2)
  | .ite a b c, i => evT ts V (.ite a b c) i k :: (flatV ts V k a (i + 2) ++ (flatV ts V k b (i + 2 + a.len) ++ flatV ts V k c (i + 2 + a.len + b.len)))
  | .dly b, i => evT ts V (.dly b) i k :: litV (tkAt ts (i + 1)) :: flatV ts V k b (i + 3)
  | .bin a b, i => evT ts V (.bin a b) i k :: (flatV ts V k a (i + 1) ++ flatV ts V k b (i + 2 + a.len))
theorem flatV_len (ts : List Tk) (V : List UInt8 → Nat → Int) (k : Nat) : ∀ (t : Ast) (i : Nat), (flatV ts V k t i).length = t.size := by
  intro t
  induction t with
  | leaf => intro i; rfl
  | neg a iha => intro i; simp [flatV, Ast.size, iha]
  | ite a b c iha ihb ihc => intro i; simp [flatV, Ast.size, iha, ihb, ihc]; omega
  | dly b ihb => intro i; simp [flatV, Ast.size, ihb]
  | bin a b iha ihb => intro i; simp [flatV, Ast.size, iha, ihb]
theorem flatV_head {ts : List Tk} {V : List UInt8 → Nat → Int} {k : Nat} {X : Nat → Int} : ∀ {t : Ast} {i o : Nat}, AllAt (fun j v => X j = v) o (flatV ts V k t i) → X o = evT ts V t i k := by
  intro t i o h
  cases t <;> exact h.1

theorem op_some {o : List UInt8} (h : (opOf o).isSome = true) : o = [43] ∨ o = [45] ∨ o = [42] ∨ o = [47] ∨ o = [60] ∨ o = [61] ∨ o = [38] ∨ o = [124] := by
  revert h
  unfold opOf
  split; · rename_i e; intro _; exact .inl e
  split; · rename_i e; intro _; exact .inr (.inl e)
  split; · rename_i e; intro _; exact .inr (.inr (.inl e))
  split; · rename_i e; intro _; exact .inr (.inr (.inr (.inl e)))
  split; · rename_i e; intro _; exact .inr (.inr (.inr (.inr (.inl e))))
  split; · rename_i e; intro _; exact .inr (.inr (.inr (.inr (.inr (.inl e)))))
  split; · rename_i e; intro _; exact .inr (.inr (.inr (.inr (.inr (.inr (.inl e))))))
  split; · rename_i e; intro _; exact .inr (.inr (.inr (.inr (.inr (.inr (.inr e))))))
  · intro h; cases h

theorem pair_ap {o : List UInt8} (h : (opOf o).isSome = true) {a b : Int} (hb : o = [38] ∨ o = [124] → Bit a ∧ Bit b) : apF o a b = pairF ((opOf o).getD 0) a b := by
  rcases op_some h with rfl | rfl | rfl | rfl | rfl | rfl | rfl | rfl
  · rfl
  · rfl
  · rfl
  · show (if b = 0 then 0 else w64 (a.tdiv b)) = (if b = 0 then 0 else if b = -1 then w64 (0 - a) else w64 (a.tdiv b))
    by_cases h0 : b = 0
    · rw [if_pos h0, if_pos h0]
    · rw [if_neg h0, if_neg h0]
      by_cases h1 : b = -1
      · rw [if_pos h1, h1]
        congr 1
        rw [Int.tdiv_neg, Int.tdiv_one]; omega
      · rw [if_neg h1]
  · rfl
  · rfl
  · obtain ⟨h1, h2⟩ := hb (.inl rfl)
    rcases h1 with rfl | rfl <;> rcases h2 with rfl | rfl <;> decide
  · obtain ⟨h1, h2⟩ := hb (.inr rfl)
    rcases h1 with rfl | rfl <;> rcases h2 with rfl | rfl <;> decide

section
variable {ds : List Dc} {ins : List (List Int)} {n : Nd} {k : Nat} {X Y : Nat → Int}
theorem valF3 (h : n.kind = 3) : valF ds ins n k X Y = b2i (decide (X n.a = 0)) := by unfold valF; rw [if_neg (by omega), if_pos h]
theorem valF4 (h : n.kind = 4) : valF ds ins n k X Y = if X n.a ≠ 0 then X n.b else X n.c := by unfold valF; rw [if_neg (by omega), if_neg (by omega), if_pos h]
theorem valF5 (h : n.kind = 5) : valF ds ins n k X Y = if k = 0 then X n.a else Y n.b := by unfold valF; rw [if_neg (by omega), if_neg (by omega), if_neg (by omega), if_pos h]
theorem valF6 (h : n.kind = 6) : valF ds ins n k X Y = pairF n.op (X n.a) (X n.b) := by unfold valF; rw [if_neg (by omega), if_neg (by omega), if_neg (by omega), if_neg (by omega), if_pos h]
end
theorem bind_other {ds : List Dc} {n : Nd} (h : n.kind ≠ 2) : bindF ds n = n := by unfold bindF; rw [if_neg h]

section
variable {ts : List Tk} (hF : ∀ i, TkF (tkAt ts i)) {L : List Dl} {ds : List Dc} {ins : List (List Int)} {V : List UInt8 → Nat → Int} {k : Nat} {X Y : Nat → Int}
include hF

theorem lit_val {i dl : Nat} (h : litT (tkAt ts i) = true) : litV (tkAt ts i) = valF ds ins (bindF ds (mkN ts i dl (leafN0 (tkAt ts i)))) k X Y := by
  have hlf : leafT (tkAt ts i) = true := by unfold leafT; rw [h]; rfl
  have hk1 : (tkAt ts i).kind ≠ 1 := by have := lit_nm hF h; unfold isNm at this; simpa using this
  have hk := leafN0_no hlf hk1
  rw [bind_other (by rw [mkN_kind]; exact hk)]
  unfold litV
  by_cases h3 : (tkAt ts i).kind = 3
  · have hn : ∀ l, kwL.contains l = true → (tkAt ts i).l ≠ l := fun l hl e => by have := (hF i).k3 h3; rw [e, hl] at this; cases this
    have hl : leafN0 (tkAt ts i) = { ndZero with kind := 0, value := valOf (tkAt ts i).l } := by
      unfold leafN0; rw [if_neg (hn _ (by decide)), if_neg (hn _ (by decide)), if_pos h3]
    rw [if_pos h3, hl]; rfl
  · rw [if_neg h3]
    unfold litT at h
    have h30 : ((tkAt ts i).kind == 3) = false := by simpa using h3
    rw [h30, Bool.false_or, Bool.or_eq_true, beq_iff_eq, beq_iff_eq] at h
    by_cases e : (tkAt ts i).l = kTrue
    · have hl : leafN0 (tkAt ts i) = { ndZero with kind := 1, value := 1 } := by unfold leafN0; rw [if_pos e]
      rw [hl, e]; rfl
    · have e2 := h.resolve_left e
      have hl : leafN0 (tkAt ts i) = { ndZero with kind := 1 } := by unfold leafN0; rw [if_neg e, if_pos e2]
      rw [hl, e2]; rfl

theorem flat_val (hV : ∀ k n, k < ts.length → nameT ts L k = true → Bit (V (lAt ts k) n)) :
    ∀ (t : Ast) (i dl off w : Nat), Sp ts t i → i + t.len ≤ ts.length → wrongR ts L t i w = none →
      (∀ j ∈ nms ts t i, V (lAt ts j) k = nameF ds ins (findF ds (tkAt ts j).text) k X) →
      AllAt (fun j v => X j = v) off (flatV ts V k t i) → (k ≠ 0 → AllAt (fun j v => Y j = v) off (flatV ts V (k - 1) t i)) →
      AllAt (fun j n => X j = valF ds ins (bindF ds n) k X Y) off (flat ts t i dl off) := by
  intro t
  induction t with
  | leaf =>
    intro i dl off w hs hl hw hn hX hY
    refine ⟨?_, trivial⟩
    show X off = valF ds ins (bindF ds (mkN ts i dl (leafN0 (tkAt ts i)))) k X Y
    rw [hX.1]
    by_cases h1 : (tkAt ts i).kind = 1
    · have hb : bindF ds (mkN ts i dl (leafN0 (tkAt ts i))) = { mkN ts i dl (leafN0 (tkAt ts i)) with decl := findF ds (tkAt ts i).text } := by
        rw [leafN0_name (hF i) h1]; unfold bindF; rw [if_pos (by rfl)]; rfl
      rw [hb]
      have hk2 : (leafN0 (tkAt ts i)).kind = 2 := by rw [leafN0_name (hF i) h1]
      unfold evT valF
      rw [if_pos h1, if_pos (show ({ mkN ts i dl (leafN0 (tkAt ts i)) with decl := findF ds (tkAt ts i).text } : Nd).kind = 2 from hk2)]
      exact hn i (by unfold nms; rw [if_pos h1]; simp)
    · have h2 : litT (tkAt ts i) = true := by
        have := hs.1
        unfold leafT at this
        have hk : ((tkAt ts i).kind == 1) = false := by simpa using h1
        rwa [hk, Bool.or_false] at this
      unfold evT
      rw [if_neg h1]
      exact lit_val hF h2
  | neg a iha =>
    intro i dl off w hs hl hw hn hX hY
    obtain ⟨h1, h2, h3, h4⟩ := hs
    simp only [Ast.len] at hl
    simp only [wrongR] at hw
    have ha := ev_bit hF hV a (i + 2) k h3 (by omega) (bad_if hw).2
    refine ⟨?_, iha (i + 2) dl (off + 1) 116 h3 (by omega) (bad_if hw).2 hn hX.2 (fun h => (hY h).2)⟩
    show X off = valF ds ins (bindF ds (mkN ts i dl { ndZero with kind := 3, a := off + 1 })) k X Y
    rw [hX.1, bind_other (by simp [mkN]), valF3 rfl]
    have e1 := flatV_head hX.2
    show w64 (1 - evT ts V a (i + 2) k) = b2i (decide (X (off + 1) = 0))
    rw [e1]
    rcases ha with ha | ha <;> rw [ha] <;> rw [w64_id _ (by decide) (by decide)] <;> decide
  | ite a b c iha ihb ihc =>
    intro i dl off w hs hl hw hn hX hY
    obtain ⟨h1, h2, h3, h4, h5, h6⟩ := hs
    simp only [Ast.len] at hl
    simp only [wrongR] at hw
    obtain ⟨_, hw⟩ := bad_if hw
    obtain ⟨wa, hw⟩ := or_none hw
    obtain ⟨wb, wc⟩ := or_none hw
    have ha := ev_bit hF hV a (i + 2) k h3 (by omega) wa
    obtain ⟨x0, hX⟩ := hX
    rw [allAt_app, allAt_app, flatV_len, flatV_len] at hX
    obtain ⟨xa, xb, xc⟩ := hX
    have hY' : k ≠ 0 → AllAt (fun j v => Y j = v) (off + 1) (flatV ts V (k - 1) a (i + 2)) ∧ AllAt (fun j v => Y j = v) (off + 1 + a.size) (flatV ts V (k - 1) b (i + 2 + a.len)) ∧ AllAt (fun j v => Y j = v) (off + 1 + a.size + b.size) (flatV ts V (k - 1) c (i + 2 + a.len + b.len)) := fun h => by
      have := (hY h).2
      rwa [allAt_app, allAt_app, flatV_len, flatV_len] at this
    simp only [nms, List.mem_append] at hn
    simp only [flat, AllAt]
    rw [allAt_app, allAt_app, flat_len, flat_len]
    refine ⟨?_, iha _ dl _ 116 h3 (by omega) wa (fun j hj => hn j (.inl hj)) xa (fun h => (hY' h).1), ihb _ dl _ w h4 (by omega) wb (fun j hj => hn j (.inr (.inl hj))) xb (fun h => (hY' h).2.1), ihc _ dl _ w h5 (by omega) wc (fun j hj => hn j (.inr (.inr hj))) xc (fun h => (hY' h).2.2)⟩
    rw [x0, bind_other (by simp [mkN]), valF4 rfl]
    have e1 := flatV_head xa
    have e2 := flatV_head xb
    have e3 := flatV_head xc
    show (if evT ts V a (i + 2) k = 1 then evT ts V b (i + 2 + a.len) k else evT ts V c (i + 2 + a.len + b.len) k) = if X (off + 1) ≠ 0 then X (off + 1 + a.size) else X (off + 1 + a.size + b.size)
    rw [e1, e2, e3]
    rcases ha with ha | ha <;> rw [ha] <;> rfl
  | dly b ihb =>
    intro i dl off w hs hl hw hn hX hY
    obtain ⟨h1, h2, h3, h4, h5⟩ := hs
    simp only [Ast.len] at hl
    simp only [wrongR] at hw
    obtain ⟨_, hw⟩ := bad_if hw
    obtain ⟨hb, hc⟩ := or_none hw
    obtain ⟨x0, x1, x2⟩ := hX
    refine ⟨?_, ?_, ihb (i + 3) (dl + 1) (off + 2) w h4 (by omega) hc hn x2 (fun h => (hY h).2.2)⟩
    · show X off = valF ds ins (bindF ds (mkN ts i dl { ndZero with kind := 5, a := off + 1, b := off + 2 })) k X Y
      rw [x0, bind_other (by simp [mkN]), valF5 rfl]
      show _ = if k = 0 then X (off + 1) else Y (off + 2)
      cases k with
      | zero => rw [if_pos rfl, x1]; rfl
      | succ n =>
        rw [if_neg (by omega)]
        have := (hY (by omega)).2.2
        rw [flatV_head this]; rfl
    · show X (off + 1) = valF ds ins (bindF ds (mkN ts (i + 1) dl (leafN0 (tkAt ts (i + 1))))) k X Y
      rw [x1]; exact lit_val hF h2
  | bin a b iha ihb =>
    intro i dl off w hs hl hw hn hX hY
    obtain ⟨h1, h2, h3, h4, h5⟩ := hs
    simp only [Ast.len] at hl
    simp only [wrongR] at hw
    obtain ⟨_, hw⟩ := bad_if hw
    obtain ⟨wa, wb⟩ := or_none hw
    obtain ⟨x0, hX⟩ := hX
    rw [allAt_app, flatV_len] at hX
    obtain ⟨xa, xb⟩ := hX
    have hY' : k ≠ 0 → AllAt (fun j v => Y j = v) (off + 1) (flatV ts V (k - 1) a (i + 1)) ∧ AllAt (fun j v => Y j = v) (off + 1 + a.size) (flatV ts V (k - 1) b (i + 2 + a.len)) := fun h => by
      have := (hY h).2
      rwa [allAt_app, flatV_len] at this
    simp only [nms, List.mem_append] at hn
    simp only [flat, AllAt]
    rw [allAt_app, flat_len]
    refine ⟨?_, iha _ dl _ _ h2 (by omega) wa (fun j hj => hn j (.inl hj)) xa (fun h => (hY' h).1), ihb _ dl _ _ h4 (by omega) wb (fun j hj => hn j (.inr hj)) xb (fun h => (hY' h).2)⟩
    rw [x0, bind_other (by simp [mkN]), valF6 rfl]
    have e1 := flatV_head xa
    have e2 := flatV_head xb
    show apF (lAt ts (i + 1 + a.len)) (evT ts V a (i + 1) k) (evT ts V b (i + 2 + a.len) k) = pairF ((opOf (lAt ts (i + 1 + a.len))).getD 0) (X (off + 1)) (X (off + 1 + a.size))
    rw [e1, e2]
    refine pair_ap h3 fun ho => ?_
    have hbo : bothR (lAt ts (i + 1 + a.len)) = 116 := by unfold bothR; rw [if_pos ho]
    rw [hbo] at wa wb
    exact ⟨ev_bit hF hV a _ k h2 (by omega) wa, ev_bit hF hV b _ k h4 (by omega) wb⟩

end

theorem flat_head {ts : List Tk} : ∀ (t : Ast) (i dl off : Nat), ∃ n l, flat ts t i dl off = n :: l ∧ n.delayed = decide (0 < dl) := by
  intro t i dl off
  cases t <;> exact ⟨_, _, rfl, rfl⟩
theorem flat_first {ts : List Tk} {D : Nat → Bool} {t : Ast} {i dl off : Nat} (h : AllAt (fun j n => D j = n.delayed) off (flat ts t i dl off)) : D off = decide (0 < dl) := by
  obtain ⟨n, l, e, hn⟩ := flat_head t i dl off (ts := ts)
  rw [e] at h
  rw [h.1, hn]

theorem leafN0_needs {ts : List Tk} (i dl : Nat) (t : Tk) : needs (mkN ts i dl (leafN0 t)) = [] := by
  have : (mkN ts i dl (leafN0 t)).kind ≤ 2 := by
    rw [mkN_kind]
    unfold leafN0
    split; · simp
    split; · simp
    split; · simp
    · simp
  unfold needs
  rw [if_neg (by omega), if_neg (by omega), if_neg (by omega), if_neg (by omega)]

theorem flat_kids {ts : List Tk} {D : Nat → Bool} : ∀ (t : Ast) (i dl off fin : Nat), off + t.size ≤ fin → AllAt (fun j n => D j = n.delayed) off (flat ts t i dl off) →
    AllAt (fun j n => ∀ c ∈ needs n, j < c ∧ c < fin ∧ D c = n.delayed) off (flat ts t i dl off) := by
  intro t
  induction t with
  | leaf => intro i dl off fin hf h; exact ⟨fun c hc => by rw [leafN0_needs] at hc; simp at hc, trivial⟩
  | neg a iha =>
    intro i dl off fin hf h
    simp only [Ast.size] at hf
    have pa := a.size_pos
    refine ⟨fun c hc => ?_, iha _ dl _ fin (by omega) h.2⟩
    have hc' : c = off + 1 := by simpa [needs, mkN] using hc
    subst hc'
    exact ⟨by omega, by omega, flat_first h.2⟩
  | ite a b c iha ihb ihc =>
    intro i dl off fin hf h
    simp only [Ast.size] at hf
    have pa := a.size_pos
    have pb := b.size_pos
    have pc := c.size_pos
    obtain ⟨h0, h⟩ := h
    rw [allAt_app, allAt_app, flat_len, flat_len] at h
    obtain ⟨ha, hb, hc⟩ := h
    simp only [flat, AllAt]
    rw [allAt_app, allAt_app, flat_len, flat_len]
    refine ⟨fun d hd => ?_, iha _ dl _ fin (by omega) ha, ihb _ dl _ fin (by omega) hb, ihc _ dl _ fin (by omega) hc⟩
    have hd' : d = off + 1 ∨ d = off + 1 + a.size ∨ d = off + 1 + a.size + b.size := by simpa [needs, mkN] using hd
    rcases hd' with rfl | rfl | rfl
    · exact ⟨by omega, by omega, flat_first ha⟩
    · exact ⟨by omega, by omega, flat_first hb⟩
    · exact ⟨by omega, by omega, flat_first hc⟩
  | dly b ihb =>
    intro i dl off fin hf h
    simp only [Ast.size] at hf
    refine ⟨fun c hc => ?_, fun c hc => by rw [leafN0_needs] at hc; simp at hc, ihb _ (dl + 1) _ fin (by omega) h.2.2⟩
    have hc' : c = off + 1 := by simpa [needs, mkN] using hc
    subst hc'
    exact ⟨by omega, by omega, h.2.1⟩
  | bin a b iha ihb =>
    intro i dl off fin hf h
    simp only [Ast.size] at hf
    have pa := a.size_pos
    have pb := b.size_pos
    obtain ⟨h0, h⟩ := h
    rw [allAt_app, flat_len] at h
    obtain ⟨ha, hb⟩ := h
    simp only [flat, AllAt]
    rw [allAt_app, flat_len]
    refine ⟨fun d hd => ?_, iha _ dl _ fin (by omega) ha, ihb _ dl _ fin (by omega) hb⟩
    have hd' : d = off + 1 ∨ d = off + 1 + a.size := by simpa [needs, mkN] using hd
    rcases hd' with rfl | rfl
    · exact ⟨by omega, by omega, flat_first ha⟩
    · exact ⟨by omega, by omega, flat_first hb⟩

end Go.Proofs.Ytmndgoapkmhglaa

/- Plain mathematics: a text that is found right, or right but for its places, has its parts. -/
namespace Go.Proofs.Ytmndgoapkmhglaa

theorem read_zero {ts : List Tk} {L : List Dl} (h : (readR ts L).1 = 0) : manyR ts L = none ∧ namesR ts L = none ∧ typesR ts L = none ∧ cycR ts L = none ∧ lpR ts L = none := by
  unfold readR at h
  cases h1 : manyR ts L with
  | some a => rw [h1] at h; cases h
  | none =>
    cases h2 : namesR ts L with
    | some a => rw [h1, h2] at h; cases h
    | none =>
      cases h3 : typesR ts L with
      | some a => rw [h1, h2, h3] at h; cases h
      | none =>
        cases h4 : cycR ts L with
        | some a => rw [h1, h2, h3, h4] at h; cases h
        | none =>
          cases h5 : lpR ts L with
          | some a => rw [h1, h2, h3, h4, h5] at h; cases h
          | none => exact ⟨rfl, rfl, rfl, rfl, rfl⟩

theorem text_small {s : ByteArray} (h : (textF s).1 ≠ 1) : s.size ≤ 1500 := by
  by_cases hs : 1500 < s.size
  · unfold textF at h; rw [if_pos hs] at h; exact absurd rfl h
  · omega

theorem rok_of {s : ByteArray} {L : List Dl} (hs : s.size ≤ 1500) (h : Spell (toks s) L 0) : ROk (toks s) L :=
  ⟨toks_F s, toks_end s, (toks_ok s hs).1, (toks_ok s hs).pos, h⟩

theorem good_text {s : ByteArray} (h : (textF s).1 = 0) : ∃ L, RGood s L ∧ Right (toks s) L ∧ ROk (toks s) L := by
  have hs := text_small (s := s) (by omega)
  rcases text_read s hs with ⟨k, _, ht, _⟩ | ⟨L, hsp, _, ht, hp⟩
  · rw [ht] at h; cases h
  · rw [ht] at h
    obtain ⟨h1, h2, h3, h4, h5⟩ := read_zero h
    exact ⟨L, ⟨h1, h2, h3, h4, h5, hsp, hp⟩, right_of (toks_F s) hsp h1 h2 h4, rok_of hs hsp⟩

end Go.Proofs.Ytmndgoapkmhglaa
