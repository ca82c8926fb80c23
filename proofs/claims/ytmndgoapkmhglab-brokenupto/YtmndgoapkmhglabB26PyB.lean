import Derived.Deep.OwnRows
import Derived.Test.YtmndgoapkmhglabB03ParA
import Derived.Test.YtmndgoapkmhglabB25Pick
/- Plain mathematics: of a right text every name is known, and known once; the passes of the document's own answer. -/
namespace Go.Proofs.Ytmndgoapkmhglab

theorem names_at {ts : List Tk} {L : List Dl} (h : namesR ts L = none) {k : Nat} (hk : k < ts.length) (hn : isNm ts k = true) : (hereR L k = true → aheadR ts L k = false) ∧ someR ts L k = true := by
  unfold namesR at h
  rw [Option.map_eq_none_iff, List.find?_eq_none] at h
  have := h k (by rw [List.mem_range'_1]; omega)
  unfold badNm qNm at this
  rw [hn] at this
  simp at this
  exact this

/-- what is known of a right text. -/
structure Right (ts : List Tk) (L : List Dl) : Prop extends Eqs ts L where
  own : ∀ x ∈ L, ∀ y ∈ L, (nameD ts x).data.toList = (nameD ts y).data.toList → x.i = y.i
  decl : ∀ k, k < ts.length → isNm ts k = true → ∃ x ∈ L, (nameD ts x).data.toList = lAt ts k
  pw : L.Pairwise (fun x y => x.i + x.len ≤ y.i)
  few : (eqL L).length ≤ 12 ∧ (inL L).length ≤ 4

theorem less_none {a b : Option Nat} (h : less a b = none) : a = none ∧ b = none := by
  cases a <;> cases b <;> simp_all [less]

theorem right_of {ts : List Tk} {L : List Dl} (hF : ∀ i, TkF (tkAt ts i)) (hs : Spell ts L 0) (hm : manyR ts L = none) (hn : namesR ts L = none) (hc : cycR ts L = none) : Right ts L := by
  have hmem := fun x hx => (spell_mem L 0 hs x hx).2
  have hnm : ∀ x ∈ L, x.i + 1 < ts.length ∧ isNm ts (x.i + 1) = true := fun x hx => by
    obtain ⟨h1, h2⟩ := hmem x hx
    have := x.len_pos
    refine ⟨by omega, ?_⟩
    unfold isNm
    rcases h2 with ⟨_, _, h, _⟩ | ⟨_, h, _⟩ <;> rw [h] <;> rfl
  have hown : ∀ x ∈ L, ∀ y ∈ L, (nameD ts x).data.toList = (nameD ts y).data.toList → ¬ x.i < y.i := fun x hx y hy he hlt => by
    obtain ⟨h1, h2⟩ := hnm y hy
    have h3 := (names_at hn h1 h2).1 (by unfold hereR; rw [List.any_eq_true]; exact ⟨y, hy, by simp⟩)
    unfold aheadR at h3
    rw [List.any_eq_false] at h3
    refine h3 x hx ?_
    simp only [Bool.and_eq_true, beq_iff_eq, decide_eq_true_eq]
    exact ⟨he, by omega⟩
  have hmany := less_none hm
  refine { F := hF, sp := fun x hx => ?_, cyc := hc, own := fun x hx y hy he => ?_, decl := fun k hk h => ?_, pw := spell_lt L 0 hs, few := ⟨?_, ?_⟩ }
  · have hm' := List.mem_filter.1 hx
    have hk : x.kind ≠ 0 := by simpa using hm'.2
    obtain ⟨h1, h2⟩ := hmem x hm'.1
    have hl : x.len = x.t.len + 6 := by unfold Dl.len; rw [if_neg hk]
    rcases h2 with ⟨h, _⟩ | ⟨_, _, _, _, _, h, _⟩
    · exact absurd h hk
    · exact ⟨h, by omega⟩
  · have a := hown x hx y hy he
    have b := hown y hy x hx he.symm
    omega
  · have h3 := (names_at hn hk h).2
    unfold someR at h3
    rw [List.any_eq_true] at h3
    obtain ⟨x, hx, he⟩ := h3
    exact ⟨x, hx, by simpa using he⟩
  · have := hmany.1
    rw [Option.map_eq_none_iff, List.getElem?_eq_none_iff] at this
    exact this
  · have := hmany.2
    rw [Option.map_eq_none_iff, List.getElem?_eq_none_iff] at this
    exact this

theorem nms_lt {ts : List Tk} (t : Ast) (i : Nat) : ∀ j ∈ nms ts t i, i ≤ j ∧ j < i + t.len := by
  intro j hj
  rw [nms_nmD ts t i false] at hj
  obtain ⟨x, hx, rfl⟩ := List.mem_map.1 hj
  exact nm_in t i false x hx

theorem nms_nm {ts : List Tk} : ∀ (t : Ast) (i : Nat), ∀ j ∈ nms ts t i, isNm ts j = true := by
  intro t
  induction t with
  | leaf =>
    intro i j h
    unfold nms at h
    split at h
    · rename_i hk; simp at h; rw [h]; unfold isNm; rw [hk]; rfl
    · simp at h
  | neg a iha => intro i j h; exact iha _ j h
  | ite a b c iha ihb ihc =>
    intro i j h
    simp only [nms, List.mem_append] at h
    exact h.elim (iha _ j) (fun h => h.elim (ihb _ j) (ihc _ j))
  | dly b ihb => intro i j h; exact ihb _ j h
  | bin a b iha ihb =>
    intro i j h
    simp only [nms, List.mem_append] at h
    exact h.elim (iha _ j) (ihb _ j)

theorem ix_some {l : List Dl} {p : Dl → Bool} {x : Dl} (hx : x ∈ l) (hp : p x = true) : ∃ j, l.findIdx? p = some j := by
  cases h : l.findIdx? p with
  | some j => exact ⟨j, rfl⟩
  | none => rw [List.findIdx?_eq_none_iff] at h; rw [h x hx] at hp; cases hp

theorem Right.find {ts : List Tk} {L : List Dl} (H : Right ts L) {k : Nat} (hk : k < ts.length) (hn : isNm ts k = true) : (∃ i, inIx ts L (lAt ts k) = some i) ∨ (∃ j, eqIx ts L (lAt ts k) = some j) := by
  obtain ⟨x, hx, he⟩ := H.decl k hk hn
  have hp : nmIs ts (lAt ts k) x = true := by unfold nmIs; rw [he]; simp
  by_cases h0 : x.kind = 0
  · exact .inl (ix_some (List.mem_filter.2 ⟨hx, by rw [h0]; rfl⟩) hp)
  · exact .inr (ix_some (List.mem_filter.2 ⟨hx, by simpa using h0⟩) hp)

/-- two equations of one name are one. -/
theorem Right.same {ts : List Tk} {L : List Dl} (H : Right ts L) {i j : Nat} {x y : Dl} (hx : (eqL L)[i]? = some x) (hy : (eqL L)[j]? = some y) (he : (nameD ts x).data.toList = (nameD ts y).data.toList) : i = j := by
  have mx : x ∈ L := (List.mem_filter.1 (List.mem_of_getElem? hx)).1
  have my : y ∈ L := (List.mem_filter.1 (List.mem_of_getElem? hy)).1
  have hi := H.own x mx y my he
  obtain ⟨h1, rfl⟩ := List.getElem?_eq_some_iff.1 hx
  obtain ⟨h2, rfl⟩ := List.getElem?_eq_some_iff.1 hy
  have hp : (eqL L).Pairwise (fun x y => x.i + x.len ≤ y.i) := H.pw.filter _
  rw [List.pairwise_iff_getElem] at hp
  rcases Nat.lt_trichotomy i j with h | h | h
  · have := hp i j h1 h2 h; have := (eqL L)[i].len_pos; omega
  · exact h
  · have := hp j i h2 h1 h; have := (eqL L)[j].len_pos; omega

/-- a name's value, as far as it is known. -/
def knR (ts : List Tk) (L : List Dl) (ins : List (List Int)) (R : Nat → Nat → Int) (D : Nat → Bool) (now : Nat) (w : List UInt8) (n : Nat) : Int × Bool :=
  match inIx ts L w with
  | some i => (elemF ins i n, true)
  | none => match eqIx ts L w with
    | some j => if decide (n < now) || D j then (R j n, true) else (0, false)
    | none => (0, false)

/-- how far the rows have come. -/
structure UpTo (ts : List Tk) (L : List Dl) (ins : List (List Int)) (R : Nat → Nat → Int) (D : Nat → Bool) (now : Nat) : Prop where
  old : ∀ j k, j < (eqL L).length → k < now → R j k = sol ts L ins j k
  new : ∀ j, j < (eqL L).length → D j = true → R j now = sol ts L ins j now

theorem inst_val {ts : List Tk} {L : List Dl} {ins : List (List Int)} {R : Nat → Nat → Int} {D : Nat → Bool} {now : Nat} (H : Right ts L) (h : UpTo ts L ins R D now) (j : Nat) (hj : j < (eqL L).length)
    (hk : (evR ts (knR ts L ins R D now) (eqL L)[j].t ((eqL L)[j].i + 5) now).2 = true) : (evR ts (knR ts L ins R D now) (eqL L)[j].t ((eqL L)[j].i + 5) now).1 = sol ts L ins j now := by
  rw [sol_eq H.toEqs j now hj]
  refine evR_val ts _ _ _ (fun w n' hn hw => ?_) hk
  unfold knR at hw ⊢
  unfold valV
  cases hi : inIx ts L w with
  | some i => rfl
  | none =>
    simp only [hi] at hw ⊢
    cases he : eqIx ts L w with
    | none => simp only [he] at hw; cases hw
    | some l =>
      simp only [he] at hw ⊢
      obtain ⟨z, hz, _⟩ := eqIx_some he
      have hlt : l < (eqL L).length := (List.getElem?_eq_some_iff.1 hz).1
      split at hw
      · rename_i hc
        rw [if_pos hc]
        show R l n' = _
        by_cases h1 : n' < now
        · exact h.old l n' hlt h1
        · have e : n' = now := by omega
          subst e
          have hd : D l = true := by simpa using hc
          exact h.new l hlt hd
      · cases hw

theorem inst_known {ts : List Tk} {L : List Dl} {ins : List (List Int)} {R : Nat → Nat → Int} {D : Nat → Bool} {now : Nat} (H : Right ts L) (j : Nat) (hj : j < (eqL L).length)
    (hd : ∀ l, l < (eqL L).length → relR ts L j l = true → D l = true) : (evR ts (knR ts L ins R D now) (eqL L)[j].t ((eqL L)[j].i + 5) now).2 = true := by
  have hx : (eqL L)[j]? = some (eqL L)[j] := List.getElem?_eq_getElem hj
  obtain ⟨hs, hl⟩ := H.sp (eqL L)[j] (List.getElem_mem hj)
  have hex : ∀ k ∈ nms ts (eqL L)[j].t ((eqL L)[j].i + 5), (∃ i, inIx ts L (lAt ts k) = some i) ∨ (∃ l, eqIx ts L (lAt ts k) = some l) := fun k hk => by
    have := nms_lt _ _ k hk
    exact H.find (by omega) (nms_nm _ _ k hk)
  refine evR_known ts _ _ _ (fun k hk => ?_) (fun k hk n' hn => ?_)
  · unfold knR
    cases hi : inIx ts L (lAt ts k) with
    | some i => rfl
    | none =>
      rcases hex k (und_nms ts _ _ k hk) with ⟨i, h⟩ | ⟨l, h⟩
      · rw [hi] at h; cases h
      · simp only [h]
        obtain ⟨z, hz, _⟩ := eqIx_some h
        rw [hd l (List.getElem?_eq_some_iff.1 hz).1 (rel_und H.F hx hs hl hk h)]
        simp
  · unfold knR
    cases hi : inIx ts L (lAt ts k) with
    | some i => rfl
    | none =>
      rcases hex k hk with ⟨i, h⟩ | ⟨l, h⟩
      · rw [hi] at h; cases h
      · simp only [h]
        rw [decide_eq_true hn]
        simp

/-- where the passes over an instant stand: behind so many passes, and so many equations of this one. -/
structure Pass (ts : List Tk) (L : List Dl) (ins : List (List Int)) (R : Nat → Nat → Int) (D : Nat → Bool) (now p i : Nat) : Prop where
  up : UpTo ts L ins R D now
  done : ∀ j, j < (eqL L).length → rk ts L j < p → D j = true
  here : ∀ j, j < i → j < (eqL L).length → rk ts L j ≤ p → D j = true

def setR (R : Nat → Nat → Int) (a b : Nat) (v : Int) : Nat → Nat → Int := fun i k => if i = a ∧ k = b then v else R i k
def setD (D : Nat → Bool) (a : Nat) (v : Bool) : Nat → Bool := fun i => if i = a then v else D i

theorem Pass.skip {ts : List Tk} {L : List Dl} {ins : List (List Int)} {R : Nat → Nat → Int} {D : Nat → Bool} {now p i : Nat} (h : Pass ts L ins R D now p i) (hd : D i = true) : Pass ts L ins R D now p (i + 1) :=
  ⟨h.up, h.done, fun j hj hj' hr => by
    by_cases e : j = i
    · rw [e]; exact hd
    · exact h.here j (by omega) hj' hr⟩

theorem Pass.next {ts : List Tk} {L : List Dl} {ins : List (List Int)} {R : Nat → Nat → Int} {D : Nat → Bool} {now p i : Nat} (H : Right ts L) (h : Pass ts L ins R D now p i) (hi : i < (eqL L).length) (hd : D i = false) :
    Pass ts L ins (setR R i now (evR ts (knR ts L ins R D now) (eqL L)[i].t ((eqL L)[i].i + 5) now).1) (setD D i (evR ts (knR ts L ins R D now) (eqL L)[i].t ((eqL L)[i].i + 5) now).2) now p (i + 1) := by
  refine ⟨⟨fun j k hj hk => ?_, fun j hj hD => ?_⟩, fun j hj hr => ?_, fun j hj hj' hr => ?_⟩
  · unfold setR; rw [if_neg (by omega)]; exact h.up.old j k hj hk
  · unfold setD at hD
    by_cases e : j = i
    · subst e
      rw [if_pos rfl] at hD
      unfold setR
      rw [if_pos ⟨rfl, rfl⟩]
      exact inst_val H h.up j hj hD
    · rw [if_neg e] at hD
      unfold setR
      rw [if_neg (by omega)]
      exact h.up.new j hj hD
  · unfold setD
    by_cases e : j = i
    · subst e; rw [h.done j hj hr] at hd; cases hd
    · rw [if_neg e]; exact h.done j hj hr
  · unfold setD
    by_cases e : j = i
    · subst e
      rw [if_pos rfl]
      refine inst_known H j hj' (fun l hl hrel => h.done l hl ?_)
      have := rk_less H.cyc hl hrel
      omega
    · rw [if_neg e]; exact h.here j (by omega) hj' hr

theorem Pass.over {ts : List Tk} {L : List Dl} {ins : List (List Int)} {R : Nat → Nat → Int} {D : Nat → Bool} {now p : Nat} (h : Pass ts L ins R D now p (eqL L).length) : Pass ts L ins R D now (p + 1) 0 :=
  ⟨h.up, fun j hj hr => h.here j hj hj (by omega), fun j hj => by omega⟩

theorem Pass.first {ts : List Tk} {L : List Dl} {ins : List (List Int)} {R : Nat → Nat → Int} {now : Nat} (h : ∀ j k, j < (eqL L).length → k < now → R j k = sol ts L ins j k) : Pass ts L ins R (fun _ => false) now 0 0 :=
  ⟨⟨h, fun j _ hd => by cases hd⟩, fun j _ hr => by omega, fun j hj => by omega⟩

theorem Pass.last {ts : List Tk} {L : List Dl} {ins : List (List Int)} {R : Nat → Nat → Int} {D : Nat → Bool} {now : Nat} (H : Right ts L) (h : Pass ts L ins R D now (eqL L).length 0) : ∀ j k, j < (eqL L).length → k < now + 1 → R j k = sol ts L ins j k := by
  intro j k hj hk
  by_cases h1 : k < now
  · exact h.up.old j k hj h1
  · have e : k = now := by omega
    subst e
    exact h.up.new j hj (h.done j hj (rk_lt H.cyc hj))

end Go.Proofs.Ytmndgoapkmhglab

/- Plain mathematics: what always holds of places that wake; what a place knows is how it is. -/
namespace Go.Proofs.Ytmndgoapkmhglab

/-- what always holds. -/
structure RunInv (N : List LnF) (P : PastF) : Prop where
  turn : ∀ pl, cntF P pl 2 ≤ cntF P pl 1 ∧ cntF P pl 1 ≤ cntF P pl 2 + 1
  sent : ∀ l, l < N.length → tkF l P ≤ cntF P (lnAt N l).src 2 ∧ cntF P (lnAt N l).src 2 ≤ tkF l P + 1
  slot : ∀ l, l < N.length → cntF P (lnAt N l).dst 1 ≤ tkF l P + lateN N l ∧ tkF l P + lateN N l ≤ cntF P (lnAt N l).dst 1 + 1

/-- links go to other places. -/
def Apart (N : List LnF) : Prop := ∀ l, l < N.length → (lnAt N l).src ≠ (lnAt N l).dst

theorem lateN_le (N : List LnF) (l : Nat) : lateN N l ≤ 1 := by unfold lateN; split <;> omega

section
variable {N : List LnF} {P : PastF} {a : OpF} (hO : PastOk N P a.a) (hI : RunInv N P)
include hO

theorem slot_eq (l : Nat) : slotF N P a l = (tkF l P : Int) + lateN N l - cntF P a.k 1 := by
  unfold slotF; rw [taken_all l hO, did_all hO]
include hI

/-- what can be taken: it was published, has come, was not taken, and the slot is empty. -/
theorem can_iff {l : Nat} (hl : l < N.length) : canF N P a l = true ↔ (lnAt N l).dst = a.k ∧ tkF l P < cntF P (lnAt N l).src 2 ∧ comesF (lnAt N l).src P 0 ≤ a.a ∧ tkF l P + lateN N l = cntF P a.k 1 := by
  have hs := hI.sent l hl
  unfold canF
  rw [slot_eq hO, taken_all l hO, did_come (lnAt N l).src P hO]
  simp only [Bool.and_eq_true, decide_eq_true_eq]
  constructor
  · rintro ⟨h1, h2, h3⟩
    split at h3
    · rename_i hc; exact ⟨h1, h3, hc, by omega⟩
    · omega
  · rintro ⟨h1, h2, h3, h4⟩
    refine ⟨h1, by omega, ?_⟩
    rw [if_pos h3]; exact h2

omit hO hI in
theorem took_mem {l : Nat} : l ∈ tookF N P a ↔ l < N.length ∧ canF N P a l = true := by
  unfold tookF
  rw [List.mem_filter, List.mem_range]

/-- it can step just if it holds nothing, and of each link to it one value is there that no step used. -/
theorem ready_iff : readyF N P a = true ↔ cntF P a.k 1 = cntF P a.k 2 ∧ ∀ l, l < N.length → (lnAt N l).dst = a.k → tkF l P + (if canF N P a l = true then 1 else 0) + lateN N l = cntF P a.k 1 + 1 := by
  unfold readyF
  rw [did_all hO, did_all hO, Bool.and_eq_true, decide_eq_true_iff, List.all_eq_true]
  refine and_congr Iff.rfl ⟨fun h l hl hd => ?_, fun h l hl => ?_⟩
  · have := h l (List.mem_range.2 hl)
    rw [hd] at this
    simp only [decide_true, Bool.not_true, Bool.false_or, decide_eq_true_eq] at this
    by_cases hc : canF N P a l = true
    · have := ((can_iff hO hI hl).1 hc).2.2.2
      rw [if_pos hc]; omega
    · rw [if_neg hc] at this ⊢
      rw [slot_eq hO] at this
      omega
  · by_cases hd : (lnAt N l).dst = a.k
    · have := h l (List.mem_range.1 hl) hd
      rw [hd]
      simp only [decide_true, Bool.not_true, Bool.false_or, decide_eq_true_eq]
      by_cases hc : canF N P a l = true
      · rw [if_pos hc]
      · rw [if_neg hc] at this ⊢
        rw [slot_eq hO]; omega
    · simp [hd]

/-- it can publish just if it holds values, and on each link from it the value ahead was taken, and that is known. -/
theorem free_iff : freeF N P a = true ↔ cntF P a.k 1 = cntF P a.k 2 + 1 ∧ ∀ l, l < N.length → (lnAt N l).src = a.k → tkF l P = cntF P a.k 2 ∧ (knownF l P 0 ≤ a.a ∨ tkF l P = 0) := by
  have ht := hI.turn a.k
  unfold freeF
  rw [did_all hO, did_all hO, Bool.and_eq_true, decide_eq_true_iff, List.all_eq_true]
  refine and_congr (by omega) ⟨fun h l hl hd => ?_, fun h l hl => ?_⟩
  · have := h l (List.mem_range.2 hl)
    rw [hd] at this
    simp only [decide_true, Bool.not_true, Bool.false_or, decide_eq_true_eq] at this
    rw [taken_known l P hO] at this
    have hs := hI.sent l hl
    rw [hd] at hs
    split at this
    · rename_i hc; exact ⟨this, .inl hc⟩
    · exact ⟨by omega, .inr (by omega)⟩
  · by_cases hd : (lnAt N l).src = a.k
    · obtain ⟨h1, h2⟩ := h l (List.mem_range.1 hl) hd
      rw [hd]
      simp only [decide_true, Bool.not_true, Bool.false_or, decide_eq_true_eq]
      rw [taken_known l P hO]
      split
      · exact h1
      · rcases h2 with h2 | h2
        · omega
        · omega
    · simp [hd]

end

theorem known_zero (l : Nat) : ∀ P : PastF, (∀ x ∈ P, x.2.took.Nodup) → tkF l P = 0 → ∀ z, knownF l P z = z := by
  intro P
  induction P with
  | nil => intro _ _ z; rfl
  | cons x P ih =>
    intro hn h z
    simp only [tkF] at h
    have hm : l ∉ x.2.took := fun hm => by
      have := List.count_pos_iff.2 hm
      omega
    simp only [knownF]
    rw [if_neg hm]
    exact ih (fun y hy => hn y (List.mem_cons_of_mem _ hy)) (by omega) z

/-- the acts of a script that is played. -/
structure ActsOk (sc : List OpF) : Prop where
  nn : ∀ x ∈ sc, 0 ≤ x.a
  gap : sc.Pairwise fun x y => x.a ≤ y.a ∧ (x.k = y.k → x.a + x.b < y.a ∧ x.a + x.c < y.a)

theorem tookF_nodup (N : List LnF) (P : PastF) (a : OpF) : (tookF N P a).Nodup := List.Pairwise.filter _ List.nodup_range
theorem tookF_in (N : List LnF) (P : PastF) (a : OpF) : ∀ l ∈ tookF N P a, l < N.length ∧ (lnAt N l).dst = a.k := by
  intro l hl
  unfold tookF at hl
  rw [List.mem_filter, List.mem_range] at hl
  refine ⟨hl.1, ?_⟩
  have := hl.2
  unfold canF at this
  simp only [Bool.and_eq_true, decide_eq_true_eq] at this
  exact this.1

theorem past_next {N : List LnF} {V : Int → Nat → List Int} {P : PastF} {a : OpF} (hO : PastOk N P a.a) (hg : ∀ x ∈ P, x.1.a ≤ a.a ∧ (x.1.k = a.k → x.1.a + x.1.b < a.a ∧ x.1.a + x.1.c < a.a)) : PastOk N (P ++ [(a, wakeF N V P a)]) a.a := by
  refine ⟨fun x hx => ?_, fun x hx => ?_, ?_, fun x hx => ?_⟩
  · rcases List.mem_append.1 hx with hx | hx
    · exact hO.same x hx
    · rw [List.mem_singleton] at hx; subst hx; exact ⟨rfl, rfl⟩
  · rcases List.mem_append.1 hx with hx | hx
    · exact hO.le x hx
    · rw [List.mem_singleton] at hx; subst hx; exact Int.le_refl _
  · rw [List.pairwise_append]
    exact ⟨hO.gap, List.pairwise_singleton _ _, fun x hx y hy => by rw [List.mem_singleton] at hy; subst hy; exact hg x hx⟩
  · rcases List.mem_append.1 hx with hx | hx
    · exact hO.took x hx
    · rw [List.mem_singleton] at hx; subst hx; exact ⟨tookF_nodup N P a, tookF_in N P a⟩

theorem PastOk.mono {N : List LnF} {P : PastF} {t u : Int} (h : PastOk N P t) (htu : t ≤ u) : PastOk N P u := ⟨h.same, fun x hx => Int.le_trans (h.le x hx) htu, h.gap, h.took⟩

/-- what the next event adds. -/
theorem cnt_next (N : List LnF) (V : Int → Nat → List Int) (P : PastF) (a : OpF) (pl what : Int) : cntF (P ++ [(a, wakeF N V P a)]) pl what = cntF P pl what + (if a.k = pl ∧ (wakeF N V P a).did = what then 1 else 0) := by
  rw [cntF_snoc]
  congr 1
  have e : isD pl what (a, wakeF N V P a) = decide (a.k = pl ∧ (wakeF N V P a).did = what) := by
    unfold isD
    show (decide (a.k = pl) && decide ((wakeF N V P a).did = what)) = _
    rw [Bool.decide_and]
  rw [e]
  simp only [decide_eq_true_eq]
theorem tk_next (N : List LnF) (V : Int → Nat → List Int) (P : PastF) (a : OpF) {l : Nat} (hl : l < N.length) : tkF l (P ++ [(a, wakeF N V P a)]) = tkF l P + (if canF N P a l = true then 1 else 0) := by
  rw [tkF_app]
  congr 1
  simp only [tkF, Nat.add_zero]
  show (tookF N P a).count l = _
  rw [count_one (tookF_nodup N P a) l]
  by_cases hc : canF N P a l = true
  · rw [if_pos hc, if_pos (by unfold tookF; rw [List.mem_filter, List.mem_range]; exact ⟨hl, hc⟩)]
  · rw [if_neg hc, if_neg (by unfold tookF; rw [List.mem_filter]; exact fun e => hc e.2)]
theorem did_cases (N : List LnF) (V : Int → Nat → List Int) (P : PastF) (a : OpF) : (readyF N P a = true ∧ (wakeF N V P a).did = 1) ∨ (readyF N P a = false ∧ freeF N P a = true ∧ (wakeF N V P a).did = 2) ∨ (readyF N P a = false ∧ freeF N P a = false ∧ (wakeF N V P a).did = 0) := by
  unfold wakeF
  cases readyF N P a <;> cases freeF N P a <;> simp

theorem inv_next {N : List LnF} {V : Int → Nat → List Int} {P : PastF} {a : OpF} (hA : Apart N) (hO : PastOk N P a.a) (hI : RunInv N P) : RunInv N (P ++ [(a, wakeF N V P a)]) := by
  have hcan : ∀ l, l < N.length → canF N P a l = true → (lnAt N l).dst = a.k ∧ tkF l P < cntF P (lnAt N l).src 2 ∧ tkF l P + lateN N l = cntF P a.k 1 := fun l hl h => by
    obtain ⟨h1, h2, _, h4⟩ := (can_iff hO hI hl).1 h
    exact ⟨h1, h2, h4⟩
  rcases did_cases N V P a with ⟨hr, hd⟩ | ⟨_, hf, hd⟩ | ⟨_, _, hd⟩
  · obtain ⟨e1, e2⟩ := (ready_iff hO hI).1 hr
    refine ⟨fun pl => ?_, fun l hl => ?_, fun l hl => ?_⟩
    · rw [cnt_next, cnt_next, hd]
      have := hI.turn pl
      by_cases h : a.k = pl
      · subst h; simp; omega
      · simp [h]; exact this
    · rw [cnt_next, tk_next N V P a hl, hd]
      have := hI.sent l hl
      by_cases hc : canF N P a l = true
      · have h := hcan l hl hc; rw [if_pos hc]; simp; omega
      · rw [if_neg hc]; simpa using this
    · rw [cnt_next, tk_next N V P a hl, hd]
      have := hI.slot l hl
      by_cases h : a.k = (lnAt N l).dst
      · have h3 := e2 l hl h.symm
        rw [← h, if_pos ⟨rfl, rfl⟩]; omega
      · have hc : ¬ canF N P a l = true := fun hc => h (hcan l hl hc).1.symm
        rw [if_neg hc, if_neg (fun e => h e.1)]; exact this
  · obtain ⟨e1, e2⟩ := (free_iff hO hI).1 hf
    refine ⟨fun pl => ?_, fun l hl => ?_, fun l hl => ?_⟩
    · rw [cnt_next, cnt_next, hd]
      have := hI.turn pl
      by_cases h : a.k = pl
      · subst h; simp; omega
      · simp [h]; exact this
    · rw [cnt_next, tk_next N V P a hl, hd]
      have := hI.sent l hl
      by_cases h : a.k = (lnAt N l).src
      · have hc : ¬ canF N P a l = true := fun hc => hA l hl (h.symm.trans (hcan l hl hc).1.symm)
        have := (e2 l hl h.symm).1
        rw [if_neg hc, if_pos ⟨h, rfl⟩, ← h]; omega
      · have hz : (if a.k = (lnAt N l).src ∧ (2 : Int) = 2 then 1 else 0) = 0 := if_neg (fun e => h e.1)
        rw [hz]
        by_cases hc : canF N P a l = true
        · have := hcan l hl hc; rw [if_pos hc]; omega
        · rw [if_neg hc]; exact this
    · rw [cnt_next, tk_next N V P a hl, hd]
      have := hI.slot l hl
      have hz : (if a.k = (lnAt N l).dst ∧ (2 : Int) = 1 then 1 else 0) = 0 := if_neg (fun e => by have := e.2; revert this; decide)
      rw [hz]
      by_cases hc : canF N P a l = true
      · have h := hcan l hl hc; rw [if_pos hc, h.1]; rw [h.1] at this; omega
      · rw [if_neg hc]; exact this
  · refine ⟨fun pl => ?_, fun l hl => ?_, fun l hl => ?_⟩
    · rw [cnt_next, cnt_next, hd]
      simpa using hI.turn pl
    · rw [cnt_next, tk_next N V P a hl, hd]
      have := hI.sent l hl
      have hz : (if a.k = (lnAt N l).src ∧ (0 : Int) = 2 then 1 else 0) = 0 := if_neg (fun e => by have := e.2; revert this; decide)
      rw [hz]
      by_cases hc : canF N P a l = true
      · have := hcan l hl hc; rw [if_pos hc]; omega
      · rw [if_neg hc]; exact this
    · rw [cnt_next, tk_next N V P a hl, hd]
      have := hI.slot l hl
      have hz : (if a.k = (lnAt N l).dst ∧ (0 : Int) = 1 then 1 else 0) = 0 := if_neg (fun e => by have := e.2; revert this; decide)
      rw [hz]
      by_cases hc : canF N P a l = true
      · have h := hcan l hl hc; rw [if_pos hc, h.1]; rw [h.1] at this; omega
      · rw [if_neg hc]; exact this

theorem inv_start (N : List LnF) : RunInv N [] := ⟨fun _ => by simp [cntF], fun l _ => by simp [cntF, tkF], fun l _ => by simp only [cntF, tkF, List.filter_nil, List.length_nil, Nat.zero_add]; have := lateN_le N l; omega⟩
theorem past_start (N : List LnF) (t : Int) : PastOk N [] t := ⟨fun x hx => by simp at hx, fun x hx => by simp at hx, List.Pairwise.nil, fun x hx => by simp at hx⟩

/-- a script played: what holds behind each of its acts. -/
theorem run_ind {N : List LnF} (hA : Apart N) (V : Int → Nat → List Int) {p : PastF → Prop} (h1 : ∀ P a, PastOk N P a.a → RunInv N P → 0 ≤ a.a → p P → p (P ++ [(a, wakeF N V P a)])) :
    ∀ (sc : List OpF) (P : PastF), (∀ x ∈ sc, 0 ≤ x.a) → (P.map Prod.fst ++ sc).Pairwise (fun x y => x.a ≤ y.a ∧ (x.k = y.k → x.a + x.b < y.a ∧ x.a + x.c < y.a)) → (∀ t, (∀ x ∈ P, x.1.a ≤ t) → PastOk N P t) → RunInv N P → p P → p (runG N V P sc) ∧ RunInv N (runG N V P sc) ∧ ∀ t, (∀ x ∈ runG N V P sc, x.1.a ≤ t) → PastOk N (runG N V P sc) t := by
  intro sc
  induction sc with
  | nil => intro P _ _ hO hI hp; exact ⟨hp, hI, hO⟩
  | cons a r ih =>
    intro P hn hg hO hI hp
    have hga := List.pairwise_append.1 hg
    have hx : ∀ x ∈ P, x.1.a ≤ a.a ∧ (x.1.k = a.k → x.1.a + x.1.b < a.a ∧ x.1.a + x.1.c < a.a) := fun x hx => hga.2.2 x.1 (List.mem_map.2 ⟨x, hx, rfl⟩) a (by simp)
    have hOa : PastOk N P a.a := hO a.a (fun x m => (hx x m).1)
    have hOn := past_next (V := V) hOa hx
    refine ih (P ++ [(a, wakeF N V P a)]) (fun x m => hn x (List.mem_cons_of_mem _ m)) (by simpa using hg) (fun t ht => ?_) (inv_next hA hOa hI) (h1 P a hOa hI (hn a (by simp)) hp)
    exact hOn.mono (ht (a, wakeF N V P a) (by simp))

end Go.Proofs.Ytmndgoapkmhglab

/- Plain mathematics: nothing is ever stuck. -/
namespace Go.Proofs.Ytmndgoapkmhglab

theorem did_app (P Q : PastF) (pl what now : Int) (data : Bool) : didF (P ++ Q) pl what now data = didF P pl what now data + didF Q pl what now data := by
  unfold didF; rw [List.filter_append, List.length_append]
theorem cnt_app (P Q : PastF) (pl what : Int) : cntF (P ++ Q) pl what = cntF P pl what + cntF Q pl what := by
  unfold cntF; rw [List.filter_append, List.length_append]
theorem did_none {S : PastF} {x : Int} (h : ∀ y ∈ S, x < y.2.a) (pl what : Int) : didF S pl what x false = 0 := by
  unfold didF
  rw [List.length_eq_zero_iff, List.filter_eq_nil_iff]
  intro y hy
  have := h y hy
  simp only [Bool.and_eq_true, decide_eq_true_eq, Bool.false_eq_true, if_false]
  omega
theorem taken_none {x : Int} (l : Nat) : ∀ {S : PastF}, (∀ y ∈ S, x < y.2.a) → takenF x l false S = 0 := by
  intro S
  induction S with
  | nil => intro _; rfl
  | cons y S ih =>
    intro h
    have := h y (by simp)
    simp only [takenF]
    rw [if_neg (by simp; omega), ih (fun z hz => h z (List.mem_cons_of_mem _ hz))]
theorem did_mono {P : PastF} {x y : Int} (h : x ≤ y) (pl what : Int) : didF P pl what x false ≤ didF P pl what y false := by
  refine past_ind (p := fun P => didF P pl what x false ≤ didF P pl what y false) (by simp [didF]) (fun P z ih => ?_) P
  rw [didF_snoc, didF_snoc]
  have : (if (isD pl what z && decide (z.2.a + (if false = true then z.1.c else 0) ≤ x)) = true then 1 else 0) ≤ if (isD pl what z && decide (z.2.a + (if false = true then z.1.c else 0) ≤ y)) = true then 1 else 0 := by
    simp only [Bool.false_eq_true, if_false]
    cases isD pl what z with
    | false => simp
    | true =>
      simp only [Bool.true_and, decide_eq_true_eq]
      by_cases h1 : z.2.a + 0 ≤ x
      · rw [if_pos h1, if_pos (by omega)]; exact Nat.le_refl _
      · rw [if_neg h1]; exact Nat.zero_le _
  omega
theorem taken_mono {x y : Int} (h : x ≤ y) (l : Nat) : ∀ (P : PastF), takenF x l false P ≤ takenF y l false P := by
  intro P
  induction P with
  | nil => exact Nat.le_refl _
  | cons z P ih =>
    simp only [takenF, Bool.false_eq_true, if_false]
    by_cases h1 : z.2.a + 0 ≤ x
    · rw [if_pos h1, if_pos (by omega)]; omega
    · rw [if_neg h1]; omega

/-- if all that was taken was taken by a time, it is known soon behind it. -/
theorem known_le {Dm y : Int} (hy : 0 ≤ y + Dm) (l : Nat) : ∀ P : PastF, (∀ x ∈ P, x.1.b ≤ Dm) → tkF l P ≤ takenF y l false P → knownF l P 0 ≤ y + Dm := by
  refine past_ind (fun _ _ => hy) (fun P x ih hb h => ?_)
  have hb' : ∀ z ∈ P, z.1.b ≤ Dm := fun z hz => hb z (List.mem_append_left _ hz)
  rw [tkF_app, takenF_app] at h
  simp only [tkF, takenF, Nat.add_zero, Bool.false_eq_true, if_false, Int.add_zero] at h
  have h1 := taken_le y l false P
  rw [knownF_app]
  simp only [knownF]
  by_cases hm : l ∈ x.2.took
  · have hc : 0 < x.2.took.count l := List.count_pos_iff.2 hm
    rw [if_pos hm]
    by_cases hx : x.2.a ≤ y
    · have := hb x (by simp); omega
    · rw [if_neg hx] at h; omega
  · rw [if_neg hm]
    refine ih hb' ?_
    have hc : x.2.took.count l = 0 := List.count_eq_zero.2 hm
    rw [hc] at h
    split at h <;> omega
theorem comes_le {Dm y : Int} (hy : 0 ≤ y + Dm) (pl : Int) : ∀ P : PastF, (∀ x ∈ P, x.1.c ≤ Dm) → cntF P pl 2 ≤ didF P pl 2 y false → comesF pl P 0 ≤ y + Dm := by
  refine past_ind (fun _ _ => hy) (fun P x ih hb h => ?_)
  have hb' : ∀ z ∈ P, z.1.c ≤ Dm := fun z hz => hb z (List.mem_append_left _ hz)
  rw [cntF_snoc, didF_snoc] at h
  simp only [Bool.false_eq_true, if_false, Int.add_zero] at h
  have h1 := did_le P pl 2 y false
  rw [comesF_app]
  simp only [comesF]
  cases hm : isD pl 2 x with
  | true =>
    rw [if_pos rfl]
    rw [hm] at h
    simp only [Bool.true_and, if_true] at h
    by_cases hx : x.2.a ≤ y
    · have := hb x (by simp); omega
    · rw [if_neg (by simpa using hx)] at h; omega
  | false =>
    rw [if_neg (by simp)]
    rw [hm] at h
    simp at h
    exact ih hb' h

section
variable {N : List LnF} {V : Int → Nat → List Int} {P : PastF} {a : OpF} (hO : PastOk N P a.a) (hI : RunInv N P)
include hO hI

/-- it publishes. -/
theorem go_publish {k : Nat} (h1 : k + 1 ≤ cntF P a.k 1) (h2 : ∀ l, l < N.length → (lnAt N l).src = a.k → k ≤ tkF l P ∧ (tkF l P ≤ k → knownF l P 0 ≤ a.a)) : k + 1 ≤ cntF (P ++ [(a, wakeF N V P a)]) a.k 2 := by
  rw [cnt_next]
  by_cases hd : k + 1 ≤ cntF P a.k 2
  · omega
  · have ht := hI.turn a.k
    have e2 : cntF P a.k 2 = k := by omega
    have e1 : cntF P a.k 1 = k + 1 := by omega
    have hnr : ¬ readyF N P a = true := fun hr => by have := ((ready_iff hO hI).1 hr).1; omega
    have hf : freeF N P a = true := by
      rw [free_iff hO hI]
      refine ⟨by omega, fun l hl hs => ?_⟩
      obtain ⟨g1, g2⟩ := h2 l hl hs
      have := (hI.sent l hl).1
      rw [hs] at this
      have e : tkF l P = k := by omega
      exact ⟨by omega, .inl (g2 (by omega))⟩
    rcases did_cases N V P a with ⟨hr, _⟩ | ⟨_, _, hd⟩ | ⟨_, hf', _⟩
    · exact absurd hr hnr
    · rw [hd, if_pos ⟨rfl, rfl⟩]; omega
    · rw [hf] at hf'; cases hf'

/-- it takes. -/
theorem go_take {m l : Nat} (hl : l < N.length) (hd : (lnAt N l).dst = a.k) (h1 : m ≤ cntF P (lnAt N l).src 2) (h2 : cntF P (lnAt N l).src 2 ≤ m → comesF (lnAt N l).src P 0 ≤ a.a) (h3 : m + lateN N l ≤ cntF P a.k 1 + 1) : m ≤ tkF l P + (if canF N P a l = true then 1 else 0) := by
  by_cases hm : m ≤ tkF l P
  · omega
  · have hs := hI.sent l hl
    have hsl := hI.slot l hl
    rw [hd] at hsl
    have hc : canF N P a l = true := by
      rw [can_iff hO hI hl]
      exact ⟨hd, by omega, h2 (by omega), by omega⟩
    rw [if_pos hc]; omega

/-- it steps. -/
theorem go_step {k : Nat} (h1 : k ≤ cntF P a.k 2) (h2 : ∀ l, l < N.length → (lnAt N l).dst = a.k → k + 1 ≤ tkF l P + (if canF N P a l = true then 1 else 0) + lateN N l) : k + 1 ≤ cntF (P ++ [(a, wakeF N V P a)]) a.k 1 := by
  rw [cnt_next]
  by_cases hd : k + 1 ≤ cntF P a.k 1
  · omega
  · have ht := hI.turn a.k
    have hr : readyF N P a = true := by
      rw [ready_iff hO hI]
      refine ⟨by omega, fun l hl hs => ?_⟩
      have g := h2 l hl hs
      have hsl := hI.slot l hl
      rw [hs] at hsl
      by_cases hc : canF N P a l = true
      · have := ((can_iff hO hI hl).1 hc).2.2.2
        rw [if_pos hc] at g ⊢; omega
      · rw [if_neg hc] at g ⊢; omega
    rcases did_cases N V P a with ⟨_, hd⟩ | ⟨hr', _, _⟩ | ⟨hr', _, _⟩
    · rw [hd, if_pos ⟨rfl, rfl⟩]; omega
    · rw [hr] at hr'; cases hr'
    · rw [hr] at hr'; cases hr'

end

theorem run_app (N : List LnF) (V : Int → Nat → List Int) : ∀ (s t : List OpF) (P : PastF), runG N V P (s ++ t) = runG N V (runG N V P s) t := by
  intro s
  induction s with
  | nil => intro t P; rfl
  | cons a s ih => intro t P; exact ih t _
theorem run_ext (N : List LnF) (V : Int → Nat → List Int) : ∀ (t : List OpF) (P : PastF), ∃ S, runG N V P t = P ++ S ∧ S.map Prod.fst = t ∧ ∀ x ∈ S, x.2.a = x.1.a := by
  intro t
  induction t with
  | nil => intro P; exact ⟨[], by simp [runG], rfl, fun x hx => by simp at hx⟩
  | cons a t ih =>
    intro P
    obtain ⟨S, h1, h2, h3⟩ := ih (P ++ [(a, wakeF N V P a)])
    refine ⟨(a, wakeF N V P a) :: S, ?_, by simp [h2], fun x hx => ?_⟩
    · show runG N V (P ++ [(a, wakeF N V P a)]) t = _
      rw [h1]; simp
    · rcases List.mem_cons.1 hx with rfl | hx
      · rfl
      · exact h3 x hx

/-- an act of a script that is played: what is there ahead of it, and behind it. -/
structure AtAct (N : List LnF) (V : Int → Nat → List Int) (sc : List OpF) (R : PastF) (a : OpF) (P : PastF) : Prop where
  ok : PastOk N P a.a
  inv : RunInv N P
  did0 : ∀ x, x < a.a → ∀ pl what, didF R pl what x false ≤ cntF P pl what
  tk0 : ∀ x, x < a.a → ∀ l, takenF x l false R ≤ tkF l P
  didP : ∀ x, x < a.a → ∀ pl what, didF P pl what x false = didF R pl what x false
  tkP : ∀ x, x < a.a → ∀ l, takenF x l false P = takenF x l false R
  did1 : ∀ pl what, cntF (P ++ [(a, wakeF N V P a)]) pl what ≤ didF R pl what a.a false
  tk1 : ∀ l, l < N.length → tkF l P + (if canF N P a l = true then 1 else 0) ≤ takenF a.a l false R
  mem : ∀ x ∈ P, x.1 ∈ sc

theorem at_act {N : List LnF} (hA : Apart N) (V : Int → Nat → List Int) {sc : List OpF} (hS : ActsOk sc) {a : OpF} (ha : a ∈ sc) : ∃ P, AtAct N V sc (runG N V [] sc) a P := by
  obtain ⟨s, t, rfl⟩ := List.append_of_mem ha
  have hg := List.pairwise_append.1 hS.gap
  have hind := run_ind hA V (p := fun _ => True) (fun _ _ _ _ _ _ => trivial) s [] (fun x hx => hS.nn x (List.mem_append_left _ hx)) (by simpa using hg.1) (fun t _ => past_start N t) (inv_start N) trivial
  obtain ⟨S0, f1, f2, f3⟩ := run_ext N V s []
  rw [List.nil_append] at f1
  have hPm : ∀ x ∈ runG N V [] s, x.1 ∈ s := fun x hx => by rw [← f2, ← f1]; exact List.mem_map.2 ⟨x, hx, rfl⟩
  have hle : ∀ x ∈ runG N V [] s, x.1.a ≤ a.a := fun x hx => (hg.2.2 x.1 (hPm x hx) a (by simp)).1
  obtain ⟨S, e1, e2, e3⟩ := run_ext N V t (runG N V [] s ++ [(a, wakeF N V (runG N V [] s) a)])
  have hR : runG N V [] (s ++ a :: t) = runG N V [] s ++ ([(a, wakeF N V (runG N V [] s) a)] ++ S) := by
    rw [run_app]
    show runG N V (runG N V [] s ++ [(a, wakeF N V (runG N V [] s) a)]) t = _
    rw [e1, List.append_assoc]
  have hlate : ∀ x, x < a.a → ∀ y ∈ [(a, wakeF N V (runG N V [] s) a)] ++ S, x < y.2.a := fun x hx y hy => by
    rcases List.mem_append.1 hy with hy | hy
    · rw [List.mem_singleton] at hy; subst hy; exact hx
    · have hyt : y.1 ∈ t := by rw [← e2]; exact List.mem_map.2 ⟨y, hy, rfl⟩
      have h2 := ((List.pairwise_cons.1 hg.2.1).1 y.1 hyt).1
      rw [e3 y hy]; omega
  have hO := hind.2.2 a.a hle
  refine ⟨runG N V [] s, hO, hind.2.1, ?_, ?_, ?_, ?_, ?_, ?_, ?_⟩
  · intro x hx pl what
    rw [hR, did_app, did_none (hlate x hx)]
    have := did_le (runG N V [] s) pl what x false
    omega
  · intro x hx l
    rw [hR, takenF_app, taken_none l (hlate x hx)]
    have := taken_le x l false (runG N V [] s)
    omega
  · intro x hx pl what
    rw [hR, did_app, did_none (hlate x hx)]; rfl
  · intro x hx l
    rw [hR, takenF_app, taken_none l (hlate x hx)]; rfl
  · intro pl what
    rw [hR, ← List.append_assoc, did_app]
    have h1 : didF (runG N V [] s ++ [(a, wakeF N V (runG N V [] s) a)]) pl what a.a false = cntF (runG N V [] s ++ [(a, wakeF N V (runG N V [] s) a)]) pl what :=
      did_all (past_next hO (fun x hx => hg.2.2 x.1 (hPm x hx) a (by simp))) pl what
    omega
  · intro l hl
    rw [hR, ← List.append_assoc, takenF_app, ← tk_next N V _ a hl]
    have h1 : takenF a.a l false (runG N V [] s ++ [(a, wakeF N V (runG N V [] s) a)]) = tkF l (runG N V [] s ++ [(a, wakeF N V (runG N V [] s) a)]) :=
      taken_all l (past_next hO (fun x hx => hg.2.2 x.1 (hPm x hx) a (by simp)))
    omega
  · intro x hx
    exact List.mem_append_left _ (hPm x hx)

end Go.Proofs.Ytmndgoapkmhglab

/- Plain mathematics: each place makes its step k no later than is told. -/
namespace Go.Proofs.Ytmndgoapkmhglab

/-- at every time: a step has used one value of each link. -/
theorem slot_at {N : List LnF} (hA : Apart N) (V : Int → Nat → List Int) {sc : List OpF} (hS : ActsOk sc) : ∀ (x : Int) (l : Nat), l < N.length → didF (runG N V [] sc) (lnAt N l).dst 1 x false ≤ takenF x l false (runG N V [] sc) + lateN N l := by
  refine (run_ind hA V (p := fun P => ∀ (x : Int) (l : Nat), l < N.length → didF P (lnAt N l).dst 1 x false ≤ takenF x l false P + lateN N l) (fun P a hO hI _ ih x l hl => ?_) sc [] hS.nn (by simpa using hS.gap) (fun t _ => past_start N t) (inv_start N) (fun x l _ => by simp [didF])).1
  rw [did_app, takenF_app]
  by_cases hx : x < a.a
  · have h1 : ∀ y ∈ [(a, wakeF N V P a)], x < y.2.a := fun y hy => by rw [List.mem_singleton] at hy; subst hy; exact hx
    rw [did_none h1, taken_none l h1]
    have := ih x l hl
    omega
  · have hOx := hO.mono (Int.not_lt.1 hx)
    have hn := (inv_next (V := V) hA hO hI).slot l hl
    have h1 : didF [(a, wakeF N V P a)] (lnAt N l).dst 1 x false = cntF [(a, wakeF N V P a)] (lnAt N l).dst 1 := by
      unfold didF cntF
      congr 1
      apply List.filter_congr
      intro y hy
      rw [List.mem_singleton] at hy
      subst hy
      have : decide ((wakeF N V P a).a + (if false = true then a.c else 0) ≤ x) = true := by
        simp only [Bool.false_eq_true, if_false, decide_eq_true_eq]
        show a.a + 0 ≤ x
        omega
      rw [this, Bool.and_true]
    have h2 : takenF x l false [(a, wakeF N V P a)] = tkF l [(a, wakeF N V P a)] := by
      simp only [takenF, tkF]
      rw [if_pos (by simp only [Bool.false_eq_true, if_false]; show a.a + 0 ≤ x; omega)]
    rw [did_all hOx, taken_all l hOx, h1, h2, ← cnt_app, ← tkF_app]
    exact hn.1

/-- a script within bounds, up to a time. -/
structure Bound (N : List LnF) (sc : List OpF) (Q : Int → Prop) (dep : Int → Nat) (Tm Dm h : Int) : Prop where
  ok : ActsOk sc
  dly : ∀ a ∈ sc, a.b ≤ Dm ∧ a.c ≤ Dm
  d0 : 0 ≤ Dm
  t1 : 1 ≤ Tm
  ends : ∀ l, l < N.length → Q (lnAt N l).src ∧ Q (lnAt N l).dst
  first : ∀ q, Q q → Tm ≤ h → ∃ a ∈ sc, a.k = q ∧ a.a ≤ Tm
  act : ∀ q, Q q → ∀ x, 0 ≤ x → x + Tm ≤ h → ∃ a ∈ sc, a.k = q ∧ x < a.a ∧ a.a ≤ x + Tm
  dep : ∀ l, l < N.length → lateN N l = 0 → dep (lnAt N l).src < dep (lnAt N l).dst

/-- what is done by a time, ahead of the steps k. -/
structure Reach (N : List LnF) (R : PastF) (Q : Int → Prop) (dep : Int → Nat) (k : Nat) (u : Int) : Prop where
  pub : ∀ q, Q q → k ≤ didF R q 2 u false
  tak : ∀ l, l < N.length → k ≤ takenF u l false R
  stp : ∀ q, Q q → k ≤ didF R q 1 u false
  low : ∀ q, Q q → dep q = 0 → k + 1 ≤ didF R q 1 u false

section
variable {N : List LnF} (hA : Apart N) (V : Int → Nat → List Int) {sc : List OpF} {Q : Int → Prop} {dep : Int → Nat} {Tm Dm h : Int} (hB : Bound N sc Q dep Tm Dm h)
include hA hB

/-- a place that holds values publishes them, when those ahead are taken. -/
theorem publish_by {k : Nat} {u y : Int} (hu : 0 ≤ u) (huy : u ≤ y) (htk : ∀ l, l < N.length → k ≤ takenF u l false (runG N V [] sc)) {q : Int} (hq : Q q) (hst : k + 1 ≤ didF (runG N V [] sc) q 1 y false) (hh : y + Dm + Tm ≤ h) : k + 1 ≤ didF (runG N V [] sc) q 2 (y + Dm + Tm) false := by
  have hd := hB.d0
  obtain ⟨a, ha, rfl, h1, h2⟩ := hB.act q hq (y + Dm) (by omega) hh
  obtain ⟨P, hP⟩ := at_act hA V hB.ok ha
  have h3 := go_publish (V := V) hP.ok hP.inv (k := k) (Nat.le_trans hst (hP.did0 y (by omega) _ _)) (fun l hl _ => by
    have g1 := htk l hl
    have g2 := hP.tk0 u (by omega) l
    refine ⟨by omega, fun g3 => ?_⟩
    have := known_le (Dm := Dm) (y := u) (by omega) l P (fun x hx => (hB.dly x.1 (hP.mem x hx)).1) (by rw [hP.tkP u (by omega) l]; omega)
    omega)
  exact Nat.le_trans h3 (Nat.le_trans (hP.did1 _ _) (did_mono h2 _ _))

theorem depth_by {k : Nat} {u : Int} (hu : 0 ≤ u) (hR : Reach N (runG N V [] sc) Q dep k u) : ∀ (d : Nat) (q : Int), Q q → dep q ≤ d → u + (d : Int) * (2 * (Tm + Dm)) ≤ h → k + 1 ≤ didF (runG N V [] sc) q 1 (u + (d : Int) * (2 * (Tm + Dm))) false := by
  have hd := hB.d0
  have ht := hB.t1
  intro d
  induction d with
  | zero =>
    intro q hq hdq hh
    have := hR.low q hq (by omega)
    simpa using this
  | succ d ih =>
    intro q hq hdq hh
    have e : ((d + 1 : Nat) : Int) * (2 * (Tm + Dm)) = (d : Int) * (2 * (Tm + Dm)) + 2 * (Tm + Dm) := by
      rw [Int.natCast_add, Int.add_mul]; simp
    rw [e] at hh ⊢
    have hp : 0 ≤ (d : Int) * (2 * (Tm + Dm)) := Int.mul_nonneg (by omega) (by omega)
    generalize (d : Int) * (2 * (Tm + Dm)) = z at *
    obtain ⟨a, ha, rfl, h1, h2⟩ := hB.act q hq (u + z + (Dm + Tm) + Dm) (by omega) (by omega)
    obtain ⟨P, hP⟩ := at_act hA V hB.ok ha
    have key := go_step (V := V) hP.ok hP.inv (k := k) (Nat.le_trans (hR.pub _ hq) (hP.did0 u (by omega) _ _)) (fun l hl hdst => by
      have g1 := hR.tak l hl
      have g2 := hP.tk0 u (by omega) l
      by_cases hlt : lateN N l = 0
      · have hdp := hB.dep l hl hlt
        rw [hdst] at hdp
        have hqs := (hB.ends l hl).1
        have s1 := ih _ hqs (by omega) (by omega)
        have s2 := publish_by hA V hB hu (show u ≤ u + z by omega) hR.tak hqs s1 (by omega)
        rw [show u + z + Dm + Tm = u + z + (Dm + Tm) by omega] at s2
        have s3 := go_take hP.ok hP.inv (m := k + 1) hl hdst (Nat.le_trans s2 (hP.did0 _ (by omega) _ _)) (fun g3 => by
          have := comes_le (Dm := Dm) (y := u + z + (Dm + Tm)) (by omega) (lnAt N l).src P (fun x hx => (hB.dly x.1 (hP.mem x hx)).2) (by rw [hP.didP _ (by omega)]; omega)
          omega) (by have := Nat.le_trans (hR.stp _ hq) (hP.did0 u (by omega) _ 1); omega)
        omega
      · have := lateN_le N l
        omega)
    exact Nat.le_trans key (Nat.le_trans (hP.did1 _ _) (did_mono (by omega) _ _))

/-- from the steps k to what is done ahead of the steps k + 1. -/
theorem reach_next {k : Nat} {t : Int} (ht0 : 0 ≤ t) (hst : ∀ q, Q q → k + 1 ≤ didF (runG N V [] sc) q 1 t false) (hh : t + 2 * (Tm + Dm) ≤ h) : Reach N (runG N V [] sc) Q dep (k + 1) (t + 2 * (Tm + Dm)) := by
  have hd := hB.d0
  have ht := hB.t1
  have hslot := slot_at hA V hB.ok
  have tk0 : ∀ l, l < N.length → k ≤ takenF t l false (runG N V [] sc) := fun l hl => by
    have h1 := hslot t l hl
    have h2 := hst _ (hB.ends l hl).2
    have := lateN_le N l
    omega
  have pub : ∀ q, Q q → k + 1 ≤ didF (runG N V [] sc) q 2 (t + Dm + Tm) false := fun q hq => publish_by hA V hB ht0 (Int.le_refl _) tk0 hq (hst q hq) (by omega)
  -- an act at which what was published is there
  have take : ∀ q, Q q → ∃ (a : OpF) (P : PastF), a.k = q ∧ a.a ≤ t + 2 * (Tm + Dm) ∧ AtAct N V sc (runG N V [] sc) a P ∧ k + 1 ≤ cntF P a.k 2 ∧ ∀ l, l < N.length → (lnAt N l).dst = a.k → k + 1 ≤ tkF l P + (if canF N P a l = true then 1 else 0) := fun q hq => by
    obtain ⟨a, ha, rfl, h1, h2⟩ := hB.act q hq (t + Dm + Tm + Dm) (by omega) (by omega)
    obtain ⟨P, hP⟩ := at_act hA V hB.ok ha
    refine ⟨a, P, rfl, by omega, hP, Nat.le_trans (pub _ hq) (hP.did0 _ (by omega) _ _), fun l hl hdst => ?_⟩
    by_cases hlt : lateN N l = 0
    · have g1 := hslot t l hl
      have g2 := hst _ (hB.ends l hl).2
      have g3 := hP.tk0 t (by omega) l
      omega
    · have hl1 : lateN N l = 1 := by have := lateN_le N l; omega
      have hqs := (hB.ends l hl).1
      exact go_take hP.ok hP.inv (m := k + 1) hl hdst (Nat.le_trans (pub _ hqs) (hP.did0 _ (by omega) _ _)) (fun g3 => by
        have g4 := pub _ hqs
        have := comes_le (Dm := Dm) (y := t + Dm + Tm) (by omega) (lnAt N l).src P (fun x hx => (hB.dly x.1 (hP.mem x hx)).2) (by rw [hP.didP _ (by omega)]; omega)
        omega) (by have := Nat.le_trans (hst _ hq) (hP.did0 t (by omega) _ 1); omega)
  refine ⟨fun q hq => Nat.le_trans (pub q hq) (did_mono (by omega) _ _), fun l hl => ?_, fun q hq => Nat.le_trans (hst q hq) (did_mono (by omega) _ _), fun q hq h0 => ?_⟩
  · obtain ⟨a, P, e, h2, hP, _, h4⟩ := take _ (hB.ends l hl).2
    exact Nat.le_trans (h4 l hl e.symm) (Nat.le_trans (hP.tk1 l hl) (taken_mono h2 l _))
  · obtain ⟨a, P, rfl, h2, hP, h3, h4⟩ := take q hq
    have key := go_step (V := V) hP.ok hP.inv (k := k + 1) h3 (fun l hl hdst => by
      have g1 := h4 l hl hdst
      by_cases hlt : lateN N l = 0
      · have := hB.dep l hl hlt
        rw [hdst] at this
        omega
      · have := lateN_le N l
        omega)
    exact Nat.le_trans key (Nat.le_trans (hP.did1 _ _) (did_mono h2 _ _))

theorem reach_zero (hh : Tm ≤ h) : Reach N (runG N V [] sc) Q dep 0 Tm := by
  refine ⟨fun _ _ => Nat.zero_le _, fun _ _ => Nat.zero_le _, fun _ _ => Nat.zero_le _, fun q hq h0 => ?_⟩
  obtain ⟨a, ha, rfl, h1⟩ := hB.first q hq hh
  obtain ⟨P, hP⟩ := at_act hA V hB.ok ha
  have key := go_step (V := V) hP.ok hP.inv (k := 0) (Nat.zero_le _) (fun l hl hdst => by
    by_cases hlt : lateN N l = 0
    · have := hB.dep l hl hlt
      rw [hdst] at this
      omega
    · omega)
  exact Nat.le_trans key (Nat.le_trans (hP.did1 _ _) (did_mono h1 _ _))

/-- the time by which all is done ahead of the steps k. -/
def reachT (Tm Dm : Int) (D : Nat) : Nat → Int
  | 0 => Tm
  | k + 1 => reachT Tm Dm D k + (D : Int) * (2 * (Tm + Dm)) + 2 * (Tm + Dm)

omit hA hB in
theorem reachT_nn {Tm Dm : Int} (ht : 1 ≤ Tm) (hd : 0 ≤ Dm) (D : Nat) : ∀ k, 0 ≤ reachT Tm Dm D k := by
  intro k
  induction k with
  | zero => show 0 ≤ Tm; omega
  | succ k ih =>
    show 0 ≤ reachT Tm Dm D k + (D : Int) * (2 * (Tm + Dm)) + 2 * (Tm + Dm)
    have : 0 ≤ (D : Int) * (2 * (Tm + Dm)) := Int.mul_nonneg (by omega) (by omega)
    omega

/-- NOTHING IS EVER STUCK: each place makes its step k by then. -/
theorem steps_by {D : Nat} (hD : ∀ q, Q q → dep q ≤ D) : ∀ k, (reachT Tm Dm D k ≤ h → Reach N (runG N V [] sc) Q dep k (reachT Tm Dm D k)) ∧ (reachT Tm Dm D k + (D : Int) * (2 * (Tm + Dm)) ≤ h → ∀ q, Q q → k + 1 ≤ didF (runG N V [] sc) q 1 (reachT Tm Dm D k + (D : Int) * (2 * (Tm + Dm))) false) := by
  have hd := hB.d0
  have ht := hB.t1
  have hz : 0 ≤ (D : Int) * (2 * (Tm + Dm)) := Int.mul_nonneg (by omega) (by omega)
  intro k
  induction k with
  | zero =>
    have h0 := reach_zero hA V hB
    refine ⟨h0, fun hh q hq => ?_⟩
    exact depth_by hA V hB (by show 0 ≤ Tm; omega) (h0 (by show Tm ≤ h; have : reachT Tm Dm D 0 = Tm := rfl; omega)) D q hq (hD q hq) hh
  | succ k ih =>
    have hn := reachT_nn ht hd D k
    have hr : reachT Tm Dm D (k + 1) ≤ h → Reach N (runG N V [] sc) Q dep (k + 1) (reachT Tm Dm D (k + 1)) := fun hh => by
      have e : reachT Tm Dm D (k + 1) = reachT Tm Dm D k + (D : Int) * (2 * (Tm + Dm)) + 2 * (Tm + Dm) := rfl
      rw [e] at hh ⊢
      exact reach_next hA V hB (by omega) (ih.2 (by omega)) hh
    refine ⟨hr, fun hh q hq => ?_⟩
    exact depth_by hA V hB (reachT_nn ht hd D (k + 1)) (hr (by omega)) D q hq (hD q hq) hh

omit hA hB in
theorem reachT_eq (Tm Dm : Int) (D k : Nat) : reachT Tm Dm D k = Tm + (k : Int) * (((D : Int) + 1) * (2 * (Tm + Dm))) := by
  induction k with
  | zero => show Tm = _; simp
  | succ k ih =>
    show reachT Tm Dm D k + (D : Int) * (2 * (Tm + Dm)) + 2 * (Tm + Dm) = _
    have e : ((D : Int) + 1) * (2 * (Tm + Dm)) = (D : Int) * (2 * (Tm + Dm)) + 2 * (Tm + Dm) := by rw [Int.add_mul, Int.one_mul]
    rw [ih, e]
    generalize (D : Int) * (2 * (Tm + Dm)) = A
    generalize 2 * (Tm + Dm) = B
    have e2 : ((k + 1 : Nat) : Int) * (A + B) = (k : Int) * (A + B) + (A + B) := by rw [Int.natCast_add, Int.add_mul]; simp
    rw [e2]
    omega

end

end Go.Proofs.Ytmndgoapkmhglab

/- the scene of a play, in memory. -/
namespace Go.Proofs.Ytmndgoapkmhglab
open Go.RowKit

/-- a wire. -/
structure WrF where
  src : Int
  dst : Int
  full : Bool
  unt : Bool
  comes : Int
  known : Int
def WrF.cell (x : WrF) : Nat → Value
  | 0 => .int .i64 x.src
  | 1 => .int .i64 x.dst
  | 2 => .bool x.full
  | 3 => .bool x.unt
  | 4 => .int .i64 x.comes
  | _ => .int .i64 x.known

/-- wires in a block. -/
def Wires (w : World) (g n : Nat) (F : Nat → WrF) : Prop := ∃ m f, w.rowIs g 141 m f ∧ ∀ l, l < n → ∀ j, j < 6 → l * 6 + j < m ∧ f (l * 6 + j) = (F l).cell j
theorem Wires.lt {w : World} {g n : Nat} {F : Nat → WrF} (h : Wires w g n F) : g < w.heap.size := by obtain ⟨m, f, h1, _⟩ := h; exact h1.lt
theorem Wires.froz {w : World} {g n : Nat} {F : Nat → WrF} (h : Wires w g n F) (i : Nat) : w.frozen? ⟨g, i, none⟩ = false := by obtain ⟨m, f, h1, _⟩ := h; exact h1.frozen i
theorem Wires.cell {w : World} {g n : Nat} {F : Nat → WrF} (h : Wires w g n F) {l : Nat} (hl : l < n) {j : Nat} (hj : j < 6) : w.cell? ⟨g, l * 6 + j, none⟩ = some ((F l).cell j) := by
  obtain ⟨m, f, h1, h2⟩ := h
  obtain ⟨h3, h4⟩ := h2 l hl j hj
  rw [h1.cell h3, h4]
theorem Wires.cells {w : World} {g n : Nat} {F : Nat → WrF} (h : Wires w g n F) {l : Nat} (hl : l < n) : w.cell? ⟨g, l * 6, none⟩ = some (.int .i64 (F l).src) ∧ w.cell? ⟨g, l * 6 + 1, none⟩ = some (.int .i64 (F l).dst) ∧ w.cell? ⟨g, l * 6 + 2, none⟩ = some (.bool (F l).full) ∧ w.cell? ⟨g, l * 6 + 3, none⟩ = some (.bool (F l).unt) ∧ w.cell? ⟨g, l * 6 + 4, none⟩ = some (.int .i64 (F l).comes) ∧ w.cell? ⟨g, l * 6 + 5, none⟩ = some (.int .i64 (F l).known) :=
  ⟨h.cell hl (j := 0) (by omega), h.cell hl (j := 1) (by omega), h.cell hl (j := 2) (by omega), h.cell hl (j := 3) (by omega), h.cell hl (j := 4) (by omega), h.cell hl (j := 5) (by omega)⟩
theorem Wires.of_block {w w' : World} {g n : Nat} {F : Nat → WrF} (h : Wires w g n F) (e : w'.heap[g]? = w.heap[g]?) : Wires w' g n F := by
  obtain ⟨m, f, h1, h2⟩ := h
  exact ⟨m, f, h1.of_block e, h2⟩
theorem Wires.set {w : World} {g n : Nat} {F F' : Nat → WrF} (h : Wires w g n F) {l j : Nat} (hj : j < 6) (v : Value) (hF : ∀ l', l' < n → ∀ j', j' < 6 → (F' l').cell j' = if l' = l ∧ j' = j then v else (F l').cell j') : Wires (w.setCell ⟨g, l * 6 + j, none⟩ v) g n F' := by
  obtain ⟨m, f, h1, h2⟩ := h
  refine ⟨m, _, h1.set (l * 6 + j) v, fun l' hl' j' hj' => ⟨(h2 l' hl' j' hj').1, ?_⟩⟩
  rw [hF l' hl' j' hj']
  show (if l' * 6 + j' = l * 6 + j then v else f (l' * 6 + j')) = _
  by_cases e : l' = l ∧ j' = j
  · rw [if_pos e, if_pos (by obtain ⟨rfl, rfl⟩ := e; rfl)]
  · rw [if_neg e, if_neg (by omega), (h2 l' hl' j' hj').2]
theorem Wires.congr {w : World} {g n : Nat} {F F' : Nat → WrF} (h : Wires w g n F) (e : ∀ l, l < n → F l = F' l) : Wires w g n F' := by
  obtain ⟨m, f, h1, h2⟩ := h
  exact ⟨m, f, h1, fun l hl j hj => by rw [← e l hl]; exact h2 l hl j hj⟩

/-- the cells of the scene. -/
def scF (vE vV vW : Value) (nx : Nat → Nat) (hd : Nat → Bool) : Nat → Value
  | 0 => vE
  | 1 => vV
  | 2 => vW
  | i + 3 => if i % 2 = 0 then .int .i64 ((nx (i / 2) : Nat) : Int) else .bool (hd (i / 2))

/-- THE SCENE: in block b, its wires where they lie; none of X is its own. -/
structure Scn (w : World) (X : Nat → Prop) (b : Nat) (aW : Option Addr) (n cW : Nat) (vE vV : Value) (F : Nat → WrF) (nx : Nat → Nat) (hd : Nat → Bool) : Prop where
  row : w.rowIs b 139 11 (scF vE vV (.slice aW n cW) nx hd)
  wi : 0 < n → ∃ g, aW = some ⟨g, 0, none⟩ ∧ Wires w g n F ∧ b ≠ g
  xb : ¬ X b
  xg : ∀ g, aW = some ⟨g, 0, none⟩ → ¬ X g
  xl : ∀ k, X k → k < w.heap.size
  few : n ≤ 6100
  az : n = 0 → aW = none

/-- what the scene is made of. -/
def scX (X : Nat → Prop) (b : Nat) (aW : Option Addr) (k : Nat) : Prop := X k ∨ k = b ∨ aW = some ⟨k, 0, none⟩

section
variable {w w' : World} {X : Nat → Prop} {b : Nat} {aW : Option Addr} {n cW : Nat} {vE vV : Value} {F : Nat → WrF} {nx : Nat → Nat} {hd : Nat → Bool}

theorem Scn.lt (h : Scn w X b aW n cW vE vV F nx hd) : b < w.heap.size := h.row.lt
theorem Scn.c0 (h : Scn w X b aW n cW vE vV F nx hd) : w.cell? ⟨b, 0, none⟩ = some vE := h.row.cell (i := 0) (by omega)
theorem Scn.c1 (h : Scn w X b aW n cW vE vV F nx hd) : w.cell? ⟨b, 1, none⟩ = some vV := h.row.cell (i := 1) (by omega)
theorem Scn.c2 (h : Scn w X b aW n cW vE vV F nx hd) : w.cell? ⟨b, 2, none⟩ = some (.slice aW n cW) := h.row.cell (i := 2) (by omega)
theorem Scn.cn (h : Scn w X b aW n cW vE vV F nx hd) {p : Nat} (hp : p < 4) : w.cell? ⟨b, 3 + p * 2, none⟩ = some (.int .i64 ((nx p : Nat) : Int)) := by
  rw [h.row.cell (i := 3 + p * 2) (by omega), Nat.add_comm]
  show some (if p * 2 % 2 = 0 then _ else _) = _
  rw [if_pos (by omega), Nat.mul_div_cancel _ (by omega)]
theorem Scn.ch (h : Scn w X b aW n cW vE vV F nx hd) {p : Nat} (hp : p < 4) : w.cell? ⟨b, 3 + p * 2 + 1, none⟩ = some (.bool (hd p)) := by
  rw [h.row.cell (i := 3 + p * 2 + 1) (by omega), show 3 + p * 2 + 1 = (p * 2 + 1) + 3 by omega]
  show some (if (p * 2 + 1) % 2 = 0 then _ else _) = _
  rw [if_neg (by omega), show (p * 2 + 1) / 2 = p by omega]
theorem Scn.froz (h : Scn w X b aW n cW vE vV F nx hd) (i : Nat) : w.frozen? ⟨b, i, none⟩ = false := h.row.frozen i

theorem Scn.fr (h : Scn w X b aW n cW vE vV F nx hd) (hf : Fr (scX X b aW) w w') : Scn w' X b aW n cW vE vV F nx hd :=
  ⟨h.row.of_block (hf.block b (.inr (.inl rfl))), fun hp => by
    obtain ⟨g, e, h1, h2⟩ := h.wi hp
    exact ⟨g, e, h1.of_block (hf.block g (.inr (.inr e))), h2⟩, h.xb, h.xg, fun k hk => Nat.lt_of_lt_of_le (h.xl k hk) hf.size, h.few, h.az⟩
theorem Scn.sl (h : Scn w X b aW n cW vE vV F nx hd) : ∀ k, scX X b aW k → k < w.heap.size := by
  rintro k (hk | rfl | hk)
  · exact h.xl k hk
  · exact h.lt
  · rcases Nat.eq_zero_or_pos n with hn | hp
    rotate_left
    · obtain ⟨g, e, h1, _⟩ := h.wi hp
      rw [e] at hk
      cases hk
      exact h1.lt
    · rw [h.az hn] at hk; cases hk
theorem Scn.grown (h : Scn w X b aW n cW vE vV F nx hd) {ob : Option Nat} (hg : w.grownBy w' ob) (hk : ∀ k, ob = some k → ¬ scX X b aW k) : Scn w' X b aW n cW vE vV F nx hd ∧ Fr X w w' := by
  have hf : Fr (scX X b aW) w w' := ⟨hg.os, hg.tape, hg.output, hg.size, fun k hx => hg.block k (h.sl k hx) (fun e => hk k e.symm hx)⟩
  exact ⟨h.fr hf, hf.mono fun k hx => .inl hx⟩
theorem Scn.below (h : Scn w X b aW n cW vE vV F nx hd) (hb : Below w.heap.size w w') : Scn w' X b aW n cW vE vV F nx hd :=
  ⟨h.row.of_block (hb.block b h.lt), fun hp => by
    obtain ⟨g, e, h1, h2⟩ := h.wi hp
    exact ⟨g, e, h1.of_block (hb.block g h1.lt), h2⟩, h.xb, h.xg, fun k hk => Nat.lt_of_lt_of_le (h.xl k hk) hb.size, h.few, h.az⟩
theorem Scn.more (h : Scn w X b aW n cW vE vV F nx hd) {Y : Nat → Prop} (h1 : ¬ Y b) (h2 : ∀ g, aW = some ⟨g, 0, none⟩ → ¬ Y g) (h3 : ∀ k, Y k → k < w.heap.size) : Scn w Y b aW n cW vE vV F nx hd := ⟨h.row, h.wi, h1, h2, h3, h.few, h.az⟩
theorem Scn.congr (h : Scn w X b aW n cW vE vV F nx hd) {F' : Nat → WrF} {nx' : Nat → Nat} {hd' : Nat → Bool} (e : ∀ l, l < n → F l = F' l) (e1 : ∀ p, p < 4 → nx p = nx' p) (e2 : ∀ p, p < 4 → hd p = hd' p) : Scn w X b aW n cW vE vV F' nx' hd' := by
  refine ⟨h.row.congr fun i hi => ?_, fun hp => ?_, h.xb, h.xg, h.xl, h.few, h.az⟩
  · match i, hi with
    | 0, _ => rfl
    | 1, _ => rfl
    | 2, _ => rfl
    | i + 3, hi =>
      show (if i % 2 = 0 then _ else _) = (if i % 2 = 0 then _ else _)
      rw [e1 (i / 2) (by omega), e2 (i / 2) (by omega)]
  · obtain ⟨g, e3, h1, h2⟩ := h.wi hp
    exact ⟨g, e3, h1.congr e, h2⟩
/-- a wire's cell is written. -/
theorem Scn.setW (h : Scn w X b aW n cW vE vV F nx hd) {F' : Nat → WrF} {g l j : Nat} (hg : aW = some ⟨g, 0, none⟩) (hl : l < n) (hj : j < 6) (v : Value) (hF : ∀ l', l' < n → ∀ j', j' < 6 → (F' l').cell j' = if l' = l ∧ j' = j then v else (F l').cell j') :
    Scn (w.setCell ⟨g, l * 6 + j, none⟩ v) X b aW n cW vE vV F' nx hd := by
  obtain ⟨g', e, h1, h2⟩ := h.wi (by omega)
  have eg : g' = g := by rw [hg] at e; cases e; rfl
  subst eg
  exact ⟨h.row.setOther (a := ⟨g', l * 6 + j, none⟩) h2 v, fun _ => ⟨g', e, h1.set hj v hF, h2⟩, h.xb, h.xg, fun k hk => by simpa using h.xl k hk, h.few, h.az⟩
/-- a place's cells are written. -/
theorem Scn.setN (h : Scn w X b aW n cW vE vV F nx hd) {p : Nat} (hp : p < 4) (x : Nat) : Scn (w.setCell ⟨b, 3 + p * 2, none⟩ (.int .i64 (x : Int))) X b aW n cW vE vV F (fun q => if q = p then x else nx q) hd := by
  refine ⟨(h.row.set (3 + p * 2) _).congr fun i hi => ?_, fun hq => ?_, h.xb, h.xg, fun k hk => by simpa using h.xl k hk, h.few, h.az⟩
  · match i, hi with
    | 0, _ => rw [if_neg (by omega)]; rfl
    | 1, _ => rw [if_neg (by omega)]; rfl
    | 2, _ => rw [if_neg (by omega)]; rfl
    | i + 3, hi =>
      show _ = if i % 2 = 0 then Value.int .i64 (((if i / 2 = p then x else nx (i / 2)) : Nat) : Int) else _
      by_cases e : i + 3 = 3 + p * 2
      · rw [if_pos e, if_pos (by omega), if_pos (by omega)]
      · rw [if_neg e]
        show (if i % 2 = 0 then _ else _) = _
        by_cases e2 : i % 2 = 0
        · rw [if_pos e2, if_pos e2, if_neg (by omega)]
        · rw [if_neg e2, if_neg e2]
  · obtain ⟨g, e, h1, h2⟩ := h.wi hq
    exact ⟨g, e, h1.of_block (heap_setCell_other w ⟨b, _, none⟩ g _ (Ne.symm h2)), h2⟩
theorem Scn.setH (h : Scn w X b aW n cW vE vV F nx hd) {p : Nat} (hp : p < 4) (x : Bool) : Scn (w.setCell ⟨b, 3 + p * 2 + 1, none⟩ (.bool x)) X b aW n cW vE vV F nx (fun q => if q = p then x else hd q) := by
  refine ⟨(h.row.set (3 + p * 2 + 1) _).congr fun i hi => ?_, fun hq => ?_, h.xb, h.xg, fun k hk => by simpa using h.xl k hk, h.few, h.az⟩
  · match i, hi with
    | 0, _ => rw [if_neg (by omega)]; rfl
    | 1, _ => rw [if_neg (by omega)]; rfl
    | 2, _ => rw [if_neg (by omega)]; rfl
    | i + 3, hi =>
      show _ = if i % 2 = 0 then _ else Value.bool (if i / 2 = p then x else hd (i / 2))
      by_cases e : i + 3 = 3 + p * 2 + 1
      · rw [if_pos e, if_neg (by omega), if_pos (by omega)]
      · rw [if_neg e]
        show (if i % 2 = 0 then _ else _) = _
        by_cases e2 : i % 2 = 0
        · rw [if_pos e2, if_pos e2]
        · rw [if_neg e2, if_neg e2, if_neg (by omega)]
  · obtain ⟨g, e, h1, h2⟩ := h.wi hq
    exact ⟨g, e, h1.of_block (heap_setCell_other w ⟨b, _, none⟩ g _ (Ne.symm h2)), h2⟩
end

/-- an act in its box. -/
def ActAt (w : World) (A : Nat) (o : OpF) : Prop := w.rowIs A 43 4 (fun i => if i = 0 then .int .i64 o.k else if i = 1 then .int .i64 o.a else if i = 2 then .int .i64 o.b else .int .i64 o.c)
theorem ActAt.cells {w : World} {A : Nat} {o : OpF} (h : ActAt w A o) : w.cell? ⟨A, 0, none⟩ = some (.int .i64 o.k) ∧ w.cell? ⟨A, 1, none⟩ = some (.int .i64 o.a) ∧ w.cell? ⟨A, 2, none⟩ = some (.int .i64 o.b) ∧ w.cell? ⟨A, 3, none⟩ = some (.int .i64 o.c) :=
  ⟨h.cell (i := 0) (by omega), h.cell (i := 1) (by omega), h.cell (i := 2) (by omega), h.cell (i := 3) (by omega)⟩
theorem ActAt.boxed (w : World) (o : OpF) : ActAt (w.alloc (.cells #[.int .i64 o.k, .int .i64 o.a, .int .i64 o.b, .int .i64 o.c] 43)) w.heap.size o :=
  World.rowIs_alloc w #[.int .i64 o.k, .int .i64 o.a, .int .i64 o.b, .int .i64 o.c] _ _ (fun i hi => by
    have : i < 4 := hi
    have : i = 0 ∨ i = 1 ∨ i = 2 ∨ i = 3 := by omega
    rcases this with rfl | rfl | rfl | rfl <;> rfl)

end Go.Proofs.Ytmndgoapkmhglab

/- the scene: full, free. -/
namespace Go.Proofs.Ytmndgoapkmhglab
open Go.RowKit
attribute [local go_sem ↓] Go.wp_at_zero Go.wp_at_succ

set_option maxHeartbeats 2000000 in
set_option maxRecDepth 100000 in
theorem pfull_any {w : World} {X : Nat → Prop} {b : Nat} {aW : Option Addr} {n cW : Nat} {vE vV : Value} {F : Nat → WrF} {nx : Nat → Nat} {hd : Nat → Bool} (h : Scn w X b aW n cW vE vV F nx hd) (o : OpF) :
    Calls Try.prog 101 #[.pointer (some ⟨b, 0, none⟩), .agg #[.int .i64 o.k, .int .i64 o.a, .int .i64 o.b, .int .i64 o.c]] w fun e w' => e = .returned (.bool ((List.range n).all fun l => !decide ((F l).dst = o.k) || (F l).full)) ∧ Below w.heap.size w w' := by
  obtain ⟨w0, hw0⟩ : ∃ w0, w0 = w.alloc (.cells #[.int .i64 o.k, .int .i64 o.a, .int .i64 o.b, .int .i64 o.c] 43) := ⟨_, rfl⟩
  have hb0 : Below w.heap.size w w0 := by rw [hw0]; exact (Below.refl _ _).alloc (Nat.le_refl _) _
  have hA : ActAt w0 w.heap.size o := by rw [hw0]; exact ActAt.boxed w o
  have hs0 := h.below hb0
  have c2 := hs0.c2
  have hfew := h.few
  have HA := hide hA
  have HS := hide hs0
  have HB0 := hide hb0
  rw [hw0] at c2
  have HW0 := hide hw0
  clear hb0 hA hs0 h hw0
  go_enter Try.func101, Try.ntmps101
  go_wp2
  go_loopw [12] (fun vi wr => ∃ l : Nat, l ≤ n ∧ vi = .int .i64 l ∧ Below w0.heap.size w0 wr ∧ ((List.range l).all fun l => !decide ((F l).dst = o.k) || (F l).full) = true) (fun vi _ => n - (intOf vi).toNat)
  case atStart => exact ⟨0, Nat.zero_le _, rfl, by rw [HW0.out]; exact Below.refl _ _, rfl⟩
  case round =>
    obtain ⟨l, hl, rfl, hbr, hall⟩ := hrel
    have HAL := hide hall
    have HBR := hide hbr
    have HWR : Hid (Below w.heap.size w wr) := hide (HB0.out.trans (hbr.mono HB0.out.size))
    clear hall c2
    by_cases hil : l < n
    · obtain ⟨g, rfl, hW, hne⟩ := (HS.out.below hbr).wi (by omega)
      obtain ⟨x0, x1, x2, x3, x4, x5⟩ := hW.cells hil
      have k0 : ∀ u, (wr.alloc u).cell? ⟨w.heap.size, 0, none⟩ = some (.int .i64 o.k) := fun u => (((hbr.alloc hbr.size u).cell (p := ⟨w.heap.size, 0, none⟩) HA.out.lt).trans HA.out.cells.1)
      have j3 : (0 : Int) ≤ (l : Int) := by omega
      have j4 : (l : Int) < (n : Int) := by omega
      have HST := hide (@all_step l (fun l => !decide ((F l).dst = o.k) || (F l).full) HAL.out)
      have HFL : Hid ((!decide ((F l).dst = o.k) || (F l).full) = false → ((List.range n).all fun l => !decide ((F l).dst = o.k) || (F l).full) = false) := hide (fun e => all_fail hil e)
      clear hW hbr
      obtain ⟨p1, hp1⟩ : ∃ p1, ((F l).dst == o.k) = p1 := ⟨_, rfl⟩
      have hd1 : decide ((F l).dst = o.k) = p1 := by rw [← hp1]; rfl
      rw [hd1] at HST HFL
      clear hd1
      cases p1 with
      | false =>
        go_wp2
        go_roundw
        case rel => exact ⟨l + 1, by omega, by go_num, HBR.out.alloc HBR.out.size _, HST.out rfl⟩
        case measure => simp [intOf]; omega
      | true =>
        obtain ⟨fl, hfl⟩ : ∃ fl, (F l).full = fl := ⟨_, rfl⟩
        rw [hfl] at HST HFL x2
        clear hfl
        cases fl with
        | false =>
          go_wp2
          go_ret
          exact ⟨by rw [HFL.out rfl]; rfl, HWR.out.alloc HWR.out.size _⟩
        | true =>
          go_wp2
          go_roundw
          case rel => exact ⟨l + 1, by omega, by go_num, HBR.out.alloc HBR.out.size _, HST.out rfl⟩
          case measure => simp [intOf]; omega
    · have ek : l = n := by omega
      subst ek
      clear hbr
      go_wp2
      go_ret
      exact ⟨by rw [HAL.out]; rfl, HWR.out⟩

set_option maxHeartbeats 2000000 in
set_option maxRecDepth 100000 in
theorem pfree_any {w : World} {X : Nat → Prop} {b : Nat} {aW : Option Addr} {n cW : Nat} {vE vV : Value} {F : Nat → WrF} {nx : Nat → Nat} {hd : Nat → Bool} (h : Scn w X b aW n cW vE vV F nx hd) (o : OpF) :
    Calls Try.prog 103 #[.pointer (some ⟨b, 0, none⟩), .agg #[.int .i64 o.k, .int .i64 o.a, .int .i64 o.b, .int .i64 o.c]] w fun e w' => e = .returned (.bool ((List.range n).all fun l => !decide ((F l).src = o.k) || (!(F l).unt && decide ((F l).known ≤ o.a)))) ∧ Below w.heap.size w w' := by
  obtain ⟨w0, hw0⟩ : ∃ w0, w0 = w.alloc (.cells #[.int .i64 o.k, .int .i64 o.a, .int .i64 o.b, .int .i64 o.c] 43) := ⟨_, rfl⟩
  have hb0 : Below w.heap.size w w0 := by rw [hw0]; exact (Below.refl _ _).alloc (Nat.le_refl _) _
  have hA : ActAt w0 w.heap.size o := by rw [hw0]; exact ActAt.boxed w o
  have hs0 := h.below hb0
  have c2 := hs0.c2
  have hfew := h.few
  have HA := hide hA
  have HS := hide hs0
  have HB0 := hide hb0
  rw [hw0] at c2
  have HW0 := hide hw0
  clear hb0 hA hs0 h hw0
  go_enter Try.func103, Try.ntmps103
  go_wp2
  go_loopw [12] (fun vi wr => ∃ l : Nat, l ≤ n ∧ vi = .int .i64 l ∧ Below w0.heap.size w0 wr ∧ ((List.range l).all fun l => !decide ((F l).src = o.k) || (!(F l).unt && decide ((F l).known ≤ o.a))) = true) (fun vi _ => n - (intOf vi).toNat)
  case atStart => exact ⟨0, Nat.zero_le _, rfl, by rw [HW0.out]; exact Below.refl _ _, rfl⟩
  case round =>
    obtain ⟨l, hl, rfl, hbr, hall⟩ := hrel
    have HAL := hide hall
    have HBR := hide hbr
    have HWR : Hid (Below w.heap.size w wr) := hide (HB0.out.trans (hbr.mono HB0.out.size))
    clear hall c2
    by_cases hil : l < n
    · obtain ⟨g, rfl, hW, hne⟩ := (HS.out.below hbr).wi (by omega)
      obtain ⟨x0, x1, x2, x3, x4, x5⟩ := hW.cells hil
      have k0 : ∀ u, (wr.alloc u).cell? ⟨w.heap.size, 0, none⟩ = some (.int .i64 o.k) := fun u => (((hbr.alloc hbr.size u).cell (p := ⟨w.heap.size, 0, none⟩) HA.out.lt).trans HA.out.cells.1)
      have k1 : ∀ u, (wr.alloc u).cell? ⟨w.heap.size, 1, none⟩ = some (.int .i64 o.a) := fun u => (((hbr.alloc hbr.size u).cell (p := ⟨w.heap.size, 1, none⟩) HA.out.lt).trans HA.out.cells.2.1)
      have j3 : (0 : Int) ≤ (l : Int) := by omega
      have j4 : (l : Int) < (n : Int) := by omega
      have HST := hide (@all_step l (fun l => !decide ((F l).src = o.k) || (!(F l).unt && decide ((F l).known ≤ o.a))) HAL.out)
      have HFL : Hid ((!decide ((F l).src = o.k) || (!(F l).unt && decide ((F l).known ≤ o.a))) = false → ((List.range n).all fun l => !decide ((F l).src = o.k) || (!(F l).unt && decide ((F l).known ≤ o.a))) = false) := hide (fun e => all_fail hil e)
      clear hW hbr
      obtain ⟨p1, hp1⟩ : ∃ p1, ((F l).src == o.k) = p1 := ⟨_, rfl⟩
      have hd1 : decide ((F l).src = o.k) = p1 := by rw [← hp1]; rfl
      rw [hd1] at HST HFL
      clear hd1
      cases p1 with
      | false =>
        go_wp2
        go_roundw
        case rel => exact ⟨l + 1, by omega, by go_num, HBR.out.alloc HBR.out.size _, HST.out rfl⟩
        case measure => simp [intOf]; omega
      | true =>
        obtain ⟨fl, hfl⟩ : ∃ fl, (F l).unt = fl := ⟨_, rfl⟩
        rw [hfl] at HST HFL x3
        clear hfl
        cases fl with
        | true =>
          go_wp2
          go_ret
          exact ⟨by rw [HFL.out rfl]; rfl, HWR.out.alloc HWR.out.size _⟩
        | false =>
          by_cases hkn : (F l).known ≤ o.a
          · have hkn' : ¬ (F l).known > o.a := by omega
            rw [decide_eq_true hkn] at HST
            clear hkn HFL
            go_wp2
            go_roundw
            case rel => exact ⟨l + 1, by omega, by go_num, HBR.out.alloc HBR.out.size _, HST.out rfl⟩
            case measure => simp [intOf]; omega
          · have hkn' : (F l).known > o.a := by omega
            rw [decide_eq_false hkn] at HFL
            clear hkn HST
            go_wp2
            go_ret
            exact ⟨by rw [HFL.out rfl]; rfl, HWR.out.alloc HWR.out.size _⟩
    · have ek : l = n := by omega
      subst ek
      clear hbr
      go_wp2
      go_ret
      exact ⟨by rw [HAL.out]; rfl, HWR.out⟩

end Go.Proofs.Ytmndgoapkmhglab
