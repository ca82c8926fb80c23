import Derived.Deep.LoopGhost
import Derived.Test.Ytmndgoapkmhglabc00Base
import Derived.Test.Ytmndgoapkmhglabc14RefF
/- numbers as cells. -/
namespace Go.Proofs.Ytmndgoapkmhglab
open Go.RowKit

def pCells (l : List Nat) : List Value := l.map fun (n : Nat) => Value.int .i64 (n : Int)
theorem pCells_snoc (l : List Nat) (n : Nat) : pCells (l ++ [n]) = pCells l ++ [.int .i64 (n : Int)] := by simp [pCells]
theorem Try.infoInt : (Try.prog.info? 3).map (fun i => (i.zero, i.size, i.bytes)) = some (some (.int .i64 0), 1, 8) := by kernel_rfl

end Go.Proofs.Ytmndgoapkmhglab

/- Plain mathematics: a right text, by both readers. -/
namespace Go.Proofs.Ytmndgoapkmhglab

/-- the text's answer, and its parts. -/
theorem text_read (s : ByteArray) (hs : s.size ≤ 1500) :
    (∃ k, k < (toks s).length ∧ textF s = (2, (tkAt (toks s) k).pos) ∧ ∃ n, Ans (toks s) n [80] 0 0 ((tkAt (toks s) k).pos : Int)) ∨
    (∃ L, Spell (toks s) L 0 ∧ (∃ n, Ans (toks s) n [80] 0 0 (-1)) ∧ textF s = readR (toks s) L ∧ ∃ p, parseF s = .ok p ∧ p.decls = declsD (toks s) L 0 0 0 ∧ p.nodes = nodesD (toks s) L 0) := by
  obtain ⟨hok, hbad⟩ := parseA s hs
  unfold textF
  rw [if_neg (by omega)]
  cases hp : parseF s with
  | error k =>
    obtain ⟨h1, h2⟩ := hbad k hp
    exact .inl ⟨k, h1, rfl, h2⟩
  | ok p =>
    obtain ⟨L, h1, h2, h3, h4⟩ := hok p hp
    refine .inr ⟨L, h1, h4, ?_, p, rfl, h2, h3⟩
    show meaningF p.decls (boundN p) = _
    unfold boundN
    rw [h2, h3]
    exact meaning_ref (toks_F s) (toks_pos s) (toks_end s) L h1 (toks_ok s hs).pos

/-- a right text: its parts, and that nothing is wrong with them. -/
structure RGood (s : ByteArray) (L : List Dl) : Prop where
  many : manyR (toks s) L = none
  names : namesR (toks s) L = none
  types : typesR (toks s) L = none
  cyc : cycR (toks s) L = none
  lp : lpR (toks s) L = none
  sp : Spell (toks s) L 0
  parse : ∃ p, parseF s = .ok p ∧ p.decls = declsD (toks s) L 0 0 0 ∧ p.nodes = nodesD (toks s) L 0

theorem spell_lt {ts : List Tk} : ∀ (L : List Dl) (i : Nat), Spell ts L i → L.Pairwise (fun x y => x.i + x.len ≤ y.i) := by
  intro L
  induction L with
  | nil => intro i _; exact List.Pairwise.nil
  | cons x r ih =>
    intro i h
    obtain ⟨_, h2, _, _, _, h6⟩ := spell_mid (L2 := r) [] i h
    exact List.Pairwise.cons h2 (ih _ h6)

end Go.Proofs.Ytmndgoapkmhglab

/- Plain mathematics: of a right text every name is known, and known once; the passes of the document's own answer. -/
namespace Go.Proofs.Ytmndgoapkmhglab

theorem names_at {ts : List Tk} {L : List Dl} (h : namesR ts L = none) {k : Nat} (hk : k < ts.length) (hn : isNm ts k = true) : (hereR L k = true → aheadR ts L k = false) ∧ someR ts L k = true := by
  unfold namesR at h
  rw [Option.map_eq_none_iff, List.find?_eq_none] at h
  have := h k (by rw [List.mem_range'_1]; omega)
  unfold badNm qNm at this
  rw [hn] at this
  simp at this
  exact this

/-- what is known of a right text. -/
structure Right (ts : List Tk) (L : List Dl) : Prop extends Eqs ts L where
  own : ∀ x ∈ L, ∀ y ∈ L, (nameD ts x).data.toList = (nameD ts y).data.toList → x.i = y.i
  decl : ∀ k, k < ts.length → isNm ts k = true → ∃ x ∈ L, (nameD ts x).data.toList = lAt ts k
  pw : L.Pairwise (fun x y => x.i + x.len ≤ y.i)
  few : (eqL L).length ≤ 12 ∧ (inL L).length ≤ 4

theorem less_none {a b : Option Nat} (h : less a b = none) : a = none ∧ b = none := by
  cases a <;> cases b <;> simp_all [less]

theorem right_of {ts : List Tk} {L : List Dl} (hF : ∀ i, TkF (tkAt ts i)) (hs : Spell ts L 0) (hm : manyR ts L = none) (hn : namesR ts L = none) (hc : cycR ts L = none) : Right ts L := by
  have hmem := fun x hx => (spell_mem L 0 hs x hx).2
  have hnm : ∀ x ∈ L, x.i + 1 < ts.length ∧ isNm ts (x.i + 1) = true := fun x hx => by
    obtain ⟨h1, h2⟩ := hmem x hx
    have := x.len_pos
    refine ⟨by omega, ?_⟩
    unfold isNm
    rcases h2 with ⟨_, _, h, _⟩ | ⟨_, h, _⟩ <;> rw [h] <;> rfl
  have hown : ∀ x ∈ L, ∀ y ∈ L, (nameD ts x).data.toList = (nameD ts y).data.toList → ¬ x.i < y.i := fun x hx y hy he hlt => by
    obtain ⟨h1, h2⟩ := hnm y hy
    have h3 := (names_at hn h1 h2).1 (by unfold hereR; rw [List.any_eq_true]; exact ⟨y, hy, by simp⟩)
    unfold aheadR at h3
    rw [List.any_eq_false] at h3
    refine h3 x hx ?_
    simp only [Bool.and_eq_true, beq_iff_eq, decide_eq_true_eq]
    exact ⟨he, by omega⟩
  have hmany := less_none hm
  refine { F := hF, sp := fun x hx => ?_, cyc := hc, own := fun x hx y hy he => ?_, decl := fun k hk h => ?_, pw := spell_lt L 0 hs, few := ⟨?_, ?_⟩ }
  · have hm' := List.mem_filter.1 hx
    have hk : x.kind ≠ 0 := by simpa using hm'.2
    obtain ⟨h1, h2⟩ := hmem x hm'.1
    have hl : x.len = x.t.len + 6 := by unfold Dl.len; rw [if_neg hk]
    rcases h2 with ⟨h, _⟩ | ⟨_, _, _, _, _, h, _⟩
    · exact absurd h hk
    · exact ⟨h, by omega⟩
  · have a := hown x hx y hy he
    have b := hown y hy x hx he.symm
    omega
  · have h3 := (names_at hn hk h).2
    unfold someR at h3
    rw [List.any_eq_true] at h3
    obtain ⟨x, hx, he⟩ := h3
    exact ⟨x, hx, by simpa using he⟩
  · have := hmany.1
    rw [Option.map_eq_none_iff, List.getElem?_eq_none_iff] at this
    exact this
  · have := hmany.2
    rw [Option.map_eq_none_iff, List.getElem?_eq_none_iff] at this
    exact this

theorem nms_lt {ts : List Tk} (t : Ast) (i : Nat) : ∀ j ∈ nms ts t i, i ≤ j ∧ j < i + t.len := by
  intro j hj
  rw [nms_nmD ts t i false] at hj
  obtain ⟨x, hx, rfl⟩ := List.mem_map.1 hj
  exact nm_in t i false x hx

theorem nms_nm {ts : List Tk} : ∀ (t : Ast) (i : Nat), ∀ j ∈ nms ts t i, isNm ts j = true := by
  intro t
  induction t with
  | leaf =>
    intro i j h
    unfold nms at h
    split at h
    · rename_i hk; simp at h; rw [h]; unfold isNm; rw [hk]; rfl
    · simp at h
  | neg a iha => intro i j h; exact iha _ j h
  | ite a b c iha ihb ihc =>
    intro i j h
    simp only [nms, List.mem_append] at h
    exact h.elim (iha _ j) (fun h => h.elim (ihb _ j) (ihc _ j))
  | dly b ihb => intro i j h; exact ihb _ j h
  | bin a b iha ihb =>
    intro i j h
    simp only [nms, List.mem_append] at h
    exact h.elim (iha _ j) (ihb _ j)

theorem ix_some {l : List Dl} {p : Dl → Bool} {x : Dl} (hx : x ∈ l) (hp : p x = true) : ∃ j, l.findIdx? p = some j := by
  cases h : l.findIdx? p with
  | some j => exact ⟨j, rfl⟩
  | none => rw [List.findIdx?_eq_none_iff] at h; rw [h x hx] at hp; cases hp

theorem Right.find {ts : List Tk} {L : List Dl} (H : Right ts L) {k : Nat} (hk : k < ts.length) (hn : isNm ts k = true) : (∃ i, inIx ts L (lAt ts k) = some i) ∨ (∃ j, eqIx ts L (lAt ts k) = some j) := by
  obtain ⟨x, hx, he⟩ := H.decl k hk hn
  have hp : nmIs ts (lAt ts k) x = true := by unfold nmIs; rw [he]; simp
  by_cases h0 : x.kind = 0
  · exact .inl (ix_some (List.mem_filter.2 ⟨hx, by rw [h0]; rfl⟩) hp)
  · exact .inr (ix_some (List.mem_filter.2 ⟨hx, by simpa using h0⟩) hp)

/-- two equations of one name are one. -/
theorem Right.same {ts : List Tk} {L : List Dl} (H : Right ts L) {i j : Nat} {x y : Dl} (hx : (eqL L)[i]? = some x) (hy : (eqL L)[j]? = some y) (he : (nameD ts x).data.toList = (nameD ts y).data.toList) : i = j := by
  have mx : x ∈ L := (List.mem_filter.1 (List.mem_of_getElem? hx)).1
  have my : y ∈ L := (List.mem_filter.1 (List.mem_of_getElem? hy)).1
  have hi := H.own x mx y my he
  obtain ⟨h1, rfl⟩ := List.getElem?_eq_some_iff.1 hx
  obtain ⟨h2, rfl⟩ := List.getElem?_eq_some_iff.1 hy
  have hp : (eqL L).Pairwise (fun x y => x.i + x.len ≤ y.i) := H.pw.filter _
  rw [List.pairwise_iff_getElem] at hp
  rcases Nat.lt_trichotomy i j with h | h | h
  · have := hp i j h1 h2 h; have := (eqL L)[i].len_pos; omega
  · exact h
  · have := hp j i h2 h1 h; have := (eqL L)[j].len_pos; omega

/-- a name's value, as far as it is known. -/
def knR (ts : List Tk) (L : List Dl) (ins : List (List Int)) (R : Nat → Nat → Int) (D : Nat → Bool) (now : Nat) (w : List UInt8) (n : Nat) : Int × Bool :=
  match inIx ts L w with
  | some i => (elemF ins i n, true)
  | none => match eqIx ts L w with
    | some j => if decide (n < now) || D j then (R j n, true) else (0, false)
    | none => (0, false)

/-- how far the rows have come. -/
structure UpTo (ts : List Tk) (L : List Dl) (ins : List (List Int)) (R : Nat → Nat → Int) (D : Nat → Bool) (now : Nat) : Prop where
  old : ∀ j k, j < (eqL L).length → k < now → R j k = sol ts L ins j k
  new : ∀ j, j < (eqL L).length → D j = true → R j now = sol ts L ins j now

theorem inst_val {ts : List Tk} {L : List Dl} {ins : List (List Int)} {R : Nat → Nat → Int} {D : Nat → Bool} {now : Nat} (H : Right ts L) (h : UpTo ts L ins R D now) (j : Nat) (hj : j < (eqL L).length)
    (hk : (evR ts (knR ts L ins R D now) (eqL L)[j].t ((eqL L)[j].i + 5) now).2 = true) : (evR ts (knR ts L ins R D now) (eqL L)[j].t ((eqL L)[j].i + 5) now).1 = sol ts L ins j now := by
  rw [sol_eq H.toEqs j now hj]
  refine evR_val ts _ _ _ (fun w n' hn hw => ?_) hk
  unfold knR at hw ⊢
  unfold valV
  cases hi : inIx ts L w with
  | some i => rfl
  | none =>
    simp only [hi] at hw ⊢
    cases he : eqIx ts L w with
    | none => simp only [he] at hw; cases hw
    | some l =>
      simp only [he] at hw ⊢
      obtain ⟨z, hz, _⟩ := eqIx_some he
      have hlt : l < (eqL L).length := (List.getElem?_eq_some_iff.1 hz).1
      split at hw
      · rename_i hc
        rw [if_pos hc]
        show R l n' = _
        by_cases h1 : n' < now
        · exact h.old l n' hlt h1
        · have e : n' = now := by omega
          subst e
          have hd : D l = true := by simpa using hc
          exact h.new l hlt hd
      · cases hw

theorem inst_known {ts : List Tk} {L : List Dl} {ins : List (List Int)} {R : Nat → Nat → Int} {D : Nat → Bool} {now : Nat} (H : Right ts L) (j : Nat) (hj : j < (eqL L).length)
    (hd : ∀ l, l < (eqL L).length → relR ts L j l = true → D l = true) : (evR ts (knR ts L ins R D now) (eqL L)[j].t ((eqL L)[j].i + 5) now).2 = true := by
  have hx : (eqL L)[j]? = some (eqL L)[j] := List.getElem?_eq_getElem hj
  obtain ⟨hs, hl⟩ := H.sp (eqL L)[j] (List.getElem_mem hj)
  have hex : ∀ k ∈ nms ts (eqL L)[j].t ((eqL L)[j].i + 5), (∃ i, inIx ts L (lAt ts k) = some i) ∨ (∃ l, eqIx ts L (lAt ts k) = some l) := fun k hk => by
    have := nms_lt _ _ k hk
    exact H.find (by omega) (nms_nm _ _ k hk)
  refine evR_known ts _ _ _ (fun k hk => ?_) (fun k hk n' hn => ?_)
  · unfold knR
    cases hi : inIx ts L (lAt ts k) with
    | some i => rfl
    | none =>
      rcases hex k (und_nms ts _ _ k hk) with ⟨i, h⟩ | ⟨l, h⟩
      · rw [hi] at h; cases h
      · simp only [h]
        obtain ⟨z, hz, _⟩ := eqIx_some h
        rw [hd l (List.getElem?_eq_some_iff.1 hz).1 (rel_und H.F hx hs hl hk h)]
        simp
  · unfold knR
    cases hi : inIx ts L (lAt ts k) with
    | some i => rfl
    | none =>
      rcases hex k hk with ⟨i, h⟩ | ⟨l, h⟩
      · rw [hi] at h; cases h
      · simp only [h]
        rw [decide_eq_true hn]
        simp

/-- where the passes over an instant stand: behind so many passes, and so many equations of this one. -/
structure Pass (ts : List Tk) (L : List Dl) (ins : List (List Int)) (R : Nat → Nat → Int) (D : Nat → Bool) (now p i : Nat) : Prop where
  up : UpTo ts L ins R D now
  done : ∀ j, j < (eqL L).length → rk ts L j < p → D j = true
  here : ∀ j, j < i → j < (eqL L).length → rk ts L j ≤ p → D j = true

def setR (R : Nat → Nat → Int) (a b : Nat) (v : Int) : Nat → Nat → Int := fun i k => if i = a ∧ k = b then v else R i k
def setD (D : Nat → Bool) (a : Nat) (v : Bool) : Nat → Bool := fun i => if i = a then v else D i

theorem Pass.skip {ts : List Tk} {L : List Dl} {ins : List (List Int)} {R : Nat → Nat → Int} {D : Nat → Bool} {now p i : Nat} (h : Pass ts L ins R D now p i) (hd : D i = true) : Pass ts L ins R D now p (i + 1) :=
  ⟨h.up, h.done, fun j hj hj' hr => by
    by_cases e : j = i
    · rw [e]; exact hd
    · exact h.here j (by omega) hj' hr⟩

theorem Pass.next {ts : List Tk} {L : List Dl} {ins : List (List Int)} {R : Nat → Nat → Int} {D : Nat → Bool} {now p i : Nat} (H : Right ts L) (h : Pass ts L ins R D now p i) (hi : i < (eqL L).length) (hd : D i = false) :
    Pass ts L ins (setR R i now (evR ts (knR ts L ins R D now) (eqL L)[i].t ((eqL L)[i].i + 5) now).1) (setD D i (evR ts (knR ts L ins R D now) (eqL L)[i].t ((eqL L)[i].i + 5) now).2) now p (i + 1) := by
  refine ⟨⟨fun j k hj hk => ?_, fun j hj hD => ?_⟩, fun j hj hr => ?_, fun j hj hj' hr => ?_⟩
  · unfold setR; rw [if_neg (by omega)]; exact h.up.old j k hj hk
  · unfold setD at hD
    by_cases e : j = i
    · subst e
      rw [if_pos rfl] at hD
      unfold setR
      rw [if_pos ⟨rfl, rfl⟩]
      exact inst_val H h.up j hj hD
    · rw [if_neg e] at hD
      unfold setR
      rw [if_neg (by omega)]
      exact h.up.new j hj hD
  · unfold setD
    by_cases e : j = i
    · subst e; rw [h.done j hj hr] at hd; cases hd
    · rw [if_neg e]; exact h.done j hj hr
  · unfold setD
    by_cases e : j = i
    · subst e
      rw [if_pos rfl]
      refine inst_known H j hj' (fun l hl hrel => h.done l hl ?_)
      have := rk_less H.cyc hl hrel
      omega
    · rw [if_neg e]; exact h.here j (by omega) hj' hr

theorem Pass.over {ts : List Tk} {L : List Dl} {ins : List (List Int)} {R : Nat → Nat → Int} {D : Nat → Bool} {now p : Nat} (h : Pass ts L ins R D now p (eqL L).length) : Pass ts L ins R D now (p + 1) 0 :=
  ⟨h.up, fun j hj hr => h.here j hj hj (by omega), fun j hj => by omega⟩

theorem Pass.first {ts : List Tk} {L : List Dl} {ins : List (List Int)} {R : Nat → Nat → Int} {now : Nat} (h : ∀ j k, j < (eqL L).length → k < now → R j k = sol ts L ins j k) : Pass ts L ins R (fun _ => false) now 0 0 :=
  ⟨⟨h, fun j _ hd => by cases hd⟩, fun j _ hr => by omega, fun j hj => by omega⟩

theorem Pass.last {ts : List Tk} {L : List Dl} {ins : List (List Int)} {R : Nat → Nat → Int} {D : Nat → Bool} {now : Nat} (H : Right ts L) (h : Pass ts L ins R D now (eqL L).length 0) : ∀ j k, j < (eqL L).length → k < now + 1 → R j k = sol ts L ins j k := by
  intro j k hj hk
  by_cases h1 : k < now
  · exact h.up.old j k hj h1
  · have e : k = now := by omega
    subst e
    exact h.up.new j hj (h.done j hj (rk_lt H.cyc hj))

end Go.Proofs.Ytmndgoapkmhglab

/- Plain mathematics: the machine. -/
namespace Go.Proofs.Ytmndgoapkmhglab

/-- an operation. -/
structure OpF where
  k : Int
  a : Int
  b : Int
  c : Int
/-- code. -/
structure CdF where
  ops : List OpF
  cells : List Int
  next : List Int
  out : List Int

/-- entry i of a list; 0 if there is none. -/
def atF (l : List Int) (i : Int) : Int := if i < 0 then 0 else l.getD i.toNat 0
/-- how many registers an operation reads. -/
def readsF (k : Int) : Nat := if k < 5 then 0 else if k = 13 then 1 else if k = 14 then 3 else 2
def regOk (i : Nat) (r : Int) : Bool := decide (0 ≤ r) && decide (r < (i : Int))
def opArgs (o : OpF) : List Int := [o.a, o.b, o.c]
/-- may operation i be this one? -/
def opOk (nc i : Nat) (o : OpF) : Bool :=
  decide (0 ≤ o.k) && decide (o.k ≤ 14) && (decide (o.k ≠ 3) || regOk nc o.a) && ((opArgs o).take (readsF o.k)).all (regOk i)
def opsOk (nc : Nat) : Nat → List OpF → Bool
  | _, [] => true
  | i, o :: r => opOk nc i o && opsOk nc (i + 1) r
/-- is code well formed? -/
def formedF (c : CdF) : Bool :=
  decide (c.ops.length ≤ 1500) && decide (c.next.length ≤ 1500) && decide (c.out.length ≤ 1500) && decide (c.cells.length = c.next.length) && opsOk c.cells.length 0 c.ops && c.next.all (regOk c.ops.length) && c.out.all (regOk c.ops.length)

/-- what an operation lays into its register. -/
def laysF (o : OpF) (n : Int) (regs cells ins links : List Int) : Int :=
  if o.k = 0 then o.a else if o.k = 1 then atF ins o.a else if o.k = 2 then atF links o.a else if o.k = 3 then atF cells o.a else if o.k = 4 then b2i (decide (n = 0))
  else if o.k = 5 then w64 (atF regs o.a + atF regs o.b) else if o.k = 6 then w64 (atF regs o.a - atF regs o.b) else if o.k = 7 then w64 (atF regs o.a * atF regs o.b)
  else if o.k = 8 then apF [47] (atF regs o.a) (atF regs o.b) else if o.k = 9 then b2i (decide (atF regs o.a < atF regs o.b)) else if o.k = 10 then b2i (decide (atF regs o.a = atF regs o.b))
  else if o.k = 11 then b2i (decide (atF regs o.a ≠ 0) && decide (atF regs o.b ≠ 0)) else if o.k = 12 then b2i (decide (atF regs o.a ≠ 0) || decide (atF regs o.b ≠ 0))
  else if o.k = 13 then b2i (decide (atF regs o.a = 0)) else if atF regs o.a = 0 then atF regs o.c else atF regs o.b
/-- the registers behind operations. -/
def regsF (n : Int) (cells ins links : List Int) (regs : List Int) : List OpF → List Int
  | [] => regs
  | o :: r => regsF n cells ins links (regs ++ [laysF o n regs cells ins links]) r

theorem regsF_snoc (n : Int) (cells ins links : List Int) : ∀ (l : List OpF) (regs : List Int) (o : OpF), regsF n cells ins links regs (l ++ [o]) = regsF n cells ins links regs l ++ [laysF o n (regsF n cells ins links regs l) cells ins links] := by
  intro l
  induction l with
  | nil => intro regs o; rfl
  | cons a r ih => intro regs o; exact ih _ o
theorem regsF_len (n : Int) (cells ins links : List Int) : ∀ (l : List OpF) (regs : List Int), (regsF n cells ins links regs l).length = regs.length + l.length := by
  intro l
  induction l with
  | nil => intro regs; rfl
  | cons a r ih => intro regs; show (regsF _ _ _ _ _ r).length = _; rw [ih]; simp; omega

/-- the machine: an error, or what comes out and the cells' next. -/
def execF (c : CdF) (n : Int) (cells ins links : List Int) : Nat × List Int × List Int :=
  if formedF c = false then (9, [], []) else if n < 0 ∨ cells.length ≠ c.cells.length then (10, [], [])
  else (0, c.out.map (atF (regsF n cells ins links [] c.ops)), c.next.map (atF (regsF n cells ins links [] c.ops)))

end Go.Proofs.Ytmndgoapkmhglab

/- Plain mathematics: scripts. An act is four numbers: its place k, its time a, its delays b and c. -/
namespace Go.Proofs.Ytmndgoapkmhglab
open Go.RowKit

/-- act i of a script. -/
def actF (sc : List OpF) (i : Nat) : OpF := (sc[i]?).getD ⟨0, 0, 0, 0⟩
theorem actF_get {sc : List OpF} {i : Nat} (h : i < sc.length) : sc[i] = actF sc i := by simp [actF, h]
/-- the next act of the same place from act k on, or -1. -/
def laterG (sc : List OpF) (i : Nat) : Nat → Nat → Int
  | 0, _ => -1
  | f + 1, k => if (actF sc k).k = (actF sc i).k then (k : Int) else laterG sc i f (k + 1)
def laterF (sc : List OpF) (i : Nat) : Int := laterG sc i (sc.length - (i + 1)) (i + 1)
/-- is none of the first k acts of the same place? -/
def firstG (sc : List OpF) (i k : Nat) : Bool := (List.range k).all fun k => (actF sc k).k != (actF sc i).k
def firstF (sc : List OpF) (i : Nat) : Bool := firstG sc i i
theorem later_step {sc : List OpF} {i k : Nat} (h : k < sc.length) : laterG sc i (sc.length - k) k = if (actF sc k).k = (actF sc i).k then (k : Int) else laterG sc i (sc.length - (k + 1)) (k + 1) := by
  rw [show sc.length - k = (sc.length - (k + 1)) + 1 by omega]
  rfl
theorem all_step {m : Nat} {p : Nat → Bool} (h : (List.range m).all p = true) (hp : p m = true) : (List.range (m + 1)).all p = true := by
  rw [List.range_succ, List.all_append, h, List.all_cons, hp]; rfl
theorem all_fail {m n : Nat} {p : Nat → Bool} (hm : m < n) (hp : p m = false) : (List.range n).all p = false := by
  rw [List.all_eq_false]
  exact ⟨m, List.mem_range.2 hm, by rw [hp]; simp⟩

theorem later_range (sc : List OpF) (i : Nat) : ∀ (f k : Nat), i < k → k + f = sc.length → laterG sc i f k = -1 ∨ ∃ j : Nat, laterG sc i f k = (j : Int) ∧ i < j ∧ j < sc.length := by
  intro f
  induction f with
  | zero => intro k _ _; exact .inl rfl
  | succ f ih =>
    intro k hk hl
    unfold laterG
    split
    · exact .inr ⟨k, rfl, hk, by omega⟩
    · exact ih (k + 1) (by omega) (by omega)

/-- the first m equations that lie at a place, by their numbers. -/
def atG (ts : List Tk) (L : List Dl) (pl : Int) (m : Nat) : List Nat := (List.range m).filter fun i => (((eqL L)[i]?).map fun x => ((placeD ts x : Nat) : Int) == pl) == some true
def atR (ts : List Tk) (L : List Dl) (pl : Int) : List Nat := atG ts L pl (eqL L).length
theorem atG_len (ts : List Tk) (L : List Dl) (pl : Int) (m : Nat) : (atG ts L pl m).length ≤ m := by
  have := List.length_filter_le (fun i => (((eqL L)[i]?).map fun x => ((placeD ts x : Nat) : Int) == pl) == some true) (List.range m)
  rwa [List.length_range] at this
theorem atG_hit {ts : List Tk} {L : List Dl} {pl : Int} {m : Nat} (hm : m < (eqL L).length) (h : ((placeD ts ((eqL L)[m]) : Nat) : Int) = pl) : atG ts L pl (m + 1) = atG ts L pl m ++ [m] := by
  unfold atG
  rw [List.range_succ, List.filter_append]
  congr 1
  simp [hm, h]
theorem atG_miss {ts : List Tk} {L : List Dl} {pl : Int} {m : Nat} (hm : m < (eqL L).length) (h : ((placeD ts ((eqL L)[m]) : Nat) : Int) ≠ pl) : atG ts L pl (m + 1) = atG ts L pl m := by
  unfold atG
  rw [List.range_succ, List.filter_append]
  simp [hm, h]

/-- is an act ahead of the one before it? -/
def backA (sc : List OpF) : Nat → Bool
  | 0 => false
  | i + 1 => decide ((actF sc (i + 1)).a < (actF sc i).a)
/-- does a delay reach the next act of the place? -/
def overA (sc : List OpF) (i : Nat) : Bool :=
  decide (0 ≤ laterF sc i) && (decide (IntKind.i64.wrap ((actF sc (laterF sc i).toNat).a - (actF sc i).a) ≤ (actF sc i).b) || decide (IntKind.i64.wrap ((actF sc (laterF sc i).toNat).a - (actF sc i).a) ≤ (actF sc i).c))
def badA (ts : List Tk) (L : List Dl) (sc : List OpF) (i : Nat) : Bool :=
  (atR ts L (actF sc i).k).isEmpty || decide ((actF sc i).a < 0) || decide (1099511627776 < (actF sc i).a) || backA sc i || decide ((actF sc i).b < 0) || decide (1099511627776 < (actF sc i).b) || decide ((actF sc i).c < 0) || decide (1099511627776 < (actF sc i).c) || overA sc i
def playF (ts : List Tk) (L : List Dl) (sc : List OpF) : Bool := decide (sc.length ≤ 400) && (List.range sc.length).all fun i => !badA ts L sc i

/-- is there a chain of n waits that begins here? -/
def aheadF (M : Mx) : Nat → Nat → Bool
  | _, 0 => true
  | i, n + 1 => (List.range 4).any fun q => M i q && aheadF M q n

/-- the longest chain of waits, up to one of n. -/
def dUp (M : Mx) : Nat → Nat
  | 0 => 0
  | n + 1 => if (List.range 4).any (fun q => aheadF M q (n + 1)) then n + 1 else dUp M n
theorem dUp_le (M : Mx) (n : Nat) : dUp M n ≤ n := by
  induction n with
  | zero => exact Nat.le_refl _
  | succ n ih => unfold dUp; split <;> omega

/-- bounds. -/
structure BdF where
  tmin : Int
  tmax : Int
  dmin : Int
  dmax : Int
abbrev BdF.val (b : BdF) : Value := .agg #[.int .i64 b.tmin, .int .i64 b.tmax, .int .i64 b.dmin, .int .i64 b.dmax]
def fitF (b : BdF) : Bool := !decide (b.tmin < 1) && !decide (b.tmax < b.tmin) && !decide (1000000 < b.tmax) && decide (0 ≤ b.dmin) && decide (b.dmin ≤ b.dmax) && decide (b.dmax < b.tmin)


end Go.Proofs.Ytmndgoapkmhglab

/- Plain mathematics: places that wake. An act is four numbers: its place k, its time a, its delays b (acknowledged) and c (published). -/
namespace Go.Proofs.Ytmndgoapkmhglab

/-- an event. -/
structure EvF where
  k : Int
  a : Int
  did : Int
  n : Int
  took : List Nat
  vals : List Int
/-- a link: from a place to a place. -/
structure LnF where
  src : Int
  dst : Int
  late : Bool
abbrev PastF := List (OpF × EvF)

def isD (pl what : Int) (x : OpF × EvF) : Bool := decide (x.2.k = pl) && decide (x.2.did = what)
/-- how often a place has done something, as far as it is there at a time. -/
def didF (P : PastF) (pl what now : Int) (data : Bool) : Nat := (P.filter fun x => isD pl what x && decide (x.2.a + (if data then x.1.c else 0) ≤ now)).length
/-- how many values have been taken from a link, as far as it is there at a time. -/
def takenF (now : Int) (l : Nat) (ack : Bool) : PastF → Nat
  | [] => 0
  | x :: P => (if x.2.a + (if ack then x.1.b else 0) ≤ now then x.2.took.count l else 0) + takenF now l ack P
def lnAt (N : List LnF) (l : Nat) : LnF := N.getD l ⟨-1, -1, false⟩
def lateN (N : List LnF) (l : Nat) : Nat := if (lnAt N l).late then 1 else 0

def slotF (N : List LnF) (P : PastF) (a : OpF) (l : Nat) : Int := (takenF a.a l false P : Int) + lateN N l - didF P a.k 1 a.a false
def canF (N : List LnF) (P : PastF) (a : OpF) (l : Nat) : Bool := decide ((lnAt N l).dst = a.k) && (decide (slotF N P a l = 0) && decide (takenF a.a l false P < didF P (lnAt N l).src 2 a.a true))
def tookF (N : List LnF) (P : PastF) (a : OpF) : List Nat := (List.range N.length).filter (canF N P a)
def readyF (N : List LnF) (P : PastF) (a : OpF) : Bool :=
  decide (didF P a.k 1 a.a false = didF P a.k 2 a.a false) && (List.range N.length).all fun l => !decide ((lnAt N l).dst = a.k) || decide ((if canF N P a l then 1 else slotF N P a l) = 1)
def freeF (N : List LnF) (P : PastF) (a : OpF) : Bool :=
  decide (didF P a.k 2 a.a false < didF P a.k 1 a.a false) && (List.range N.length).all fun l => !decide ((lnAt N l).src = a.k) || decide (takenF a.a l true P = didF P a.k 2 a.a false)
/-- what happens when a place wakes. -/
def wakeF (N : List LnF) (V : Int → Nat → List Int) (P : PastF) (a : OpF) : EvF :=
  ⟨a.k, a.a, if readyF N P a then 1 else if freeF N P a then 2 else 0, if readyF N P a then (didF P a.k 1 a.a false : Int) else if freeF N P a then (didF P a.k 2 a.a false : Int) else 0, tookF N P a, if readyF N P a then [] else if freeF N P a then V a.k (didF P a.k 2 a.a false) else []⟩
/-- a script played behind a past. -/
def runG (N : List LnF) (V : Int → Nat → List Int) : PastF → List OpF → PastF
  | P, [] => P
  | P, a :: r => runG N V (P ++ [(a, wakeF N V P a)]) r

/-- counts of all that has been done. -/
def cntF (P : PastF) (pl what : Int) : Nat := (P.filter (isD pl what)).length
def tkF (l : Nat) : PastF → Nat
  | [] => 0
  | x :: P => x.2.took.count l + tkF l P
/-- when what a place published last comes; when it is known that the last value of a link was taken. -/
def comesF (pl : Int) : PastF → Int → Int
  | [], z => z
  | x :: P, z => comesF pl P (if isD pl 2 x then x.2.a + x.1.c else z)
def knownF (l : Nat) : PastF → Int → Int
  | [], z => z
  | x :: P, z => knownF l P (if l ∈ x.2.took then x.2.a + x.1.b else z)

theorem takenF_app (now : Int) (l : Nat) (ack : Bool) : ∀ (P Q : PastF), takenF now l ack (P ++ Q) = takenF now l ack P + takenF now l ack Q := by
  intro P
  induction P with
  | nil => intro Q; simp [takenF]
  | cons x P ih => intro Q; simp only [List.cons_append, takenF, ih]; omega
theorem tkF_app (l : Nat) : ∀ (P Q : PastF), tkF l (P ++ Q) = tkF l P + tkF l Q := by
  intro P
  induction P with
  | nil => intro Q; simp [tkF]
  | cons x P ih => intro Q; simp only [List.cons_append, tkF, ih]; omega
theorem comesF_app (pl : Int) : ∀ (P Q : PastF) (z : Int), comesF pl (P ++ Q) z = comesF pl Q (comesF pl P z) := by
  intro P
  induction P with
  | nil => intro Q z; rfl
  | cons x P ih => intro Q z; exact ih Q _
theorem knownF_app (l : Nat) : ∀ (P Q : PastF) (z : Int), knownF l (P ++ Q) z = knownF l Q (knownF l P z) := by
  intro P
  induction P with
  | nil => intro Q z; rfl
  | cons x P ih => intro Q z; exact ih Q _
theorem cntF_snoc (P : PastF) (x : OpF × EvF) (pl what : Int) : cntF (P ++ [x]) pl what = cntF P pl what + (if isD pl what x then 1 else 0) := by
  unfold cntF
  rw [List.filter_append, List.length_append]
  cases h : isD pl what x <;> simp [h]
theorem didF_snoc (P : PastF) (x : OpF × EvF) (pl what now : Int) (data : Bool) : didF (P ++ [x]) pl what now data = didF P pl what now data + (if isD pl what x && decide (x.2.a + (if data then x.1.c else 0) ≤ now) then 1 else 0) := by
  unfold didF
  rw [List.filter_append, List.length_append]
  cases h : (isD pl what x && decide (x.2.a + (if data then x.1.c else 0) ≤ now)) <;> simp [h]

/-- what is known of a past, up to a time. -/
structure PastOk (N : List LnF) (P : PastF) (now : Int) : Prop where
  same : ∀ x ∈ P, x.2.k = x.1.k ∧ x.2.a = x.1.a
  le : ∀ x ∈ P, x.1.a ≤ now
  gap : P.Pairwise fun x y => x.1.a ≤ y.1.a ∧ (x.1.k = y.1.k → x.1.a + x.1.b < y.1.a ∧ x.1.a + x.1.c < y.1.a)
  took : ∀ x ∈ P, x.2.took.Nodup ∧ ∀ l ∈ x.2.took, l < N.length ∧ (lnAt N l).dst = x.2.k

theorem PastOk.init {N : List LnF} {P : PastF} {x : OpF × EvF} {now : Int} (h : PastOk N (P ++ [x]) now) : PastOk N P now ∧ PastOk N P x.1.a ∧ x.1.a ≤ now ∧ x.2.k = x.1.k ∧ x.2.a = x.1.a ∧ (∀ y ∈ P, y.1.k = x.1.k → y.1.a + y.1.b < x.1.a ∧ y.1.a + y.1.c < x.1.a) := by
  have hp := List.pairwise_append.1 h.gap
  have hx : x ∈ P ++ [x] := by simp
  have hy : ∀ y ∈ P, y ∈ P ++ [x] := fun y hy => List.mem_append_left _ hy
  refine ⟨⟨fun y m => h.same y (hy y m), fun y m => h.le y (hy y m), hp.1, fun y m => h.took y (hy y m)⟩, ⟨fun y m => h.same y (hy y m), fun y m => (hp.2.2 y m x (by simp)).1, hp.1, fun y m => h.took y (hy y m)⟩, h.le x hx, (h.same x hx).1, (h.same x hx).2, fun y m => (hp.2.2 y m x (by simp)).2⟩

/-- an induction from behind. -/
theorem past_ind {p : PastF → Prop} (h0 : p []) (h1 : ∀ P x, p P → p (P ++ [x])) : ∀ P, p P := by
  have : ∀ n (P : PastF), P.length = n → p P := by
    intro n
    induction n with
    | zero => intro P hP; rw [List.length_eq_zero_iff.1 hP]; exact h0
    | succ n ih =>
      intro P hP
      have hne : P ≠ [] := fun e => by rw [e] at hP; cases hP
      rw [← List.dropLast_concat_getLast hne]
      exact h1 _ _ (ih _ (by simp [hP]))
  exact fun P => this P.length P rfl

theorem did_all {N : List LnF} {P : PastF} {now : Int} (h : PastOk N P now) (pl what : Int) : didF P pl what now false = cntF P pl what := by
  unfold didF cntF
  congr 1
  apply List.filter_congr
  intro x hx
  have h1 := h.le x hx
  have h2 := (h.same x hx).2
  have : decide (x.2.a + (if false = true then x.1.c else 0) ≤ now) = true := by simp; omega
  rw [this, Bool.and_true]
theorem taken_all {N : List LnF} {now : Int} (l : Nat) : ∀ {P : PastF}, PastOk N P now → takenF now l false P = tkF l P := by
  intro P
  induction P with
  | nil => intro _; rfl
  | cons x P ih =>
    intro h
    have h1 := h.le x (by simp)
    have h2 := (h.same x (by simp)).2
    simp only [takenF, tkF]
    rw [if_pos (by simp; omega), ih ⟨fun y m => h.same y (List.mem_cons_of_mem _ m), fun y m => h.le y (List.mem_cons_of_mem _ m), (List.pairwise_cons.1 h.gap).2, fun y m => h.took y (List.mem_cons_of_mem _ m)⟩]

theorem if_le (b : Bool) (n : Nat) : (if b = true then n else 0) ≤ n := by cases b <;> simp
theorem did_le (P : PastF) (pl what now : Int) (data : Bool) : didF P pl what now data ≤ cntF P pl what := by
  refine past_ind (p := fun P => didF P pl what now data ≤ cntF P pl what) (by simp [didF, cntF]) (fun P x ih => ?_) P
  rw [didF_snoc, cntF_snoc]
  have : (if (isD pl what x && decide (x.2.a + (if data then x.1.c else 0) ≤ now)) = true then 1 else 0) ≤ if isD pl what x = true then 1 else 0 := by
    cases isD pl what x with
    | false => simp
    | true => exact if_le _ 1
  omega

/-- what a place published: all but the last have come. -/
theorem did_come {N : List LnF} {now : Int} (pl : Int) : ∀ P : PastF, PastOk N P now → didF P pl 2 now true = if comesF pl P 0 ≤ now then cntF P pl 2 else cntF P pl 2 - 1 := by
  refine past_ind (fun _ => by simp [didF, cntF]) (fun P x ih h => ?_)
  obtain ⟨i1, i2, i3, i4, i5, i6⟩ := h.init
  rw [didF_snoc, cntF_snoc, comesF_app]
  rcases Bool.eq_false_or_eq_true (isD pl 2 x) with hx | hx
  rotate_left
  · have e : comesF pl [x] (comesF pl P 0) = comesF pl P 0 := by simp only [comesF]; rw [hx]; rfl
    rw [e, hx]
    simp only [Bool.false_and, Bool.false_eq_true, if_false, Nat.add_zero]
    exact ih i1
  · have e : comesF pl [x] (comesF pl P 0) = x.2.a + x.1.c := by simp only [comesF]; rw [hx]; rfl
    rw [e, hx]
    have hk : x.2.k = pl := by unfold isD at hx; simp at hx; exact hx.1
    have hall : didF P pl 2 now true = cntF P pl 2 := by
      unfold didF cntF
      congr 1
      apply List.filter_congr
      intro y hy
      cases hyd : isD pl 2 y with
      | false => rfl
      | true =>
        have hky : y.2.k = pl := by unfold isD at hyd; simp at hyd; exact hyd.1
        have h1 := i1.same y hy
        have h2 := (i6 y hy (by rw [← h1.1, ← i4, hky, hk])).2
        rw [Bool.true_and, decide_eq_true_iff, if_pos rfl]
        omega
    rw [hall]
    by_cases hc : x.2.a + x.1.c ≤ now
    · simp [hc]
    · simp [hc]

theorem taken_le (now : Int) (l : Nat) (ack : Bool) : ∀ P : PastF, takenF now l ack P ≤ tkF l P := by
  intro P
  induction P with
  | nil => simp [takenF, tkF]
  | cons x P ih =>
    simp only [takenF, tkF]
    have h1 := if_le (decide (x.2.a + (if ack = true then x.1.b else 0) ≤ now)) (x.2.took.count l)
    simp only [decide_eq_true_eq] at h1
    omega

theorem count_one {t : List Nat} (h : t.Nodup) (l : Nat) : t.count l = if l ∈ t then 1 else 0 := h.count

/-- what was taken: all but the last is known. -/
theorem taken_known {N : List LnF} {now : Int} (l : Nat) : ∀ P : PastF, PastOk N P now → takenF now l true P = if knownF l P 0 ≤ now then tkF l P else tkF l P - 1 := by
  refine past_ind (fun _ => by simp [takenF, tkF, knownF]) (fun P x ih h => ?_)
  obtain ⟨i1, i2, i3, i4, i5, i6⟩ := h.init
  rw [takenF_app, tkF_app, knownF_app]
  obtain ⟨hnd, htk⟩ := h.took x (by simp)
  simp only [takenF, tkF, knownF, Nat.add_zero]
  rw [count_one hnd l]
  by_cases hm : l ∈ x.2.took
  · have hall : takenF now l true P = tkF l P := by
      have key : ∀ Q : PastF, (∀ y ∈ Q, y ∈ P) → takenF now l true Q = tkF l Q := by
        intro Q
        induction Q with
        | nil => intro _; rfl
        | cons y Q ihQ =>
          intro hQ
          have hyP := hQ y (by simp)
          simp only [takenF, tkF]
          rw [ihQ (fun z hz => hQ z (List.mem_cons_of_mem _ hz))]
          obtain ⟨nd, tk⟩ := i1.took y hyP
          rw [count_one nd l]
          by_cases hl : l ∈ y.2.took
          · have e1 := (tk l hl).2
            have e2 := (htk l hm).2
            have h1 := i1.same y hyP
            have h2 := (i6 y hyP (by rw [← h1.1, ← i4, ← e1, ← e2])).1
            rw [if_pos (by simp; omega)]
          · simp [hl]
      exact key P (fun y hy => hy)
    rw [hall]
    simp only [hm, if_true]
    by_cases hc : x.2.a + x.1.b ≤ now
    · simp [hc]
    · simp [hc]
  · simp only [hm, if_false, Nat.add_zero]
    rw [ih i1]
    split <;> simp

end Go.Proofs.Ytmndgoapkmhglab

/- Plain mathematics: what always holds of places that wake; what a place knows is how it is. -/
namespace Go.Proofs.Ytmndgoapkmhglab

/-- what always holds. -/
structure RunInv (N : List LnF) (P : PastF) : Prop where
  turn : ∀ pl, cntF P pl 2 ≤ cntF P pl 1 ∧ cntF P pl 1 ≤ cntF P pl 2 + 1
  sent : ∀ l, l < N.length → tkF l P ≤ cntF P (lnAt N l).src 2 ∧ cntF P (lnAt N l).src 2 ≤ tkF l P + 1
  slot : ∀ l, l < N.length → cntF P (lnAt N l).dst 1 ≤ tkF l P + lateN N l ∧ tkF l P + lateN N l ≤ cntF P (lnAt N l).dst 1 + 1

/-- links go to other places. -/
def Apart (N : List LnF) : Prop := ∀ l, l < N.length → (lnAt N l).src ≠ (lnAt N l).dst

theorem lateN_le (N : List LnF) (l : Nat) : lateN N l ≤ 1 := by unfold lateN; split <;> omega

section
variable {N : List LnF} {P : PastF} {a : OpF} (hO : PastOk N P a.a) (hI : RunInv N P)
include hO

theorem slot_eq (l : Nat) : slotF N P a l = (tkF l P : Int) + lateN N l - cntF P a.k 1 := by
  unfold slotF; rw [taken_all l hO, did_all hO]
include hI

/-- what can be taken: it was published, has come, was not taken, and the slot is empty. -/
theorem can_iff {l : Nat} (hl : l < N.length) : canF N P a l = true ↔ (lnAt N l).dst = a.k ∧ tkF l P < cntF P (lnAt N l).src 2 ∧ comesF (lnAt N l).src P 0 ≤ a.a ∧ tkF l P + lateN N l = cntF P a.k 1 := by
  have hs := hI.sent l hl
  unfold canF
  rw [slot_eq hO, taken_all l hO, did_come (lnAt N l).src P hO]
  simp only [Bool.and_eq_true, decide_eq_true_eq]
  constructor
  · rintro ⟨h1, h2, h3⟩
    split at h3
    · rename_i hc; exact ⟨h1, h3, hc, by omega⟩
    · omega
  · rintro ⟨h1, h2, h3, h4⟩
    refine ⟨h1, by omega, ?_⟩
    rw [if_pos h3]; exact h2

omit hO hI in
theorem took_mem {l : Nat} : l ∈ tookF N P a ↔ l < N.length ∧ canF N P a l = true := by
  unfold tookF
  rw [List.mem_filter, List.mem_range]

/-- it can step just if it holds nothing, and of each link to it one value is there that no step used. -/
theorem ready_iff : readyF N P a = true ↔ cntF P a.k 1 = cntF P a.k 2 ∧ ∀ l, l < N.length → (lnAt N l).dst = a.k → tkF l P + (if canF N P a l = true then 1 else 0) + lateN N l = cntF P a.k 1 + 1 := by
  unfold readyF
  rw [did_all hO, did_all hO, Bool.and_eq_true, decide_eq_true_iff, List.all_eq_true]
  refine and_congr Iff.rfl ⟨fun h l hl hd => ?_, fun h l hl => ?_⟩
  · have := h l (List.mem_range.2 hl)
    rw [hd] at this
    simp only [decide_true, Bool.not_true, Bool.false_or, decide_eq_true_eq] at this
    by_cases hc : canF N P a l = true
    · have := ((can_iff hO hI hl).1 hc).2.2.2
      rw [if_pos hc]; omega
    · rw [if_neg hc] at this ⊢
      rw [slot_eq hO] at this
      omega
  · by_cases hd : (lnAt N l).dst = a.k
    · have := h l (List.mem_range.1 hl) hd
      rw [hd]
      simp only [decide_true, Bool.not_true, Bool.false_or, decide_eq_true_eq]
      by_cases hc : canF N P a l = true
      · rw [if_pos hc]
      · rw [if_neg hc] at this ⊢
        rw [slot_eq hO]; omega
    · simp [hd]

/-- it can publish just if it holds values, and on each link from it the value ahead was taken, and that is known. -/
theorem free_iff : freeF N P a = true ↔ cntF P a.k 1 = cntF P a.k 2 + 1 ∧ ∀ l, l < N.length → (lnAt N l).src = a.k → tkF l P = cntF P a.k 2 ∧ (knownF l P 0 ≤ a.a ∨ tkF l P = 0) := by
  have ht := hI.turn a.k
  unfold freeF
  rw [did_all hO, did_all hO, Bool.and_eq_true, decide_eq_true_iff, List.all_eq_true]
  refine and_congr (by omega) ⟨fun h l hl hd => ?_, fun h l hl => ?_⟩
  · have := h l (List.mem_range.2 hl)
    rw [hd] at this
    simp only [decide_true, Bool.not_true, Bool.false_or, decide_eq_true_eq] at this
    rw [taken_known l P hO] at this
    have hs := hI.sent l hl
    rw [hd] at hs
    split at this
    · rename_i hc; exact ⟨this, .inl hc⟩
    · exact ⟨by omega, .inr (by omega)⟩
  · by_cases hd : (lnAt N l).src = a.k
    · obtain ⟨h1, h2⟩ := h l (List.mem_range.1 hl) hd
      rw [hd]
      simp only [decide_true, Bool.not_true, Bool.false_or, decide_eq_true_eq]
      rw [taken_known l P hO]
      split
      · exact h1
      · rcases h2 with h2 | h2
        · omega
        · omega
    · simp [hd]

end

theorem known_zero (l : Nat) : ∀ P : PastF, (∀ x ∈ P, x.2.took.Nodup) → tkF l P = 0 → ∀ z, knownF l P z = z := by
  intro P
  induction P with
  | nil => intro _ _ z; rfl
  | cons x P ih =>
    intro hn h z
    simp only [tkF] at h
    have hm : l ∉ x.2.took := fun hm => by
      have := List.count_pos_iff.2 hm
      omega
    simp only [knownF]
    rw [if_neg hm]
    exact ih (fun y hy => hn y (List.mem_cons_of_mem _ hy)) (by omega) z

/-- the acts of a script that is played. -/
structure ActsOk (sc : List OpF) : Prop where
  nn : ∀ x ∈ sc, 0 ≤ x.a
  gap : sc.Pairwise fun x y => x.a ≤ y.a ∧ (x.k = y.k → x.a + x.b < y.a ∧ x.a + x.c < y.a)

theorem tookF_nodup (N : List LnF) (P : PastF) (a : OpF) : (tookF N P a).Nodup := List.Pairwise.filter _ List.nodup_range
theorem tookF_in (N : List LnF) (P : PastF) (a : OpF) : ∀ l ∈ tookF N P a, l < N.length ∧ (lnAt N l).dst = a.k := by
  intro l hl
  unfold tookF at hl
  rw [List.mem_filter, List.mem_range] at hl
  refine ⟨hl.1, ?_⟩
  have := hl.2
  unfold canF at this
  simp only [Bool.and_eq_true, decide_eq_true_eq] at this
  exact this.1

theorem past_next {N : List LnF} {V : Int → Nat → List Int} {P : PastF} {a : OpF} (hO : PastOk N P a.a) (hg : ∀ x ∈ P, x.1.a ≤ a.a ∧ (x.1.k = a.k → x.1.a + x.1.b < a.a ∧ x.1.a + x.1.c < a.a)) : PastOk N (P ++ [(a, wakeF N V P a)]) a.a := by
  refine ⟨fun x hx => ?_, fun x hx => ?_, ?_, fun x hx => ?_⟩
  · rcases List.mem_append.1 hx with hx | hx
    · exact hO.same x hx
    · rw [List.mem_singleton] at hx; subst hx; exact ⟨rfl, rfl⟩
  · rcases List.mem_append.1 hx with hx | hx
    · exact hO.le x hx
    · rw [List.mem_singleton] at hx; subst hx; exact Int.le_refl _
  · rw [List.pairwise_append]
    exact ⟨hO.gap, List.pairwise_singleton _ _, fun x hx y hy => by rw [List.mem_singleton] at hy; subst hy; exact hg x hx⟩
  · rcases List.mem_append.1 hx with hx | hx
    · exact hO.took x hx
    · rw [List.mem_singleton] at hx; subst hx; exact ⟨tookF_nodup N P a, tookF_in N P a⟩

theorem PastOk.mono {N : List LnF} {P : PastF} {t u : Int} (h : PastOk N P t) (htu : t ≤ u) : PastOk N P u := ⟨h.same, fun x hx => Int.le_trans (h.le x hx) htu, h.gap, h.took⟩

/-- what the next event adds. -/
theorem cnt_next (N : List LnF) (V : Int → Nat → List Int) (P : PastF) (a : OpF) (pl what : Int) : cntF (P ++ [(a, wakeF N V P a)]) pl what = cntF P pl what + (if a.k = pl ∧ (wakeF N V P a).did = what then 1 else 0) := by
  rw [cntF_snoc]
  congr 1
  have e : isD pl what (a, wakeF N V P a) = decide (a.k = pl ∧ (wakeF N V P a).did = what) := by
    unfold isD
    show (decide (a.k = pl) && decide ((wakeF N V P a).did = what)) = _
    rw [Bool.decide_and]
  rw [e]
  simp only [decide_eq_true_eq]
theorem tk_next (N : List LnF) (V : Int → Nat → List Int) (P : PastF) (a : OpF) {l : Nat} (hl : l < N.length) : tkF l (P ++ [(a, wakeF N V P a)]) = tkF l P + (if canF N P a l = true then 1 else 0) := by
  rw [tkF_app]
  congr 1
  simp only [tkF, Nat.add_zero]
  show (tookF N P a).count l = _
  rw [count_one (tookF_nodup N P a) l]
  by_cases hc : canF N P a l = true
  · rw [if_pos hc, if_pos (by unfold tookF; rw [List.mem_filter, List.mem_range]; exact ⟨hl, hc⟩)]
  · rw [if_neg hc, if_neg (by unfold tookF; rw [List.mem_filter]; exact fun e => hc e.2)]
theorem did_cases (N : List LnF) (V : Int → Nat → List Int) (P : PastF) (a : OpF) : (readyF N P a = true ∧ (wakeF N V P a).did = 1) ∨ (readyF N P a = false ∧ freeF N P a = true ∧ (wakeF N V P a).did = 2) ∨ (readyF N P a = false ∧ freeF N P a = false ∧ (wakeF N V P a).did = 0) := by
  unfold wakeF
  cases readyF N P a <;> cases freeF N P a <;> simp

theorem inv_next {N : List LnF} {V : Int → Nat → List Int} {P : PastF} {a : OpF} (hA : Apart N) (hO : PastOk N P a.a) (hI : RunInv N P) : RunInv N (P ++ [(a, wakeF N V P a)]) := by
  have hcan : ∀ l, l < N.length → canF N P a l = true → (lnAt N l).dst = a.k ∧ tkF l P < cntF P (lnAt N l).src 2 ∧ tkF l P + lateN N l = cntF P a.k 1 := fun l hl h => by
    obtain ⟨h1, h2, _, h4⟩ := (can_iff hO hI hl).1 h
    exact ⟨h1, h2, h4⟩
  rcases did_cases N V P a with ⟨hr, hd⟩ | ⟨_, hf, hd⟩ | ⟨_, _, hd⟩
  · obtain ⟨e1, e2⟩ := (ready_iff hO hI).1 hr
    refine ⟨fun pl => ?_, fun l hl => ?_, fun l hl => ?_⟩
    · rw [cnt_next, cnt_next, hd]
      have := hI.turn pl
      by_cases h : a.k = pl
      · subst h; simp; omega
      · simp [h]; exact this
    · rw [cnt_next, tk_next N V P a hl, hd]
      have := hI.sent l hl
      by_cases hc : canF N P a l = true
      · have h := hcan l hl hc; rw [if_pos hc]; simp; omega
      · rw [if_neg hc]; simpa using this
    · rw [cnt_next, tk_next N V P a hl, hd]
      have := hI.slot l hl
      by_cases h : a.k = (lnAt N l).dst
      · have h3 := e2 l hl h.symm
        rw [← h, if_pos ⟨rfl, rfl⟩]; omega
      · have hc : ¬ canF N P a l = true := fun hc => h (hcan l hl hc).1.symm
        rw [if_neg hc, if_neg (fun e => h e.1)]; exact this
  · obtain ⟨e1, e2⟩ := (free_iff hO hI).1 hf
    refine ⟨fun pl => ?_, fun l hl => ?_, fun l hl => ?_⟩
    · rw [cnt_next, cnt_next, hd]
      have := hI.turn pl
      by_cases h : a.k = pl
      · subst h; simp; omega
      · simp [h]; exact this
    · rw [cnt_next, tk_next N V P a hl, hd]
      have := hI.sent l hl
      by_cases h : a.k = (lnAt N l).src
      · have hc : ¬ canF N P a l = true := fun hc => hA l hl (h.symm.trans (hcan l hl hc).1.symm)
        have := (e2 l hl h.symm).1
        rw [if_neg hc, if_pos ⟨h, rfl⟩, ← h]; omega
      · have hz : (if a.k = (lnAt N l).src ∧ (2 : Int) = 2 then 1 else 0) = 0 := if_neg (fun e => h e.1)
        rw [hz]
        by_cases hc : canF N P a l = true
        · have := hcan l hl hc; rw [if_pos hc]; omega
        · rw [if_neg hc]; exact this
    · rw [cnt_next, tk_next N V P a hl, hd]
      have := hI.slot l hl
      have hz : (if a.k = (lnAt N l).dst ∧ (2 : Int) = 1 then 1 else 0) = 0 := if_neg (fun e => by have := e.2; revert this; decide)
      rw [hz]
      by_cases hc : canF N P a l = true
      · have h := hcan l hl hc; rw [if_pos hc, h.1]; rw [h.1] at this; omega
      · rw [if_neg hc]; exact this
  · refine ⟨fun pl => ?_, fun l hl => ?_, fun l hl => ?_⟩
    · rw [cnt_next, cnt_next, hd]
      simpa using hI.turn pl
    · rw [cnt_next, tk_next N V P a hl, hd]
      have := hI.sent l hl
      have hz : (if a.k = (lnAt N l).src ∧ (0 : Int) = 2 then 1 else 0) = 0 := if_neg (fun e => by have := e.2; revert this; decide)
      rw [hz]
      by_cases hc : canF N P a l = true
      · have := hcan l hl hc; rw [if_pos hc]; omega
      · rw [if_neg hc]; exact this
    · rw [cnt_next, tk_next N V P a hl, hd]
      have := hI.slot l hl
      have hz : (if a.k = (lnAt N l).dst ∧ (0 : Int) = 1 then 1 else 0) = 0 := if_neg (fun e => by have := e.2; revert this; decide)
      rw [hz]
      by_cases hc : canF N P a l = true
      · have h := hcan l hl hc; rw [if_pos hc, h.1]; rw [h.1] at this; omega
      · rw [if_neg hc]; exact this

theorem inv_start (N : List LnF) : RunInv N [] := ⟨fun _ => by simp [cntF], fun l _ => by simp [cntF, tkF], fun l _ => by simp only [cntF, tkF, List.filter_nil, List.length_nil, Nat.zero_add]; have := lateN_le N l; omega⟩
theorem past_start (N : List LnF) (t : Int) : PastOk N [] t := ⟨fun x hx => by simp at hx, fun x hx => by simp at hx, List.Pairwise.nil, fun x hx => by simp at hx⟩

/-- a script played: what holds behind each of its acts. -/
theorem run_ind {N : List LnF} (hA : Apart N) (V : Int → Nat → List Int) {p : PastF → Prop} (h1 : ∀ P a, PastOk N P a.a → RunInv N P → 0 ≤ a.a → p P → p (P ++ [(a, wakeF N V P a)])) :
    ∀ (sc : List OpF) (P : PastF), (∀ x ∈ sc, 0 ≤ x.a) → (P.map Prod.fst ++ sc).Pairwise (fun x y => x.a ≤ y.a ∧ (x.k = y.k → x.a + x.b < y.a ∧ x.a + x.c < y.a)) → (∀ t, (∀ x ∈ P, x.1.a ≤ t) → PastOk N P t) → RunInv N P → p P → p (runG N V P sc) ∧ RunInv N (runG N V P sc) ∧ ∀ t, (∀ x ∈ runG N V P sc, x.1.a ≤ t) → PastOk N (runG N V P sc) t := by
  intro sc
  induction sc with
  | nil => intro P _ _ hO hI hp; exact ⟨hp, hI, hO⟩
  | cons a r ih =>
    intro P hn hg hO hI hp
    have hga := List.pairwise_append.1 hg
    have hx : ∀ x ∈ P, x.1.a ≤ a.a ∧ (x.1.k = a.k → x.1.a + x.1.b < a.a ∧ x.1.a + x.1.c < a.a) := fun x hx => hga.2.2 x.1 (List.mem_map.2 ⟨x, hx, rfl⟩) a (by simp)
    have hOa : PastOk N P a.a := hO a.a (fun x m => (hx x m).1)
    have hOn := past_next (V := V) hOa hx
    refine ih (P ++ [(a, wakeF N V P a)]) (fun x m => hn x (List.mem_cons_of_mem _ m)) (by simpa using hg) (fun t ht => ?_) (inv_next hA hOa hI) (h1 P a hOa hI (hn a (by simp)) hp)
    exact hOn.mono (ht (a, wakeF N V P a) (by simp))

end Go.Proofs.Ytmndgoapkmhglab

/- Plain mathematics: what is a truth is 0 or 1, at every instant. -/
namespace Go.Proofs.Ytmndgoapkmhglab

def Bit (x : Int) : Prop := x = 0 ∨ x = 1
theorem bit_b2i (b : Bool) : Bit (b2i b) := by cases b <;> simp [Bit, b2i]

theorem or_none {a b : Option Nat} (h : a.or b = none) : a = none ∧ b = none := by cases a <;> simp_all
theorem bad_if {c : Bool} {p : Nat} {x : Option Nat} (h : (if c = true then some p else x) = none) : c = false ∧ x = none := by
  cases c <;> simp_all

theorem w64_id (x : Int) (h1 : -9223372036854775808 ≤ x) (h2 : x < 9223372036854775808) : w64 x = x := by
  unfold w64 Go.RowKit.wrap64
  omega

section
variable {ts : List Tk} (hF : ∀ i, TkF (tkAt ts i)) {L : List Dl}
include hF

theorem lit_bit {i : Nat} (h2 : litT (tkAt ts i) = true) (hb : badR ts L i 116 = false) : Bit (litV (tkAt ts i)) := by
  have hlf : leafT (tkAt ts i) = true := by unfold leafT; rw [h2]; rfl
  have hk1 : (tkAt ts i).kind ≠ 1 := by have := lit_nm hF h2; unfold isNm at this; simpa using this
  by_cases h3 : (tkAt ts i).kind = 3
  · have hi : isR ts L i = 110 := by unfold isR; rw [if_neg hk1, if_pos h3]
    unfold badR at hb; rw [hi] at hb; cases hb
  · unfold litV; rw [if_neg h3]; exact bit_b2i _

omit hF in
theorem op_truth {o : List UInt8} (h : (opOf o).isSome = true) (h2 : opR o = 116) (a b : Int) : Bit (apF o a b) := by
  revert h h2
  unfold opOf
  split; · rename_i e; subst e; intro _ h; exact absurd h (by decide)
  split; · rename_i e; subst e; intro _ h; exact absurd h (by decide)
  split; · rename_i e; subst e; intro _ h; exact absurd h (by decide)
  split; · rename_i e; subst e; intro _ h; exact absurd h (by decide)
  split; · rename_i e; subst e; intro _ _; exact bit_b2i _
  split; · rename_i e; subst e; intro _ _; exact bit_b2i _
  split; · rename_i e; subst e; intro _ _; exact bit_b2i _
  split; · rename_i e; subst e; intro _ _; exact bit_b2i _
  · intro h; cases h

theorem ev_bit {V : List UInt8 → Nat → Int} (hV : ∀ k n, k < ts.length → nameT ts L k = true → Bit (V (lAt ts k) n)) : ∀ (t : Ast) (i n : Nat), Sp ts t i → i + t.len ≤ ts.length → wrongR ts L t i 116 = none → Bit (evT ts V t i n) := by
  intro t
  induction t with
  | leaf =>
    intro i n hs hl h
    simp only [Ast.len] at hl
    simp only [wrongR] at h
    obtain ⟨hb, _⟩ := bad_if h
    unfold evT
    by_cases h1 : (tkAt ts i).kind = 1
    · rw [if_pos h1]
      cases hn : nameT ts L i with
      | true => exact hV i n (by omega) hn
      | false =>
        have hi : isR ts L i = 110 := by unfold isR; rw [if_pos h1, hn]; rfl
        unfold badR at hb; rw [hi] at hb; cases hb
    · rw [if_neg h1]
      have h2 : litT (tkAt ts i) = true := by
        have := hs.1
        unfold leafT at this
        have hk : ((tkAt ts i).kind == 1) = false := by simpa using h1
        rwa [hk, Bool.or_false] at this
      exact lit_bit hF h2 hb
  | neg a iha =>
    intro i n hs hl h
    obtain ⟨h1, h2, h3, h4⟩ := hs
    simp only [Ast.len] at hl
    simp only [wrongR] at h
    have ha := iha (i + 2) n h3 (by omega) (bad_if h).2
    simp only [evT]
    rcases ha with ha | ha <;> rw [ha] <;> simp [Bit, w64, Go.RowKit.wrap64]
  | ite a b c iha ihb ihc =>
    intro i n hs hl h
    obtain ⟨h1, h2, h3, h4, h5, h6⟩ := hs
    simp only [Ast.len] at hl
    simp only [wrongR] at h
    obtain ⟨_, h⟩ := bad_if h
    obtain ⟨_, h⟩ := or_none h
    obtain ⟨hb, hc⟩ := or_none h
    simp only [evT]
    split
    · exact ihb _ n h4 (by omega) hb
    · exact ihc _ n h5 (by omega) hc
  | dly b ihb =>
    intro i n hs hl h
    obtain ⟨h1, h2, h3, h4, h5⟩ := hs
    simp only [Ast.len] at hl
    simp only [wrongR] at h
    obtain ⟨_, h⟩ := bad_if h
    obtain ⟨hb, hc⟩ := or_none h
    cases n with
    | zero => simp only [evT]; exact lit_bit hF h2 (bad_if hb).1
    | succ n => simp only [evT]; exact ihb _ n h4 (by omega) hc
  | bin a b iha ihb =>
    intro i n hs hl h
    obtain ⟨h1, h2, h3, h4, h5⟩ := hs
    obtain ⟨n1, n2⟩ := sp_first hF h2
    simp only [Ast.len] at hl
    simp only [wrongR] at h
    obtain ⟨hb, _⟩ := bad_if h
    have hbh : behindF ts (i + 1) = i + 1 + a.len := behind_sp hF a (i + 1) h2 (by omega)
    have hi : isR ts L i = opR (lAt ts (i + 1 + a.len)) := by rw [isR_open hF h1, if_neg n1, if_neg n2, hbh]
    simp only [evT]
    refine op_truth h3 ?_ _ _
    unfold badR at hb
    rw [hi] at hb
    have hne : lAt ts (i + 1 + a.len) ≠ kFby := fun e => by rw [e] at h3; revert h3; decide
    unfold opR at hb ⊢
    rw [if_neg hne] at hb ⊢
    split at hb
    · cases hb
    · rename_i hx; rw [if_neg hx]

end

theorem nameT_of {ts : List Tk} {L : List Dl} (H : Right ts L) {k : Nat} (h : nameT ts L k = true) : ∃ j x, inIx ts L (lAt ts k) = none ∧ eqIx ts L (lAt ts k) = some j ∧ (eqL L)[j]? = some x ∧ x.kind = 2 := by
  unfold nameT at h
  rw [List.any_eq_true] at h
  obtain ⟨x, hx, h2⟩ := h
  rw [Bool.and_eq_true, beq_iff_eq, beq_iff_eq] at h2
  obtain ⟨j, hj⟩ := ix_some (p := nmIs ts (lAt ts k)) hx (by unfold nmIs; rw [h2.1]; simp)
  obtain ⟨z, hz, hn⟩ := eqIx_some hj
  obtain ⟨m, hm, rfl⟩ := List.getElem_of_mem hx
  have hjm := H.same hz (List.getElem?_eq_getElem hm) (hn.trans h2.1.symm)
  subst hjm
  refine ⟨j, _, ?_, hj, List.getElem?_eq_getElem hm, h2.2⟩
  cases hi : inIx ts L (lAt ts k) with
  | none => rfl
  | some i =>
    exfalso
    obtain ⟨g1, g2, _⟩ := List.findIdx?_eq_some_iff_getElem.1 hi
    have g3 : (nameD ts (inL L)[i]).data.toList = lAt ts k := by simpa [nmIs] using g2
    have m1 := List.mem_filter.1 (List.getElem_mem g1)
    have m2 := List.mem_filter.1 hx
    have e := H.own _ m1.1 _ m2.1 (g3.trans h2.1.symm)
    have hp := H.pw
    have k1 : (inL L)[i].kind = 0 := by simpa using m1.2
    have k2 : (eqL L)[j].kind ≠ 0 := by simpa using m2.2
    obtain ⟨a, ha, ea⟩ := List.getElem_of_mem m1.1
    obtain ⟨b, hb, eb⟩ := List.getElem_of_mem m2.1
    rw [List.pairwise_iff_getElem] at hp
    rw [← ea] at k1 e
    rw [← eb] at k2 e
    rcases Nat.lt_trichotomy a b with h | h | h
    · have := hp a b ha hb h; have := L[a].len_pos; omega
    · subst h; exact k2 k1
    · have := hp b a hb ha h; have := L[b].len_pos; omega

theorem val_bit {ts : List Tk} {L : List Dl} (H : Right ts L) {ins : List (List Int)} {R : Nat → Nat → Int} (hR : ∀ j n x, (eqL L)[j]? = some x → x.kind = 2 → Bit (R j n)) : ∀ k n, k < ts.length → nameT ts L k = true → Bit (valV ts L ins R (lAt ts k) n) := by
  intro k n _ h
  obtain ⟨j, x, h1, h2, h3, h4⟩ := nameT_of H h
  unfold valV
  rw [h1, h2]
  exact hR j n x h3 h4

theorem solF_bit {ts : List Tk} {L : List Dl} (H : Right ts L) (hT : typesR ts L = none) {ins : List (List Int)} : ∀ f j n x, (eqL L)[j]? = some x → x.kind = 2 → Bit (solF ts L ins f j n) := by
  intro f
  induction f with
  | zero => intro j n x _ _; exact .inl rfl
  | succ f ih =>
    intro j n x hx hk
    simp only [solF, bodyV, hx]
    obtain ⟨hs, hl⟩ := H.sp x (List.mem_of_getElem? hx)
    unfold typesR at hT
    rw [List.findSome?_eq_none_iff] at hT
    have hw := hT x (List.mem_of_getElem? hx)
    rw [hk] at hw
    exact ev_bit H.F (val_bit H ih) x.t _ n hs hl hw

theorem sol_bit {ts : List Tk} {L : List Dl} (H : Right ts L) (hT : typesR ts L = none) {ins : List (List Int)} (j n : Nat) (x : Dl) (hx : (eqL L)[j]? = some x) (hk : x.kind = 2) : Bit (sol ts L ins j n) := solF_bit H hT _ j n x hx hk

end Go.Proofs.Ytmndgoapkmhglab

/- Plain mathematics: what the program works out at a node is the value of its expression. -/
namespace Go.Proofs.Ytmndgoapkmhglab

def AllAt {α : Type} (P : Nat → α → Prop) : Nat → List α → Prop
  | _, [] => True
  | o, x :: l => P o x ∧ AllAt P (o + 1) l
theorem allAt_app {α : Type} {P : Nat → α → Prop} : ∀ (l m : List α) (o : Nat), AllAt P o (l ++ m) ↔ AllAt P o l ∧ AllAt P (o + l.length) m := by
  intro l
  induction l with
  | nil => intro m o; simp [AllAt]
  | cons x l ih =>
    intro m o
    simp only [List.cons_append, AllAt, ih, List.length_cons]
    rw [show o + 1 + l.length = o + (l.length + 1) by omega, and_assoc]
theorem allAt_get {α : Type} {P : Nat → α → Prop} : ∀ (l : List α) (o : Nat), AllAt P o l ↔ ∀ m x, l[m]? = some x → P (o + m) x := by
  intro l
  induction l with
  | nil => intro o; simp [AllAt]
  | cons x l ih =>
    intro o
    simp only [AllAt, ih]
    constructor
    · rintro ⟨h1, h2⟩ m y hm
      cases m with
      | zero => simp at hm; subst hm; exact h1
      | succ m => have := h2 m y (by simpa using hm); rwa [show o + 1 + m = o + (m + 1) by omega] at this
    · intro h
      refine ⟨h 0 x rfl, fun m y hm => ?_⟩
      have := h (m + 1) y (by simpa using hm)
      rwa [show o + (m + 1) = o + 1 + m by omega] at this
theorem AllAt.mono {α : Type} {P Q : Nat → α → Prop} (h : ∀ j x, P j x → Q j x) : ∀ (l : List α) (o : Nat), AllAt P o l → AllAt Q o l := by
  intro l
  induction l with
  | nil => intro o _; trivial
  | cons x l ih => intro o hp; exact ⟨h _ _ hp.1, ih _ hp.2⟩

def numAt (ds : List Dc) (i : Int) : Nat := (ds.getD i.toNat ⟨0, 0, ⟨#[]⟩, 0, 0, 0, 0⟩).number
def rootAt (ds : List Dc) (i : Int) : Nat := (ds.getD i.toNat ⟨0, 0, ⟨#[]⟩, 0, 0, 0, 0⟩).root

/-- an operation on two numbers. -/
def pairF (op : Nat) (a b : Int) : Int :=
  if op = 5 then w64 (a + b) else if op = 6 then w64 (a - b) else if op = 7 then w64 (a * b)
  else if op = 8 then (if b = 0 then 0 else if b = -1 then w64 (0 - a) else w64 (a.tdiv b)) else if op = 9 then b2i (decide (a < b)) else if op = 10 then b2i (decide (a = b))
  else if op = 11 then b2i (decide (a ≠ 0) && decide (b ≠ 0)) else if op = 12 then b2i (decide (a ≠ 0) || decide (b ≠ 0)) else 0
/-- what a node makes, by the values of this instant and of the one ahead of it. -/
def nameF (ds : List Dc) (ins : List (List Int)) (b : Int) (k : Nat) (X : Nat → Int) : Int := if kindAt ds b = 0 then elemF ins (numAt ds b) k else X (rootAt ds b)
def valF (ds : List Dc) (ins : List (List Int)) (n : Nd) (k : Nat) (X Y : Nat → Int) : Int :=
  if n.kind = 2 then nameF ds ins n.decl k X
  else if n.kind = 3 then b2i (decide (X n.a = 0))
  else if n.kind = 4 then (if X n.a ≠ 0 then X n.b else X n.c)
  else if n.kind = 5 then (if k = 0 then X n.a else Y n.b)
  else if n.kind = 6 then pairF n.op (X n.a) (X n.b)
  else (n.value : Int)
/-- the parts that it asks for at this instant. -/
def needs (n : Nd) : List Nat :=
  if n.kind = 3 then [n.a] else if n.kind = 4 then [n.a, n.b, n.c] else if n.kind = 5 then [n.a] else if n.kind = 6 then [n.a, n.b] else []

/-- the values of the nodes of an expression. -/
def flatV (ts : List Tk) (V : List UInt8 → Nat → Int) (k : Nat) : Ast → Nat → List Int
  | .leaf, i => [evT ts V .leaf i k]
  | .neg a, i => evT ts V (.neg a) i k :: flatV ts V k a (i + 2)
  | .ite a b c, i => evT ts V (.ite a b c) i k :: (flatV ts V k a (i + 2) ++ (flatV ts V k b (i + 2 + a.len) ++ flatV ts V k c (i + 2 + a.len + b.len)))
  | .dly b, i => evT ts V (.dly b) i k :: litV (tkAt ts (i + 1)) :: flatV ts V k b (i + 3)
  | .bin a b, i => evT ts V (.bin a b) i k :: (flatV ts V k a (i + 1) ++ flatV ts V k b (i + 2 + a.len))
theorem flatV_len (ts : List Tk) (V : List UInt8 → Nat → Int) (k : Nat) : ∀ (t : Ast) (i : Nat), (flatV ts V k t i).length = t.size := by
  intro t
  induction t with
  | leaf => intro i; rfl
  | neg a iha => intro i; simp [flatV, Ast.size, iha]
  | ite a b c iha ihb ihc => intro i; simp [flatV, Ast.size, iha, ihb, ihc]; omega
  | dly b ihb => intro i; simp [flatV, Ast.size, ihb]
  | bin a b iha ihb => intro i; simp [flatV, Ast.size, iha, ihb]
theorem flatV_head {ts : List Tk} {V : List UInt8 → Nat → Int} {k : Nat} {X : Nat → Int} : ∀ {t : Ast} {i o : Nat}, AllAt (fun j v => X j = v) o (flatV ts V k t i) → X o = evT ts V t i k := by
  intro t i o h
  cases t <;> exact h.1

theorem op_some {o : List UInt8} (h : (opOf o).isSome = true) : o = [43] ∨ o = [45] ∨ o = [42] ∨ o = [47] ∨ o = [60] ∨ o = [61] ∨ o = [38] ∨ o = [124] := by
  revert h
  unfold opOf
  split; · rename_i e; intro _; exact .inl e
  split; · rename_i e; intro _; exact .inr (.inl e)
  split; · rename_i e; intro _; exact .inr (.inr (.inl e))
  split; · rename_i e; intro _; exact .inr (.inr (.inr (.inl e)))
  split; · rename_i e; intro _; exact .inr (.inr (.inr (.inr (.inl e))))
  split; · rename_i e; intro _; exact .inr (.inr (.inr (.inr (.inr (.inl e)))))
  split; · rename_i e; intro _; exact .inr (.inr (.inr (.inr (.inr (.inr (.inl e))))))
  split; · rename_i e; intro _; exact .inr (.inr (.inr (.inr (.inr (.inr (.inr e))))))
  · intro h; cases h

theorem pair_ap {o : List UInt8} (h : (opOf o).isSome = true) {a b : Int} (hb : o = [38] ∨ o = [124] → Bit a ∧ Bit b) : apF o a b = pairF ((opOf o).getD 0) a b := by
  rcases op_some h with rfl | rfl | rfl | rfl | rfl | rfl | rfl | rfl
  · rfl
  · rfl
  · rfl
  · show (if b = 0 then 0 else w64 (a.tdiv b)) = (if b = 0 then 0 else if b = -1 then w64 (0 - a) else w64 (a.tdiv b))
    by_cases h0 : b = 0
    · rw [if_pos h0, if_pos h0]
    · rw [if_neg h0, if_neg h0]
      by_cases h1 : b = -1
      · rw [if_pos h1, h1]
        congr 1
        rw [Int.tdiv_neg, Int.tdiv_one]; omega
      · rw [if_neg h1]
  · rfl
  · rfl
  · obtain ⟨h1, h2⟩ := hb (.inl rfl)
    rcases h1 with rfl | rfl <;> rcases h2 with rfl | rfl <;> decide
  · obtain ⟨h1, h2⟩ := hb (.inr rfl)
    rcases h1 with rfl | rfl <;> rcases h2 with rfl | rfl <;> decide

section
variable {ds : List Dc} {ins : List (List Int)} {n : Nd} {k : Nat} {X Y : Nat → Int}
theorem valF3 (h : n.kind = 3) : valF ds ins n k X Y = b2i (decide (X n.a = 0)) := by unfold valF; rw [if_neg (by omega), if_pos h]
theorem valF4 (h : n.kind = 4) : valF ds ins n k X Y = if X n.a ≠ 0 then X n.b else X n.c := by unfold valF; rw [if_neg (by omega), if_neg (by omega), if_pos h]
theorem valF5 (h : n.kind = 5) : valF ds ins n k X Y = if k = 0 then X n.a else Y n.b := by unfold valF; rw [if_neg (by omega), if_neg (by omega), if_neg (by omega), if_pos h]
theorem valF6 (h : n.kind = 6) : valF ds ins n k X Y = pairF n.op (X n.a) (X n.b) := by unfold valF; rw [if_neg (by omega), if_neg (by omega), if_neg (by omega), if_neg (by omega), if_pos h]
end
theorem bind_other {ds : List Dc} {n : Nd} (h : n.kind ≠ 2) : bindF ds n = n := by unfold bindF; rw [if_neg h]

section
variable {ts : List Tk} (hF : ∀ i, TkF (tkAt ts i)) {L : List Dl} {ds : List Dc} {ins : List (List Int)} {V : List UInt8 → Nat → Int} {k : Nat} {X Y : Nat → Int}
include hF

theorem lit_val {i dl : Nat} (h : litT (tkAt ts i) = true) : litV (tkAt ts i) = valF ds ins (bindF ds (mkN ts i dl (leafN0 (tkAt ts i)))) k X Y := by
  have hlf : leafT (tkAt ts i) = true := by unfold leafT; rw [h]; rfl
  have hk1 : (tkAt ts i).kind ≠ 1 := by have := lit_nm hF h; unfold isNm at this; simpa using this
  have hk := leafN0_no hlf hk1
  rw [bind_other (by rw [mkN_kind]; exact hk)]
  unfold litV
  by_cases h3 : (tkAt ts i).kind = 3
  · have hn : ∀ l, kwL.contains l = true → (tkAt ts i).l ≠ l := fun l hl e => by have := (hF i).k3 h3; rw [e, hl] at this; cases this
    have hl : leafN0 (tkAt ts i) = { ndZero with kind := 0, value := valOf (tkAt ts i).l } := by
      unfold leafN0; rw [if_neg (hn _ (by decide)), if_neg (hn _ (by decide)), if_pos h3]
    rw [if_pos h3, hl]; rfl
  · rw [if_neg h3]
    unfold litT at h
    have h30 : ((tkAt ts i).kind == 3) = false := by simpa using h3
    rw [h30, Bool.false_or, Bool.or_eq_true, beq_iff_eq, beq_iff_eq] at h
    by_cases e : (tkAt ts i).l = kTrue
    · have hl : leafN0 (tkAt ts i) = { ndZero with kind := 1, value := 1 } := by unfold leafN0; rw [if_pos e]
      rw [hl, e]; rfl
    · have e2 := h.resolve_left e
      have hl : leafN0 (tkAt ts i) = { ndZero with kind := 1 } := by unfold leafN0; rw [if_neg e, if_pos e2]
      rw [hl, e2]; rfl

theorem flat_val (hV : ∀ k n, k < ts.length → nameT ts L k = true → Bit (V (lAt ts k) n)) :
    ∀ (t : Ast) (i dl off w : Nat), Sp ts t i → i + t.len ≤ ts.length → wrongR ts L t i w = none →
      (∀ j ∈ nms ts t i, V (lAt ts j) k = nameF ds ins (findF ds (tkAt ts j).text) k X) →
      AllAt (fun j v => X j = v) off (flatV ts V k t i) → (k ≠ 0 → AllAt (fun j v => Y j = v) off (flatV ts V (k - 1) t i)) →
      AllAt (fun j n => X j = valF ds ins (bindF ds n) k X Y) off (flat ts t i dl off) := by
  intro t
  induction t with
  | leaf =>
    intro i dl off w hs hl hw hn hX hY
    refine ⟨?_, trivial⟩
    show X off = valF ds ins (bindF ds (mkN ts i dl (leafN0 (tkAt ts i)))) k X Y
    rw [hX.1]
    by_cases h1 : (tkAt ts i).kind = 1
    · have hb : bindF ds (mkN ts i dl (leafN0 (tkAt ts i))) = { mkN ts i dl (leafN0 (tkAt ts i)) with decl := findF ds (tkAt ts i).text } := by
        rw [leafN0_name (hF i) h1]; unfold bindF; rw [if_pos (by rfl)]; rfl
      rw [hb]
      have hk2 : (leafN0 (tkAt ts i)).kind = 2 := by rw [leafN0_name (hF i) h1]
      unfold evT valF
      rw [if_pos h1, if_pos (show ({ mkN ts i dl (leafN0 (tkAt ts i)) with decl := findF ds (tkAt ts i).text } : Nd).kind = 2 from hk2)]
      exact hn i (by unfold nms; rw [if_pos h1]; simp)
    · have h2 : litT (tkAt ts i) = true := by
        have := hs.1
        unfold leafT at this
        have hk : ((tkAt ts i).kind == 1) = false := by simpa using h1
        rwa [hk, Bool.or_false] at this
      unfold evT
      rw [if_neg h1]
      exact lit_val hF h2
  | neg a iha =>
    intro i dl off w hs hl hw hn hX hY
    obtain ⟨h1, h2, h3, h4⟩ := hs
    simp only [Ast.len] at hl
    simp only [wrongR] at hw
    have ha := ev_bit hF hV a (i + 2) k h3 (by omega) (bad_if hw).2
    refine ⟨?_, iha (i + 2) dl (off + 1) 116 h3 (by omega) (bad_if hw).2 hn hX.2 (fun h => (hY h).2)⟩
    show X off = valF ds ins (bindF ds (mkN ts i dl { ndZero with kind := 3, a := off + 1 })) k X Y
    rw [hX.1, bind_other (by simp [mkN]), valF3 rfl]
    have e1 := flatV_head hX.2
    show w64 (1 - evT ts V a (i + 2) k) = b2i (decide (X (off + 1) = 0))
    rw [e1]
    rcases ha with ha | ha <;> rw [ha] <;> rw [w64_id _ (by decide) (by decide)] <;> decide
  | ite a b c iha ihb ihc =>
    intro i dl off w hs hl hw hn hX hY
    obtain ⟨h1, h2, h3, h4, h5, h6⟩ := hs
    simp only [Ast.len] at hl
    simp only [wrongR] at hw
    obtain ⟨_, hw⟩ := bad_if hw
    obtain ⟨wa, hw⟩ := or_none hw
    obtain ⟨wb, wc⟩ := or_none hw
    have ha := ev_bit hF hV a (i + 2) k h3 (by omega) wa
    obtain ⟨x0, hX⟩ := hX
    rw [allAt_app, allAt_app, flatV_len, flatV_len] at hX
    obtain ⟨xa, xb, xc⟩ := hX
    have hY' : k ≠ 0 → AllAt (fun j v => Y j = v) (off + 1) (flatV ts V (k - 1) a (i + 2)) ∧ AllAt (fun j v => Y j = v) (off + 1 + a.size) (flatV ts V (k - 1) b (i + 2 + a.len)) ∧ AllAt (fun j v => Y j = v) (off + 1 + a.size + b.size) (flatV ts V (k - 1) c (i + 2 + a.len + b.len)) := fun h => by
      have := (hY h).2
      rwa [allAt_app, allAt_app, flatV_len, flatV_len] at this
    simp only [nms, List.mem_append] at hn
    simp only [flat, AllAt]
    rw [allAt_app, allAt_app, flat_len, flat_len]
    refine ⟨?_, iha _ dl _ 116 h3 (by omega) wa (fun j hj => hn j (.inl hj)) xa (fun h => (hY' h).1), ihb _ dl _ w h4 (by omega) wb (fun j hj => hn j (.inr (.inl hj))) xb (fun h => (hY' h).2.1), ihc _ dl _ w h5 (by omega) wc (fun j hj => hn j (.inr (.inr hj))) xc (fun h => (hY' h).2.2)⟩
    rw [x0, bind_other (by simp [mkN]), valF4 rfl]
    have e1 := flatV_head xa
    have e2 := flatV_head xb
    have e3 := flatV_head xc
    show (if evT ts V a (i + 2) k = 1 then evT ts V b (i + 2 + a.len) k else evT ts V c (i + 2 + a.len + b.len) k) = if X (off + 1) ≠ 0 then X (off + 1 + a.size) else X (off + 1 + a.size + b.size)
    rw [e1, e2, e3]
    rcases ha with ha | ha <;> rw [ha] <;> rfl
  | dly b ihb =>
    intro i dl off w hs hl hw hn hX hY
    obtain ⟨h1, h2, h3, h4, h5⟩ := hs
    simp only [Ast.len] at hl
    simp only [wrongR] at hw
    obtain ⟨_, hw⟩ := bad_if hw
    obtain ⟨hb, hc⟩ := or_none hw
    obtain ⟨x0, x1, x2⟩ := hX
    refine ⟨?_, ?_, ihb (i + 3) (dl + 1) (off + 2) w h4 (by omega) hc hn x2 (fun h => (hY h).2.2)⟩
    · show X off = valF ds ins (bindF ds (mkN ts i dl { ndZero with kind := 5, a := off + 1, b := off + 2 })) k X Y
      rw [x0, bind_other (by simp [mkN]), valF5 rfl]
      show _ = if k = 0 then X (off + 1) else Y (off + 2)
      cases k with
      | zero => rw [if_pos rfl, x1]; rfl
      | succ n =>
        rw [if_neg (by omega)]
        have := (hY (by omega)).2.2
        rw [flatV_head this]; rfl
    · show X (off + 1) = valF ds ins (bindF ds (mkN ts (i + 1) dl (leafN0 (tkAt ts (i + 1))))) k X Y
      rw [x1]; exact lit_val hF h2
  | bin a b iha ihb =>
    intro i dl off w hs hl hw hn hX hY
    obtain ⟨h1, h2, h3, h4, h5⟩ := hs
    simp only [Ast.len] at hl
    simp only [wrongR] at hw
    obtain ⟨_, hw⟩ := bad_if hw
    obtain ⟨wa, wb⟩ := or_none hw
    obtain ⟨x0, hX⟩ := hX
    rw [allAt_app, flatV_len] at hX
    obtain ⟨xa, xb⟩ := hX
    have hY' : k ≠ 0 → AllAt (fun j v => Y j = v) (off + 1) (flatV ts V (k - 1) a (i + 1)) ∧ AllAt (fun j v => Y j = v) (off + 1 + a.size) (flatV ts V (k - 1) b (i + 2 + a.len)) := fun h => by
      have := (hY h).2
      rwa [allAt_app, flatV_len] at this
    simp only [nms, List.mem_append] at hn
    simp only [flat, AllAt]
    rw [allAt_app, flat_len]
    refine ⟨?_, iha _ dl _ _ h2 (by omega) wa (fun j hj => hn j (.inl hj)) xa (fun h => (hY' h).1), ihb _ dl _ _ h4 (by omega) wb (fun j hj => hn j (.inr hj)) xb (fun h => (hY' h).2)⟩
    rw [x0, bind_other (by simp [mkN]), valF6 rfl]
    have e1 := flatV_head xa
    have e2 := flatV_head xb
    show apF (lAt ts (i + 1 + a.len)) (evT ts V a (i + 1) k) (evT ts V b (i + 2 + a.len) k) = pairF ((opOf (lAt ts (i + 1 + a.len))).getD 0) (X (off + 1)) (X (off + 1 + a.size))
    rw [e1, e2]
    refine pair_ap h3 fun ho => ?_
    have hbo : bothR (lAt ts (i + 1 + a.len)) = 116 := by unfold bothR; rw [if_pos ho]
    rw [hbo] at wa wb
    exact ⟨ev_bit hF hV a _ k h2 (by omega) wa, ev_bit hF hV b _ k h4 (by omega) wb⟩

end

theorem flat_head {ts : List Tk} : ∀ (t : Ast) (i dl off : Nat), ∃ n l, flat ts t i dl off = n :: l ∧ n.delayed = decide (0 < dl) := by
  intro t i dl off
  cases t <;> exact ⟨_, _, rfl, rfl⟩
theorem flat_first {ts : List Tk} {D : Nat → Bool} {t : Ast} {i dl off : Nat} (h : AllAt (fun j n => D j = n.delayed) off (flat ts t i dl off)) : D off = decide (0 < dl) := by
  obtain ⟨n, l, e, hn⟩ := flat_head t i dl off (ts := ts)
  rw [e] at h
  rw [h.1, hn]

theorem leafN0_needs {ts : List Tk} (i dl : Nat) (t : Tk) : needs (mkN ts i dl (leafN0 t)) = [] := by
  have : (mkN ts i dl (leafN0 t)).kind ≤ 2 := by
    rw [mkN_kind]
    unfold leafN0
    split; · simp
    split; · simp
    split; · simp
    · simp
  unfold needs
  rw [if_neg (by omega), if_neg (by omega), if_neg (by omega), if_neg (by omega)]

theorem flat_kids {ts : List Tk} {D : Nat → Bool} : ∀ (t : Ast) (i dl off fin : Nat), off + t.size ≤ fin → AllAt (fun j n => D j = n.delayed) off (flat ts t i dl off) →
    AllAt (fun j n => ∀ c ∈ needs n, j < c ∧ c < fin ∧ D c = n.delayed) off (flat ts t i dl off) := by
  intro t
  induction t with
  | leaf => intro i dl off fin hf h; exact ⟨fun c hc => by rw [leafN0_needs] at hc; simp at hc, trivial⟩
  | neg a iha =>
    intro i dl off fin hf h
    simp only [Ast.size] at hf
    have pa := a.size_pos
    refine ⟨fun c hc => ?_, iha _ dl _ fin (by omega) h.2⟩
    have hc' : c = off + 1 := by simpa [needs, mkN] using hc
    subst hc'
    exact ⟨by omega, by omega, flat_first h.2⟩
  | ite a b c iha ihb ihc =>
    intro i dl off fin hf h
    simp only [Ast.size] at hf
    have pa := a.size_pos
    have pb := b.size_pos
    have pc := c.size_pos
    obtain ⟨h0, h⟩ := h
    rw [allAt_app, allAt_app, flat_len, flat_len] at h
    obtain ⟨ha, hb, hc⟩ := h
    simp only [flat, AllAt]
    rw [allAt_app, allAt_app, flat_len, flat_len]
    refine ⟨fun d hd => ?_, iha _ dl _ fin (by omega) ha, ihb _ dl _ fin (by omega) hb, ihc _ dl _ fin (by omega) hc⟩
    have hd' : d = off + 1 ∨ d = off + 1 + a.size ∨ d = off + 1 + a.size + b.size := by simpa [needs, mkN] using hd
    rcases hd' with rfl | rfl | rfl
    · exact ⟨by omega, by omega, flat_first ha⟩
    · exact ⟨by omega, by omega, flat_first hb⟩
    · exact ⟨by omega, by omega, flat_first hc⟩
  | dly b ihb =>
    intro i dl off fin hf h
    simp only [Ast.size] at hf
    refine ⟨fun c hc => ?_, fun c hc => by rw [leafN0_needs] at hc; simp at hc, ihb _ (dl + 1) _ fin (by omega) h.2.2⟩
    have hc' : c = off + 1 := by simpa [needs, mkN] using hc
    subst hc'
    exact ⟨by omega, by omega, h.2.1⟩
  | bin a b iha ihb =>
    intro i dl off fin hf h
    simp only [Ast.size] at hf
    have pa := a.size_pos
    have pb := b.size_pos
    obtain ⟨h0, h⟩ := h
    rw [allAt_app, flat_len] at h
    obtain ⟨ha, hb⟩ := h
    simp only [flat, AllAt]
    rw [allAt_app, flat_len]
    refine ⟨fun d hd => ?_, iha _ dl _ fin (by omega) ha, ihb _ dl _ fin (by omega) hb⟩
    have hd' : d = off + 1 ∨ d = off + 1 + a.size := by simpa [needs, mkN] using hd
    rcases hd' with rfl | rfl
    · exact ⟨by omega, by omega, flat_first ha⟩
    · exact ⟨by omega, by omega, flat_first hb⟩

end Go.Proofs.Ytmndgoapkmhglab

/- Plain mathematics: a right text as the program holds it: what its nodes mean, and what hangs on what. -/
namespace Go.Proofs.Ytmndgoapkmhglab

def dlAt (ns : List Nd) (j : Nat) : Bool := ((ns[j]?).map Nd.delayed).getD false

/-- what the nodes of a program mean. -/
structure Meant (ds : List Dc) (ns : List Nd) (ins : List (List Int)) (NV : Nat → Nat → Int) : Prop where
  cover : ∀ i, i < ns.length → ∃ (a : Nat) (d : Dc), ds[a]? = some d ∧ d.kind ≠ 0 ∧ d.root ≤ i ∧ i < d.fin
  val : ∀ (i : Nat) (n : Nd), ns[i]? = some n → ∀ k, NV k i = valF ds ins n k (NV k) (NV (k - 1))
  kids : ∀ (a : Nat) (d : Dc), ds[a]? = some d → d.kind ≠ 0 → ∀ (i : Nat) (n : Nd), ns[i]? = some n → d.root ≤ i → i < d.fin → ∀ c ∈ needs n, i < c ∧ c < d.fin ∧ dlAt ns c = n.delayed
  root : ∀ (a : Nat) (d : Dc), ds[a]? = some d → d.kind ≠ 0 → d.root < ns.length ∧ dlAt ns d.root = false
  segs : ∀ (a : Nat) (d : Dc), ds[a]? = some d → d.kind ≠ 0 → d.root < d.fin ∧ d.fin ≤ ns.length
  decl : ∀ n ∈ ns, n.kind = 2 → 0 ≤ n.decl ∧ n.decl < (ds.length : Int)
  hang : ∀ (a : Nat) (d : Dc), ds[a]? = some d → d.kind ≠ 0 → ∀ (i : Nat) (n : Nd), ns[i]? = some n → d.root ≤ i → i < d.fin → n.kind = 2 → n.delayed = false → kindAt ds n.decl ≠ 0 → markAll ds ns 0 ds noM a n.decl.toNat = true

/-- no circle. -/
structure Ranked (ds : List Dc) (H : Mx) (rank : Nat → Nat) : Prop where
  less : ∀ a b, H a b = true → rank b < rank a ∧ ∃ d, ds[b]? = some d ∧ d.kind ≠ 0
  lt : ∀ (a : Nat) (d : Dc), ds[a]? = some d → d.kind ≠ 0 → rank a < ds.length

/-- an order in which the equations can be worked out. -/
structure OrdOk (ds : List Dc) (H : Mx) (T : List Nat) : Prop where
  eqn : ∀ t ∈ T, ∃ d, ds[t]? = some d ∧ d.kind ≠ 0
  topo : ∀ (j t : Nat), T[j]? = some t → ∀ b, H t b = true → b ∈ T.take j
  all : ∀ (a : Nat) (d : Dc), ds[a]? = some d → d.kind ≠ 0 → a ∈ T
  len : T.length ≤ 300

def valsD (ts : List Tk) (V : List UInt8 → Nat → Int) (k : Nat) : List Dl → List Int
  | [] => []
  | x :: r => if x.kind = 0 then valsD ts V k r else flatV ts V k x.t (x.i + 5) ++ valsD ts V k r

structure DY (ts : List Tk) (f : Nd → Nd) (ns : List Nd) (V : List UInt8 → Nat → Int) (VL : Nat → List Int) (d : Dc) (x : Dl) : Prop where
  kind : d.kind = x.kind
  name : d.name = nameD ts x
  zero : x.kind = 0 → d.root = 0 ∧ d.fin = 0
  fin : x.kind ≠ 0 → d.fin = d.root + x.t.size
  nodes : x.kind ≠ 0 → AllAt (fun j n => ns[j]? = some (f n)) d.root (flat ts x.t (x.i + 5) 0 d.root)
  vals : x.kind ≠ 0 → ∀ k, AllAt (fun j v => (VL k).getD j 0 = v) d.root (flatV ts V k x.t (x.i + 5))

theorem allAt_mid {α : Type} (A l B : List α) : AllAt (fun j x => (A ++ (l ++ B))[j]? = some x) A.length l := by
  rw [allAt_get]
  intro m x hm
  have h := (List.getElem?_eq_some_iff.1 hm).1
  rw [List.getElem?_append_right (by omega), Nat.add_sub_cancel_left, List.getElem?_append_left h]
  exact hm

theorem allAt_map {α β : Type} {P : Nat → β → Prop} (f : α → β) : ∀ (l : List α) (o : Nat), AllAt P o (l.map f) → AllAt (fun j x => P j (f x)) o l := by
  intro l
  induction l with
  | nil => intro o _; trivial
  | cons x l ih => intro o h; exact ⟨h.1, ih _ h.2⟩

theorem dy_all (ts : List Tk) (f : Nd → Nd) (V : List UInt8 → Nat → Int) : ∀ (L : List Dl) (off a b : Nat) (N1 : List Nd) (W1 : Nat → List Int), N1.length = off → (∀ k, (W1 k).length = off) →
    All2 (DY ts f (N1 ++ (nodesD ts L off).map f) V (fun k => W1 k ++ valsD ts V k L)) (declsD ts L off a b) L := by
  intro L
  induction L with
  | nil => intro off a b N1 W1 _ _; trivial
  | cons x r ih =>
    intro off a b N1 W1 hN hW
    simp only [declsD, nodesD, valsD]
    by_cases hk : x.kind = 0
    · simp only [if_pos hk]
      exact ⟨⟨hk.symm, rfl, fun _ => ⟨rfl, rfl⟩, fun h => absurd hk h, fun h => absurd hk h, fun h => absurd hk h⟩, ih off (a + 1) b N1 W1 hN hW⟩
    · simp only [if_neg hk]
      refine ⟨⟨rfl, rfl, fun h => absurd h hk, fun _ => rfl, fun _ => ?_, fun _ k => ?_⟩, ?_⟩
      · rw [List.map_append]
        show AllAt _ off _
        rw [← hN]
        exact allAt_map f _ _ (allAt_mid N1 _ _)
      · show AllAt _ off _
        rw [← hW k]
        refine AllAt.mono (fun j v h => ?_) _ _ (allAt_mid (W1 k) (flatV ts V k x.t (x.i + 5)) (valsD ts V k r))
        rw [List.getD_eq_getElem?_getD, h]; rfl
      · have := ih (off + x.t.size) a (b + 1) (N1 ++ (flat ts x.t (x.i + 5) 0 off).map f) (fun k => W1 k ++ flatV ts V k x.t (x.i + 5)) (by simp [flat_len, hN]) (fun k => by simp [flatV_len, hW k])
        rw [List.append_assoc, ← List.map_append] at this
        simpa only [List.append_assoc] using this

theorem decls_num (ts : List Tk) : ∀ (L : List Dl) (off a b k : Nat) (d : Dc) (x : Dl), (declsD ts L off a b)[k]? = some d → L[k]? = some x →
    (x.kind = 0 → ∃ m, d.number = a + m ∧ (inL L)[m]? = some x) ∧ (x.kind ≠ 0 → ∃ m, d.number = b + m ∧ (eqL L)[m]? = some x) := by
  intro L
  induction L with
  | nil => intro off a b k d x _ h; simp at h
  | cons y r ih =>
    intro off a b k d x h1 h2
    simp only [declsD] at h1
    by_cases hy : y.kind = 0
    · rw [if_pos hy] at h1
      have e1 : inL (y :: r) = y :: inL r := by simp [inL, hy]
      have e2 : eqL (y :: r) = eqL r := by simp [eqL, hy]
      rw [e1, e2]
      cases k with
      | zero =>
        simp only [List.getElem?_cons_zero, Option.some.injEq] at h1 h2
        subst h1 h2
        exact ⟨fun _ => ⟨0, rfl, rfl⟩, fun h => absurd hy h⟩
      | succ k =>
        rw [List.getElem?_cons_succ] at h1 h2
        obtain ⟨g1, g2⟩ := ih _ _ _ k d x h1 h2
        refine ⟨fun h => ?_, g2⟩
        obtain ⟨m, hm, hg⟩ := g1 h
        exact ⟨m + 1, by omega, by rw [List.getElem?_cons_succ]; exact hg⟩
    · rw [if_neg hy] at h1
      have e1 : inL (y :: r) = inL r := by simp [inL, hy]
      have e2 : eqL (y :: r) = y :: eqL r := by simp [eqL, hy]
      rw [e1, e2]
      cases k with
      | zero =>
        simp only [List.getElem?_cons_zero, Option.some.injEq] at h1 h2
        subst h1 h2
        exact ⟨fun h => absurd h hy, fun _ => ⟨0, rfl, rfl⟩⟩
      | succ k =>
        rw [List.getElem?_cons_succ] at h1 h2
        obtain ⟨g1, g2⟩ := ih _ _ _ k d x h1 h2
        refine ⟨g1, fun h => ?_⟩
        obtain ⟨m, hm, hg⟩ := g2 h
        exact ⟨m + 1, by omega, by rw [List.getElem?_cons_succ]; exact hg⟩

theorem Right.one {ts : List Tk} {L : List Dl} (H : Right ts L) {a b : Nat} {x y : Dl} (hx : L[a]? = some x) (hy : L[b]? = some y) (he : (nameD ts x).data.toList = (nameD ts y).data.toList) : a = b := by
  have hi := H.own x (List.mem_of_getElem? hx) y (List.mem_of_getElem? hy) he
  obtain ⟨h1, rfl⟩ := List.getElem?_eq_some_iff.1 hx
  obtain ⟨h2, rfl⟩ := List.getElem?_eq_some_iff.1 hy
  have hp := H.pw
  rw [List.pairwise_iff_getElem] at hp
  rcases Nat.lt_trichotomy a b with h | h | h
  · have := hp a b h1 h2 h; have := L[a].len_pos; omega
  · exact h
  · have := hp b a h2 h1 h; have := L[b].len_pos; omega
theorem Right.sameIn {ts : List Tk} {L : List Dl} (H : Right ts L) {i j : Nat} {x y : Dl} (hx : (inL L)[i]? = some x) (hy : (inL L)[j]? = some y) (he : (nameD ts x).data.toList = (nameD ts y).data.toList) : i = j := by
  have mx : x ∈ L := (List.mem_filter.1 (List.mem_of_getElem? hx)).1
  have my : y ∈ L := (List.mem_filter.1 (List.mem_of_getElem? hy)).1
  have hi := H.own x mx y my he
  obtain ⟨h1, rfl⟩ := List.getElem?_eq_some_iff.1 hx
  obtain ⟨h2, rfl⟩ := List.getElem?_eq_some_iff.1 hy
  have hp : (inL L).Pairwise (fun x y => x.i + x.len ≤ y.i) := H.pw.filter _
  rw [List.pairwise_iff_getElem] at hp
  rcases Nat.lt_trichotomy i j with h | h | h
  · have := hp i j h1 h2 h; have := (inL L)[i].len_pos; omega
  · exact h
  · have := hp j i h2 h1 h; have := (inL L)[j].len_pos; omega

/-- what a name finds. -/
theorem val_in {ts : List Tk} {L : List Dl} (H : Right ts L) {ins : List (List Int)} {R : Nat → Nat → Int} {m : Nat} {x : Dl} (hx : (inL L)[m]? = some x) (n : Nat) : valV ts L ins R (nameD ts x).data.toList n = elemF ins m n := by
  obtain ⟨j, hj⟩ := ix_some (p := nmIs ts (nameD ts x).data.toList) (List.mem_of_getElem? hx) (by unfold nmIs; simp)
  have hj' : inIx ts L (nameD ts x).data.toList = some j := hj
  obtain ⟨g1, g2, _⟩ := List.findIdx?_eq_some_iff_getElem.1 hj
  have := H.sameIn (List.getElem?_eq_getElem g1) hx (by simpa [nmIs] using g2)
  subst this
  unfold valV
  rw [hj']
theorem val_eq {ts : List Tk} {L : List Dl} (H : Right ts L) {ins : List (List Int)} {R : Nat → Nat → Int} {m : Nat} {x : Dl} (hx : (eqL L)[m]? = some x) (n : Nat) : valV ts L ins R (nameD ts x).data.toList n = R m n := by
  obtain ⟨j, hj⟩ := ix_some (p := nmIs ts (nameD ts x).data.toList) (List.mem_of_getElem? hx) (by unfold nmIs; simp)
  have hj' : eqIx ts L (nameD ts x).data.toList = some j := hj
  obtain ⟨z, hz, hn⟩ := eqIx_some hj'
  have := H.same hz hx hn
  subst this
  have hi : inIx ts L (nameD ts x).data.toList = none := by
    cases hi : inIx ts L (nameD ts x).data.toList with
    | none => rfl
    | some i =>
      exfalso
      obtain ⟨g1, g2, _⟩ := List.findIdx?_eq_some_iff_getElem.1 hi
      have g3 : (nameD ts (inL L)[i]).data.toList = (nameD ts x).data.toList := by simpa [nmIs] using g2
      have m1 := List.mem_filter.1 (List.getElem_mem g1)
      have m2 := List.mem_filter.1 (List.mem_of_getElem? hx)
      obtain ⟨a, ha, ea⟩ := List.getElem_of_mem m1.1
      obtain ⟨b, hb, eb⟩ := List.getElem_of_mem m2.1
      have hab := H.one (List.getElem?_eq_getElem ha) (List.getElem?_eq_getElem hb) (by rw [ea, eb]; exact g3)
      subst hab
      rw [ea] at eb
      have k1 : (inL L)[i].kind = 0 := by simpa using m1.2
      have k2 : x.kind ≠ 0 := by simpa using m2.2
      exact k2 (by rw [← eb]; exact k1)
  unfold valV
  rw [hi, hj']

/-- what both readers' parts are to each other, of a right text. -/
structure Both2 (ts : List Tk) (L : List Dl) (ds : List Dc) (ns : List Nd) : Prop where
  N : NamesOk ts L ds
  sp : ∀ x ∈ L, x.kind ≠ 0 → Sp ts x.t (x.i + 5) ∧ x.i + 5 + x.t.len ≤ ts.length
  decl : ∀ x ∈ L, x.kind ≠ 0 → ∀ y ∈ nmD ts x.t (x.i + 5) false, 0 ≤ findF ds (tkAt ts y.1).text
  dx : All2 (DX ts (bindF ds) ns) ds L

theorem both2 {ts : List Tk} (hF : ∀ i, TkF (tkAt ts i)) (hE : ∀ i, (tkAt ts i).kind = 0 → ts.length ≤ i + 1) (L : List Dl) (hL : Spell ts L 0) (hn : namesR ts L = none) :
    Both2 ts L (declsD ts L 0 0 0) ((nodesD ts L 0).map (bindF (declsD ts L 0 0 0))) := by
  obtain ⟨ds, hds⟩ : ∃ ds, ds = declsD ts L 0 0 0 := ⟨_, rfl⟩
  obtain ⟨ns, hns⟩ : ∃ ns, ns = (nodesD ts L 0).map (bindF ds) := ⟨_, rfl⟩
  rw [← hds, ← hns]
  have hnm : ds.map Dc.name = L.map (nameD ts) := by rw [hds]; exact declsD_names ts L 0 0 0
  have hnames : badNameF ds ns 0 ds = namesR ts L := by
    have := names_eq hF hE L hL ds hnm L [] 0 0 0 0 [] [] rfl hL (by omega) (by rw [List.nil_append]; exact hds) rfl rfl
    rw [List.nil_append, ← hns, ← hds] at this
    exact this
  have hdx : All2 (DX ts (bindF ds) ns) ds L := by
    have := dx_all ts (bindF ds) L 0 0 0 [] rfl
    rw [List.nil_append, ← hns, ← hds] at this
    exact this
  rw [hn] at hnames
  have hN : NamesOk ts L ds := ⟨fun j hj => by have := badName_own ds 0 hnames j hj; rw [this, Nat.zero_add], dx_two hdx⟩
  have hsp : ∀ x ∈ L, x.kind ≠ 0 → Sp ts x.t (x.i + 5) ∧ x.i + 5 + x.t.len ≤ ts.length := by
    intro x hx hk
    obtain ⟨_, h2, h3⟩ := spell_mem _ _ hL x hx
    have hlen : x.len = x.t.len + 6 := by unfold Dl.len; rw [if_neg hk]
    refine ⟨?_, by omega⟩
    rcases h3 with ⟨h, _⟩ | ⟨_, _, _, _, _, h, _⟩
    · exact absurd h hk
    · exact h
  refine ⟨hN, hsp, ?_, hdx⟩
  intro x hx hk y hy
  obtain ⟨k, hk2, rfl⟩ := List.getElem_of_mem hx
  rcases hdx.getOpt k with ⟨_, h2⟩ | ⟨d, z, h1, h2, h3⟩
  · rw [List.getElem?_eq_getElem hk2] at h2; cases h2
  · rw [List.getElem?_eq_getElem hk2] at h2
    cases h2
    have hnone := badName_none ds 0 hnames d (List.mem_of_getElem? h1)
    obtain ⟨o, ho⟩ := h3.some hk
    have hmem : bindF ds (nmNd ts y) ∈ seg ns d.root d.fin := by
      rw [ho]
      have : bindF ds (nmNd ts y) ∈ (((flat ts (L[k]'hk2).t ((L[k]'hk2).i + 5) 0 o).map (bindF ds)).filter fun n => n.kind == 2) := by
        rw [bind_filter, flat_names hF _ _ _ _ (hsp _ hx hk).1]
        exact List.mem_map.2 ⟨_, List.mem_map.2 ⟨y, hy, rfl⟩, rfl⟩
      exact (List.mem_filter.1 this).1
    have := badNode_none _ hnone _ hmem (by rw [bind_nm]; rfl)
    rw [bind_nm] at this
    exact this

theorem seg_get {ns : List Nd} {a b i : Nat} (h1 : a ≤ i) (h2 : i < b) : (seg ns a b)[i - a]? = ns[i]? := by
  unfold seg
  rw [List.getElem?_take, if_pos (by omega), List.getElem?_drop, Nat.add_sub_cancel' h1]

theorem mark_of {ds : List Dc} {ns : List Nd} {a i : Nat} {d : Dc} {n : Nd} (hd : ds[a]? = some d) (hn : ns[i]? = some n) (h1 : d.root ≤ i) (h2 : i < d.fin) (hk : n.kind = 2) (hl : n.delayed = false) (hq : kindAt ds n.decl ≠ 0) : markAll ds ns 0 ds noM a n.decl.toNat = true := by
  rw [markAll_eq, Nat.sub_zero, hd, Option.any_some]
  have : ((seg ns d.root d.fin).any fun m => m.kind == 2 && (!m.delayed && (kindAt ds m.decl != 0 && m.decl.toNat == n.decl.toNat))) = true := by
    rw [List.any_eq_true]
    refine ⟨n, List.mem_of_getElem? ((seg_get h1 h2).trans hn), ?_⟩
    simp [hk, hl, hq]
  rw [this]; simp

theorem ranked_of {ts : List Tk} {L : List Dl} (H : Right ts L) {ds : List Dc} {ns : List Nd} (hB : Both2 ts L ds ns) : Ranked ds (markAll ds ns 0 ds noM) (fun a => rk ts L (cntE L a)) := by
  have hisE : ∀ (a : Nat) (d : Dc), ds[a]? = some d → d.kind ≠ 0 → isE L a = true := fun a d hd hk => by
    rcases hB.dx.getOpt a with ⟨h1, _⟩ | ⟨d', x, h1, h2, h3⟩
    · rw [h1] at hd; cases hd
    · rw [hd] at h1; cases h1
      unfold isE; rw [h2]; simp [← h3.kind, hk]
  have hlt : ∀ a, isE L a = true → cntE L a < (eqL L).length := fun a ha => by
    have h1 := cntE_get L a ha
    cases h2 : L[a]? with
    | none => unfold isE at ha; rw [h2] at ha; simp at ha
    | some x => rw [h2] at h1; exact (List.getElem?_eq_some_iff.1 h1).1
  constructor
  · intro a b h
    have ha : isE L a = true := by
      cases ha : isE L a with
      | true => rfl
      | false => rw [mark_none hB.dx a b ha] at h; cases h
    have hb : ∃ d, ds[b]? = some d ∧ d.kind ≠ 0 := by
      rw [markAll_eq, Nat.sub_zero] at h
      simp only [noM, Bool.false_or, Bool.and_eq_true] at h
      cases hd : ds[a]? with
      | none => rw [hd] at h; simp at h
      | some d =>
        rw [hd, Option.any_some, List.any_eq_true] at h
        obtain ⟨n, _, hn⟩ := h.2
        simp only [Bool.and_eq_true, bne_iff_ne, beq_iff_eq] at hn
        obtain ⟨_, _, h3, h4⟩ := hn
        unfold kindAt at h3
        rw [h4, List.getD_eq_getElem?_getD] at h3
        cases hb : ds[b]? with
        | none => rw [hb] at h3; exact absurd rfl h3
        | some e => rw [hb] at h3; exact ⟨e, rfl, h3⟩
    obtain ⟨d, hd, hk⟩ := hb
    refine ⟨?_, d, hd, hk⟩
    have hb := hisE b d hd hk
    rw [mark_rel H.F hB.N hB.sp hB.decl hB.dx a b ha hb] at h
    exact rk_less H.cyc (hlt b hb) h
  · intro a d hd hk
    have h1 := hlt a (hisE a d hd hk)
    have h2 := rk_lt H.cyc h1
    have h3 : (eqL L).length ≤ L.length := List.length_filter_le _ _
    have h4 : L.length = ds.length := hB.dx.len
    show rk ts L (cntE L a) < ds.length
    omega

set_option maxHeartbeats 1000000 in
theorem meant_of {ts : List Tk} {L : List Dl} (H : Right ts L) (hT : typesR ts L = none) (ins : List (List Int)) {ds : List Dc} {ns : List Nd} (hds : ds = declsD ts L 0 0 0) (hns : ns = (nodesD ts L 0).map (bindF ds)) (hB : Both2 ts L ds ns)
    (hcov : ∀ i, i < ns.length → ∃ d ∈ ds, d.root ≤ i ∧ i < d.fin) (hsg : ∀ d ∈ ds, (d.root = 0 ∧ d.fin = 0 ∧ d.kind = 0) ∨ (d.root < d.fin ∧ d.fin ≤ ns.length)) (hdr : ∀ n ∈ ns, n.kind = 2 → 0 ≤ n.decl ∧ n.decl < (ds.length : Int)) :
    ∃ NV, Meant ds ns ins NV ∧ ∀ (j : Nat) (d : Dc) (k : Nat), (eqsF ds)[j]? = some d → NV k d.root = sol ts L ins j k := by
  have hY := dy_all ts (bindF ds) (valV ts L ins (sol ts L ins)) L 0 0 0 [] (fun _ => []) rfl (fun _ => rfl)
  simp only [List.nil_append] at hY
  rw [← hds, ← hns] at hY
  have hat : ∀ (a : Nat) (d : Dc), ds[a]? = some d → ∃ x, L[a]? = some x ∧ DY ts (bindF ds) ns (valV ts L ins (sol ts L ins)) (fun k => valsD ts (valV ts L ins (sol ts L ins)) k L) d x := fun a d hd => by
    rcases hY.getOpt a with ⟨h1, _⟩ | ⟨d', x, h1, h2, h3⟩
    · rw [h1] at hd; cases hd
    · rw [hd] at h1; cases h1; exact ⟨x, h2, h3⟩
  have hnum : ∀ (a : Nat) (d : Dc) (x : Dl), ds[a]? = some d → L[a]? = some x → (x.kind = 0 → ∃ m, d.number = m ∧ (inL L)[m]? = some x) ∧ (x.kind ≠ 0 → ∃ m, d.number = m ∧ (eqL L)[m]? = some x) := fun a d x h1 h2 => by
    rw [hds] at h1
    have := decls_num ts L 0 0 0 a d x h1 h2
    simpa only [Nat.zero_add] using this
  have hmemE : ∀ (a : Nat) (x : Dl), L[a]? = some x → x.kind ≠ 0 → x ∈ eqL L := fun a x hx hk => List.mem_filter.2 ⟨List.mem_of_getElem? hx, by simpa using hk⟩
  -- the value at the root of an equation
  have hroot : ∀ (a : Nat) (d : Dc) (x : Dl) (m k : Nat), ds[a]? = some d → L[a]? = some x → x.kind ≠ 0 → (eqL L)[m]? = some x → (valsD ts (valV ts L ins (sol ts L ins)) k L).getD d.root 0 = sol ts L ins m k := fun a d x m k h1 h2 hk hm => by
    obtain ⟨x', h3, h4⟩ := hat a d h1
    rw [h2] at h3; cases h3
    obtain ⟨hm1, hm2⟩ := List.getElem?_eq_some_iff.1 hm
    rw [flatV_head (h4.vals hk k), sol_eq H.toEqs m k hm1, hm2]
  refine ⟨fun k i => (valsD ts (valV ts L ins (sol ts L ins)) k L).getD i 0, ⟨?_, ?_, ?_, ?_, ?_, hdr, ?_⟩, ?_⟩
  · intro i hi
    obtain ⟨d, hd, h1, h2⟩ := hcov i hi
    obtain ⟨a, ha, rfl⟩ := List.getElem_of_mem hd
    obtain ⟨x, hx, hy⟩ := hat a _ (List.getElem?_eq_getElem ha)
    refine ⟨a, _, List.getElem?_eq_getElem ha, fun e => ?_, h1, h2⟩
    have := hy.zero (by rw [← hy.kind]; exact e)
    omega
  · intro i n hn k
    have hi := (List.getElem?_eq_some_iff.1 hn).1
    obtain ⟨d, hd, h1, h2⟩ := hcov i hi
    obtain ⟨a, ha, rfl⟩ := List.getElem_of_mem hd
    obtain ⟨x, hx, hy⟩ := hat a _ (List.getElem?_eq_getElem ha)
    have hk : x.kind ≠ 0 := fun e => by have := hy.zero e; omega
    have hf := hy.fin hk
    have hxe := hmemE a x hx hk
    obtain ⟨hs, hl⟩ := H.sp x hxe
    have hw : wrongR ts L x.t (x.i + 5) (wB (x.kind == 2)) = none := by
      have := hT
      unfold typesR at this
      rw [List.findSome?_eq_none_iff] at this
      exact this x hxe
    have hX := hy.vals hk
    have hlt : i - ds[a].root < (flat ts x.t (x.i + 5) 0 ds[a].root).length := by
      rw [flat_len]
      have h1' := h1
      have h2' := h2
      rw [hf] at h2'
      generalize ds[a].root = rr at *
      omega
    have key := flat_val H.F (L := L) (ds := ds) (ins := ins) (V := valV ts L ins (sol ts L ins)) (k := k) (X := fun i => (valsD ts (valV ts L ins (sol ts L ins)) k L).getD i 0) (Y := fun i => (valsD ts (valV ts L ins (sol ts L ins)) (k - 1) L).getD i 0) (val_bit H (fun j n x hx hk => sol_bit H hT j n x hx hk)) x.t (x.i + 5) 0 ds[a].root (wB (x.kind == 2)) hs hl hw ?_ (hX k) (fun _ => hX (k - 1))
    · rw [allAt_get] at key
      obtain ⟨n', hn'⟩ : ∃ n', (flat ts x.t (x.i + 5) 0 ds[a].root)[i - ds[a].root]? = some n' := ⟨_, List.getElem?_eq_getElem hlt⟩
      have h3 := (allAt_get _ _).1 (hy.nodes hk) _ _ hn'
      rw [Nat.add_sub_cancel' h1, hn] at h3
      cases h3
      have := key _ _ hn'
      rw [Nat.add_sub_cancel' h1] at this
      exact this
    · intro j hj
      have hjl := nms_lt x.t _ j hj
      obtain ⟨z, hz, he⟩ := H.decl j (by omega) (nms_nm x.t _ j hj)
      have hfd : 0 ≤ findF ds (tkAt ts j).text := by
        rw [nms_nmD ts x.t _ false] at hj
        obtain ⟨y, hy, rfl⟩ := List.mem_map.1 hj
        exact hB.decl x (List.mem_of_getElem? hx) hk y hy
      obtain ⟨b, hb, rfl⟩ := List.getElem_of_mem hz
      have hbd : b < ds.length := by have := hB.dx.len; omega
      obtain ⟨z', hz', hyb⟩ := hat b _ (List.getElem?_eq_getElem hbd)
      rw [List.getElem?_eq_getElem hb] at hz'
      cases hz'
      have hfb : findF ds (tkAt ts j).text = (b : Int) := by
        have h5 := hB.N.own b hbd
        rw [findF_name ds (b := (tkAt ts j).text) (by rw [hyb.name]; exact he)] at h5
        exact h5
      have hgd : ds.getD b ⟨0, 0, ⟨#[]⟩, 0, 0, 0, 0⟩ = ds[b] := by rw [List.getD_eq_getElem?_getD, List.getElem?_eq_getElem hbd]; rfl
      unfold nameF kindAt numAt rootAt
      rw [hfb]
      simp only [Int.toNat_natCast]
      rw [hgd, hyb.kind]
      have hnb := hnum b ds[b] L[b] (List.getElem?_eq_getElem hbd) (List.getElem?_eq_getElem hb)
      by_cases hkb : L[b].kind = 0
      · rw [if_pos hkb]
        obtain ⟨m, hm, hg⟩ := hnb.1 hkb
        rw [← he, val_in H hg, hm]
      · rw [if_neg hkb]
        obtain ⟨m, hm, hg⟩ := hnb.2 hkb
        rw [← he, val_eq H hg]
        exact (hroot b _ _ m k (List.getElem?_eq_getElem hbd) (List.getElem?_eq_getElem hb) hkb hg).symm
  · intro a d hd hk i n hn h1 h2 c hc
    obtain ⟨x, hx, hy⟩ := hat a d hd
    have hkx : x.kind ≠ 0 := by rw [← hy.kind]; exact hk
    have hf := hy.fin hkx
    have hD : AllAt (fun j n => dlAt ns j = n.delayed) d.root (flat ts x.t (x.i + 5) 0 d.root) := by
      refine AllAt.mono (fun j m h => ?_) _ _ (hy.nodes hkx)
      unfold dlAt
      rw [h]
      show (bindF ds m).delayed = _
      unfold bindF; split <;> rfl
    have key := flat_kids x.t (x.i + 5) 0 d.root d.fin (by omega) hD
    obtain ⟨n', hn'⟩ : ∃ n', (flat ts x.t (x.i + 5) 0 d.root)[i - d.root]? = some n' := ⟨_, List.getElem?_eq_getElem (by rw [flat_len]; omega)⟩
    have h3 := (allAt_get _ _).1 (hy.nodes hkx) _ _ hn'
    rw [Nat.add_sub_cancel' h1, hn] at h3
    cases h3
    have e1 : needs (bindF ds n') = needs n' := by
      obtain ⟨k1, k2, k3, k4⟩ := bindF_keep ds n'
      unfold needs; rw [k1, k2, k3, k4]
    have e2 : (bindF ds n').delayed = n'.delayed := by unfold bindF; split <;> rfl
    rw [e1] at hc
    rw [e2]
    have := (allAt_get _ _).1 key _ _ hn' c hc
    rw [Nat.add_sub_cancel' h1] at this
    exact this
  · intro a d hd hk
    obtain ⟨x, hx, hy⟩ := hat a d hd
    have hkx : x.kind ≠ 0 := by rw [← hy.kind]; exact hk
    obtain ⟨n, l, e, hn⟩ := flat_head x.t (x.i + 5) 0 d.root (ts := ts)
    have h := hy.nodes hkx
    rw [e] at h
    have h1 := h.1
    refine ⟨(List.getElem?_eq_some_iff.1 h1).1, ?_⟩
    unfold dlAt
    rw [h1]
    show (bindF ds n).delayed = false
    have : (bindF ds n).delayed = n.delayed := by unfold bindF; split <;> rfl
    rw [this, hn]; rfl
  · intro a d hd hk
    rcases hsg d (List.mem_of_getElem? hd) with ⟨_, _, h⟩ | h
    · exact absurd h hk
    · exact h
  · intro a d hd _ i n hn h1 h2 hk hl hq
    exact mark_of hd hn h1 h2 hk hl hq
  · intro j d k hj
    have hmem := List.mem_of_getElem? hj
    have hE : All2 (DY ts (bindF ds) ns (valV ts L ins (sol ts L ins)) (fun k => valsD ts (valV ts L ins (sol ts L ins)) k L)) (eqsF ds) (eqL L) := All2.filter (fun d x h => by rw [h.kind]) hY
    rcases hE.getOpt j with ⟨h1, _⟩ | ⟨d', x, h1, h2, h3⟩
    · rw [h1] at hj; cases hj
    · rw [hj] at h1; cases h1
      obtain ⟨hm1, hm2⟩ := List.getElem?_eq_some_iff.1 h2
      have hk : x.kind ≠ 0 := by simpa using (List.mem_filter.1 (List.mem_of_getElem? h2)).2
      show (valsD ts (valV ts L ins (sol ts L ins)) k L).getD d.root 0 = _
      rw [flatV_head (h3.vals hk k), sol_eq H.toEqs j k hm1, hm2]

end Go.Proofs.Ytmndgoapkmhglab

/- operations, cell by cell. -/
namespace Go.Proofs.Ytmndgoapkmhglab
open Go.RowKit

def opCells (l : List OpF) : List Value := l.flatMap fun o => [.int .i64 o.k, .int .i64 o.a, .int .i64 o.b, .int .i64 o.c]

end Go.Proofs.Ytmndgoapkmhglab

namespace Go.Proofs.Ytmndgoapkmhglab
open Go.RowKit
attribute [local go_sem ↓] Go.wp_at_zero Go.wp_at_succ

theorem Ans.len {ts : List Tk} {n : Nat} {T : List UInt8} {d : Int} {i : Nat} {r : Int} (h : Ans ts n T d i r) : T.length ≤ 100 ∧ i < ts.length := by
  cases h <;> exact ⟨by simp only [List.length_cons]; omega, by assumption⟩

theorem Ans.inv {ts : List Tk} {n : Nat} {T : List UInt8} {d : Int} {i : Nat} {r : Int} (h : Ans ts n T d i r) : ∃ (x : UInt8) (X : List UInt8), T = x :: X ∧ X.length ≤ 99 ∧
    ((x = 80 ∧ (tkAt ts i).kind = 0 ∧ r = -1) ∨ (¬ (x = 80 ∧ (tkAt ts i).kind = 0) ∧ (ruleF x.toNat (rtok (tkAt ts i)) d).2.2 = false ∧ r = ((tkAt ts i).pos : Int)) ∨
     ∃ (k : Nat) (m : List UInt8) (u : Bool), n = k + 1 ∧ ¬ (x = 80 ∧ (tkAt ts i).kind = 0) ∧ ruleF x.toNat (rtok (tkAt ts i)) d = (m, u, true) ∧
       Ans ts k (m ++ X) (if u = true ∧ lAt ts i = [40] then d + 1 else if u = true ∧ lAt ts i = [41] then d - 1 else d) (if u = true then i + 1 else i) r) := by
  cases h with
  | done _ X _ _ hi hX hk => exact ⟨80, X, rfl, hX, .inl ⟨rfl, hk, rfl⟩⟩
  | fail _ x X _ _ hi hX h80 hr => exact ⟨x, X, rfl, hX, .inr (.inl ⟨h80, hr, rfl⟩)⟩
  | step k x X _ _ _ m u hi hX h80 hr hn => exact ⟨x, X, rfl, hX, .inr (.inr ⟨k, m, u, rfl, h80, hr, hn⟩)⟩

set_option maxHeartbeats 2000000 in
set_option maxRecDepth 100000 in
theorem stands_any (ts : List Tk) (n0 : Nat) (r : Int) (w : World) (g cap : Nat) (h : TokAt w g cap ts) (hF : ∀ i, TkF (tkAt ts i)) (hl : ts.length ≤ 1501) (hA : Ans ts n0 [80] 0 0 r) :
    Calls Try.prog 58 #[.slice (some ⟨g, 0, none⟩) ts.length cap] w fun e w' => e = .returned (.int .i64 r) ∧ Below w.heap.size w w' := by
  obtain ⟨i0, hi0, hz0, hz1, hz2⟩ := info_parts Try.infoU8
  have HT := hide h
  have HF := hide hF
  have HA := hide hA
  clear h hF hA
  go_enter Try.func58, Try.ntmps58
  go_wp2
  go_loopg [3, 4, 5] n0 (fun n v d i wr => ∃ (T : List UInt8) (e : Int) (k : Nat), d = .int .i64 e ∧ i = .int .i64 k ∧ e ≤ (k : Int) ∧ -(k : Int) ≤ e ∧ Ans ts n T e k r ∧ wr.ownsRow w.heap.size 5 1 v T.length (bCells T.reverse) ∧ Below w.heap.size w wr)
  case atStart =>
    refine ⟨[80], 0, 0, rfl, rfl, by omega, by omega, HA.out, ?_, (Below.refl _ _).alloc (Nat.le_refl _) _⟩
    exact World.ownsRow_lit w #[.int .u8 80] 1 (Nat.le_refl _) (by unfold maxLen; omega) rfl
  case round =>
    obtain ⟨T, e, k, rfl, rfl, he1, he2, hans, hown, hbel⟩ := hrel
    obtain ⟨hTl, hk⟩ := hans.len
    obtain ⟨a, ha⟩ : ∃ a, a = rtok (tkAt ts k) := ⟨_, rfl⟩
    obtain ⟨x0, x1, x2, x3⟩ := HT.out.cells hbel hk a ha
    have hbs := hbel.size
    have j1 : (0 : Int) ≤ (k : Int) := by omega
    have j2 : (k : Int) < (ts.length : Int) := by omega
    obtain ⟨x, X, rfl, hX, hcase⟩ := hans.inv
    obtain ⟨g2, cap2, rfl, hg2, hg3⟩ := hown.form (by simp)
    have hcx : wr.cell? ⟨g2, X.length, none⟩ = some (.int .u8 (x.toNat : Int)) := by
      have := hown.cellAt X.length (by simp)
      rw [this]
      simp [bCells]
    have hcap : X.length + 1 ≤ cap2 := by
      rcases hown.2 with ⟨h0, _⟩ | ⟨_, c', _, h1, _, _, h2, _⟩
      · cases h0
      · cases h1; simpa using h2
    have HOWN := hide hown
    simp only [List.length_cons] at hTl ⊢
    have i1 : (0 : Int) < ((X.length + 1 : Nat) : Int) := by omega
    have i2 : ((X.length + 1 : Nat) : Int) - 1 = (X.length : Int) := by omega
    have i3 : (X.length : Int) < ((X.length + 1 : Nat) : Int) := by omega
    have i4 : (0 : Int) ≤ (X.length : Int) := by omega
    have i5 : (X.length : Int) ≤ (cap2 : Int) := by omega
    have hts : a.c = 115 → 0 < a.word.size := fun h => by
      have hc := c115 (tkAt ts k)
      rw [← ha, h] at hc
      have h4 : (tkAt ts k).kind = 4 := by simpa using hc.symm
      have hw : a.word = (tkAt ts k).text := by rw [ha]; unfold rtok; simp [h4]
      have hne := (HF.out k).pos (by omega)
      rw [hw]
      rw [← size_len]
      exact List.length_pos_iff.2 hne
    have HSTEP := hide (tok_step a wr)
    clear hown hans
    rcases hcase with ⟨rfl, hk0, hr⟩ | ⟨h80, hr0, hr⟩ | ⟨n', m, u, hgk, h80, hrule, hnext⟩
    · have q1 : ((a.c : Int) == 101) = true := by
        have := c101 (tkAt ts k)
        rw [← ha, hk0] at this
        rw [show (101 : Int) = ((101 : Nat) : Int) from rfl, beq_cast, this]; rfl
      have HR := hide hr
      clear hr hk0 ha
      go_wp2
      go_ret
      exact ⟨by rw [HR.out]; rfl, hbel.alloc hbel.size _⟩
    · have hq : (((x.toNat : Int) == 80) = true ∧ ((a.c : Int) == 101) = false) ∨ ((x.toNat : Int) == 80) = false := by
        by_cases hx : x = 80
        · left
          refine ⟨by rw [hx]; rfl, ?_⟩
          have := c101 (tkAt ts k)
          rw [← ha, beq_eq_false_iff_ne.2 (fun hz => h80 ⟨hx, hz⟩)] at this
          rw [show (101 : Int) = ((101 : Nat) : Int) from rfl, beq_cast, this]
        · right
          rw [beq_eq_false_iff_ne]
          intro h
          exact hx (UInt8.toNat_inj.1 (show x.toNat = 80 by omega))
      have hp : (tkAt ts k).pos = a.pos := by rw [ha]; rfl
      rw [← ha] at hr0
      rw [hp] at hr
      have HR := hide hr
      have HR0 := hide hr0
      clear hr hr0 ha hp h80
      rcases hq with ⟨q1, q2⟩ | q1
      all_goals
        go_wp2_with fail
        refine (rule_any x.toNat a e _ hts).mono ?_
        rintro e1 w1 ⟨rfl, hb1⟩
        obtain ⟨m, u, ok, hm⟩ : ∃ m u ok, ruleF x.toNat a e = (m, u, ok) := ⟨_, _, _, rfl⟩
        have hok := HR0.out
        rw [hm] at hok ⊢
        simp only at hok
        subst hok
        obtain ⟨d0, d1, d2, d3, hbw⟩ := HSTEP.out w1 hb1
        clear hb1 hm
        go_wp2_with fail
        go_ret
        exact ⟨by rw [HR.out]; rfl, hbel.trans (hbw.mono hbel.size)⟩
    · have hq : (((x.toNat : Int) == 80) = true ∧ ((a.c : Int) == 101) = false) ∨ ((x.toNat : Int) == 80) = false := by
        by_cases hx : x = 80
        · left
          refine ⟨by rw [hx]; rfl, ?_⟩
          have := c101 (tkAt ts k)
          rw [← ha, beq_eq_false_iff_ne.2 (fun hz => h80 ⟨hx, hz⟩)] at this
          rw [show (101 : Int) = ((101 : Nat) : Int) from rfl, beq_cast, this]
        · right
          rw [beq_eq_false_iff_ne]
          intro h
          exact hx (UInt8.toNat_inj.1 (show x.toNat = 80 by omega))
      have hk1 := (HF.out k).kw [40] (by decide)
      have hk2 := (HF.out k).kw [41] (by decide)
      rw [← ha] at hrule hk1 hk2
      have hml := hnext.len.1
      rw [List.length_append] at hml
      have HRU := hide hrule
      have HNX := hide hnext
      have HGK := hide hgk
      have HK := hide (And.intro hk1 hk2)
      clear hrule hnext hgk ha h80 hk1 hk2
      rcases hq with ⟨q1, q2⟩ | q1
      all_goals
        go_wp2_with fail
        refine (rule_any x.toNat a e _ hts).mono ?_
        rintro e1 w1 ⟨rfl, hb1⟩
        obtain ⟨M, hM1, hM2⟩ : ∃ M : ByteArray, M.data.toList = m ∧ tri (m, u, true) = .tuple #[.string M, .bool u, .bool true] := ⟨⟨m.toArray⟩, by simp, rfl⟩
        rw [HRU.out, hM2]
        have hMs : M.size = m.length := by rw [← hM1, size_len]
        have hown1 := bel_own (HOWN.out.alloc (.cells #[.int .u8 (a.c : Int), .string a.word, .int .i64 (a.pos : Int), .int .i64 (a.n : Int)] 157)) hb1
        rw [List.reverse_cons, bCells_app] at hown1
        have hown2 := ownsRow_pop (by simp [bCells]) hown1
        have hbx1 : wr.heap.size < w1.heap.size := by have := hb1.size; simp at this; omega
        obtain ⟨d0, d1, d2, d3, hbw⟩ := HSTEP.out w1 hb1
        have hbel1 : Below w.heap.size w w1 := hbel.trans (hbw.mono hbel.size)
        have HO2 := hide hown2
        have HM := hide (And.intro hM1 hMs)
        have k1 : (M.size : Int) ≤ 100 := by omega
        clear hb1 hown1 hown2 d0 d2 d3 hbw x0 x1 x2 x3 hcx hM1 hM2 hMs HRU hts HSTEP HOWN
        go_wp2_with fail
        generalize wr.heap.size = B at hg3 hbs d1 hbx1 ⊢
        go_loopw [3, 11] (fun v kk wx => ∃ j : Nat, j ≤ m.length ∧ kk = .int .i64 ((j : Int) - 1) ∧ wx.ownsRow w.heap.size 5 1 v (X.length + (m.length - j)) (bCells (X.reverse ++ (m.drop j).reverse)) ∧ Below w.heap.size w wx ∧ wx.cell? ⟨B, 1, none⟩ = some (.string a.word) ∧ v.ownBlock ≠ some B ∧ B < wx.heap.size) (fun _ kk _ => ((intOf kk) + 1).toNat)
        case atStart =>
          refine ⟨m.length, Nat.le_refl _, by rw [HM.out.2], ?_, hbel1, d1, ?_, hbx1⟩
          · rw [Nat.sub_self, Nat.add_zero, List.drop_length, List.reverse_nil, List.append_nil]
            exact HO2.out
          · intro h
            have : g2 = B := by simpa [Value.ownBlock] using h
            omega
        case round =>
          clear hbel hbel1 d1 HO2 hbx1
          obtain ⟨j, hj, rfl, hownx, hbelx, hcx, hne, hBlt⟩ := hrel
          have hbsx := hbelx.size
          cases j with
          | zero =>
            rw [List.drop_zero, Nat.sub_zero] at hownx
            have hlast : (bCells (X.reverse ++ m.reverse)) = bCells (m ++ X).reverse := by rw [List.reverse_append]
            have hlen : X.length + m.length = (m ++ X).length := by rw [List.length_append]; omega
            rw [hlast, hlen] at hownx
            have HO := hide hownx
            clear hownx hlast hlen
            have z1 : ¬ (0 : Int) ≤ ((0 : Nat) : Int) - 1 := by omega
            cases u with
            | false =>
              have hnx := HNX.out
              rw [if_neg (by simp), if_neg (by simp), if_neg (by simp)] at hnx
              have HN2 := hide hnx
              clear hnx
              go_wp2
              go_roundg n'
              case measure => have := HGK.out; omega
              case rel => exact ⟨m ++ X, e, k, rfl, rfl, he1, he2, HN2.out, HO.out, hbelx⟩
            | true =>
              have hnx := HNX.out
              by_cases h1 : a.l = [40]
              · have s1 := str_yes (t := a.word) h1
                rw [if_pos ⟨rfl, HK.out.1.1 h1⟩, if_pos rfl] at hnx
                have HN2 := hide hnx
                clear hnx h1
                go_wp2
                go_roundg n'
                case measure => have := HGK.out; omega
                case rel => exact ⟨m ++ X, e + 1, k + 1, by go_num, by go_num, by omega, by omega, HN2.out, HO.out, hbelx⟩
              · have s1 := str_no (t := a.word) h1
                by_cases h2 : a.l = [41]
                · have s2 := str_yes (t := a.word) h2
                  rw [if_neg (fun h => h1 (HK.out.1.2 h.2)), if_pos ⟨rfl, HK.out.2.1 h2⟩, if_pos rfl] at hnx
                  have HN2 := hide hnx
                  clear hnx h1 h2 s1
                  go_wp2
                  go_roundg n'
                  case measure => have := HGK.out; omega
                  case rel => exact ⟨m ++ X, e - 1, k + 1, by go_num, by go_num, by omega, by omega, HN2.out, HO.out, hbelx⟩
                · have s2 := str_no (t := a.word) h2
                  rw [if_neg (fun h => h1 (HK.out.1.2 h.2)), if_neg (fun h => h2 (HK.out.2.2 h.2)), if_pos rfl] at hnx
                  have HN2 := hide hnx
                  clear hnx h1 h2
                  go_wp2
                  go_roundg n'
                  case measure => have := HGK.out; omega
                  case rel => exact ⟨m ++ X, e, k + 1, rfl, by go_num, by omega, by omega, HN2.out, HO.out, hbelx⟩
          | succ j =>
            have hMs := HM.out.2
            have hjm : j < M.size := by omega
            have eb := byt_eq M j hjm
            have z1 : ((j + 1 : Nat) : Int) - 1 = (j : Int) := by omega
            have z2 : (0 : Int) ≤ (j : Int) := by omega
            have z3 : (j : Int) < (M.size : Int) := by omega
            have HOX := hide hownx
            have hnl : X.length + (m.length - (j + 1)) ≤ 200 := by omega
            clear hMs
            rw [z1]
            go_wp2_with (at_builtin; refine wpList_append_lies _ rfl _ _ _ rfl w.heap.size 5 i0 _ 1 1 Try.underlying160 hi0 hz0 hz1 hz2 rfl (by omega) _ (X.length + (m.length - (j + 1))) (bCells (X.reverse ++ (m.drop (j + 1)).reverse)) rfl (HOX.out.alloc _) ⟨wr.heap.size, 0, none⟩ 1 1 [.int .u8 (byt M j : Int)] rfl rfl (World.news_of_block (cs := #[.int .u8 (byt M j : Int)]) (t := 5) (fr := (0, 0)) (heap_alloc_new wr _)) (by simp [Value.oneCell']) (by omega) (by unfold maxLen; omega) (by omega) (by simp; omega) (wr.heap.size + 1) (by simp) ?_; intro g3 cap3 w3 hown3 hgrow hat hlt3)
            go_roundw
            case rel =>
              have hml2 : j < m.length := by omega
              have hb2 : byt M j = (m[j]'hml2).toNat := by
                unfold byt; rw [HM.out.1, List.getD_eq_getElem?_getD, List.getElem?_eq_getElem hml2]; rfl
              have hsz3 := hgrow.size
              simp at hsz3
              refine ⟨j, by omega, by go_num, ?_, ?_, ?_, ?_, by omega⟩
              · rw [List.drop_eq_getElem_cons hml2, List.reverse_cons, ← List.append_assoc, bCells_app, show X.length + (m.length - j) = X.length + (m.length - (j + 1)) + 1 by omega]
                have e1 : bCells [m[j]'hml2] = [.int .u8 (byt M j : Int)] := by rw [hb2]; rfl
                rw [e1]
                exact hown3
              · exact (hbelx.alloc hbelx.size _).grown hgrow (by simp; omega) (fun j hj => ownBlock_ge HOX.out j hj)
              · exact hgrow.cell (by rw [World.cell?_alloc_past _ _ _ hBlt]; exact hcx) (fun h => hne h.symm)
              · intro h
                have h' : g3 = B := by simpa [Value.ownBlock] using h
                rcases hat with hat | hat
                · rw [h'] at hat; exact hne hat
                · omega
            case measure => simp [intOf]

end Go.Proofs.Ytmndgoapkmhglab

namespace Go.Proofs.Ytmndgoapkmhglab
open Go.RowKit
attribute [local go_sem ↓] Go.wp_at_zero Go.wp_at_succ

/-- a declaration as the document's own reader has it. -/
structure RDc where
  name : ByteArray
  tok : Nat
  input : Bool
  truth : Bool
  place : Nat
  body : Nat

def rdc (ts : List Tk) (x : Dl) : RDc := if x.kind = 0 then ⟨nameD ts x, x.i + 1, true, false, 0, 0⟩ else ⟨nameD ts x, x.i + 1, false, x.kind == 2, placeD ts x, x.i + 5⟩
def RDc.cells (d : RDc) : List Value := [.string d.name, .int .i64 (d.tok : Int), .bool d.input, .bool d.truth, .int .i64 (d.place : Int), .int .i64 (d.body : Int)]
def rdCells (l : List RDc) : List Value := l.flatMap RDc.cells
theorem rdCells_snoc (l : List RDc) (t : RDc) : rdCells (l ++ [t]) = rdCells l ++ t.cells := by simp [rdCells]
theorem rd_len (t : RDc) : t.cells.length = 6 := rfl

theorem Try.infoRDecl : (Try.prog.info? 115).map (fun i => (i.zero, i.size, i.bytes)) = some (some (.agg #[.string ⟨#[]⟩, .int .i64 0, .bool false, .bool false, .int .i64 0, .int .i64 0]), 6, 48) := by kernel_rfl

/-- a row in a program that is being laid. -/
structure Rw where
  v : Value
  e : Nat
  sz : Nat
  n : Nat
  xs : List Value

/-- a program that is being laid: its block, and its rows, each its own. -/
structure RPV (w : World) (B q : Nat) (vT : Value) (R : Nat → Rw) : Prop where
  lt : q < w.heap.size
  blk : w.heap[q]? = some (.cells #[vT, (R 1).v, (R 2).v, (R 3).v, (R 4).v] 118)
  own : ∀ f, w.ownsRow B (R f).e (R f).sz (R f).v (R f).n (R f).xs
  nq : ∀ f, (R f).v.ownBlock ≠ some q
  dis : ∀ f f' k, f ≠ f' → (R f).v.ownBlock = some k → (R f').v.ownBlock ≠ some k

theorem RPV.below {w w' : World} {B q : Nat} {vT : Value} {R : Nat → Rw} (h : RPV w B q vT R) (hb : Below w.heap.size w w') : RPV w' B q vT R :=
  ⟨Nat.lt_of_lt_of_le h.lt hb.size, (hb.block q h.lt).trans h.blk, fun f => bel_own (h.own f) hb, h.nq, h.dis⟩

def putR (R : Nat → Rw) (f : Nat) (r : Rw) : Nat → Rw := fun k => if k = f then r else R k

theorem putR_at (R : Nat → Rw) (f : Nat) (r : Rw) : putR R f r f = r := by unfold putR; rw [if_pos rfl]
theorem putR_ne (R : Nat → Rw) (f k : Nat) (r : Rw) (h : k ≠ f) : putR R f r k = R k := by unfold putR; rw [if_neg h]
theorem putR_put (R : Nat → Rw) (f : Nat) (r r' : Rw) : putR (putR R f r) f r' = putR R f r' := by funext k; unfold putR; split <;> rfl

theorem RPV.push {w w1 : World} {B q : Nat} {vT : Value} {R : Nat → Rw} (h : RPV w B q vT R) (f : Nat) (r : Rw) (hr : R f = r) (hf : 1 ≤ f ∧ f ≤ 4) {g cap n : Nat} {xs : List Value} (hgrow : w.grownBy w1 r.v.ownBlock)
    (hown : w1.ownsRow B r.e r.sz (.slice (some ⟨g, 0, none⟩) n cap) n xs) (hat : r.v.ownBlock = some g ∨ w.heap.size ≤ g) :
    RPV (w1.setCell ⟨q, f, none⟩ (.slice (some ⟨g, 0, none⟩) n cap)) B q vT (putR R f ⟨.slice (some ⟨g, 0, none⟩) n cap, r.e, r.sz, n, xs⟩) := by
  subst hr
  have gq : g ≠ q := by
    rcases hat with hg | hg
    · rintro rfl; exact h.nq f hg
    · have := h.lt; omega
  have hg2 : w1.grownBy (w1.setCell ⟨q, f, none⟩ (.slice (some ⟨g, 0, none⟩) n cap)) (some q) := ⟨rfl, rfl, rfl, by simp, fun k _ hk => heap_setCell_other w1 ⟨q, f, none⟩ k _ (fun e => hk (by simp [e]))⟩
  have hbb : w1.heap[q]? = w.heap[q]? := hgrow.block q h.lt (Ne.symm (h.nq f))
  have hnew : ∀ f', f' ≠ f → ∀ k, (R f').v.ownBlock = some k → k ≠ g := by
    intro f' hne k hk
    rcases hat with hg | hg
    · rintro rfl; exact h.dis f' f k hne hk hg
    · have := ((h.own f').lt k hk).2; omega
  refine ⟨?_, ?_, fun f' => ?_, fun f' => ?_, fun f1 f2 k hne => ?_⟩
  · have := hgrow.size; have := h.lt; simp; omega
  · rw [heap_setCell_same w1 q f _ _ _ (hbb.trans h.blk)]
    obtain ⟨h1, h4⟩ := hf
    have hc : f = 1 ∨ f = 2 ∨ f = 3 ∨ f = 4 := by omega
    rcases hc with rfl | rfl | rfl | rfl <;> rfl
  · unfold putR
    split
    · exact hown.kept hg2 (.inr (by simp [Value.ownBlock, gq]))
    · rename_i hne
      refine ((h.own f').kept hgrow ?_).kept hg2 (.inr (h.nq f'))
      cases hv : (R f').v.ownBlock with
      | none => exact .inl rfl
      | some k => exact .inr (fun e => h.dis f' f k hne hv e.symm)
  · unfold putR
    split
    · simp [Value.ownBlock, gq]
    · exact h.nq f'
  · unfold putR
    split
    · rename_i e1
      rw [if_neg (fun e2 => hne (e1.trans e2.symm))]
      intro hk h2
      have : g = k := by simpa [Value.ownBlock] using hk
      exact hnew f2 (fun e2 => hne (e1.trans e2.symm)) k h2 this.symm
    · rename_i e1
      intro hk
      split
      · intro h2
        have : g = k := by simpa [Value.ownBlock] using h2
        exact hnew f1 e1 k hk this.symm
      · exact h.dis f1 f2 k hne hk

def R0 : Nat → Rw := fun f => if f = 1 then ⟨.slice none 0 0, 3, 1, 0, []⟩ else ⟨.slice none 0 0, 115, 6, 0, []⟩

theorem R0_nil (f : Nat) : (putR R0 1 ⟨.slice none 0 0, 3, 1, 0, []⟩ f).v = .slice none 0 0 ∧ (putR R0 1 ⟨.slice none 0 0, 3, 1, 0, []⟩ f).n = 0 ∧ (putR R0 1 ⟨.slice none 0 0, 3, 1, 0, []⟩ f).xs = [] := by
  unfold putR R0
  split
  · exact ⟨rfl, rfl, rfl⟩
  · exact ⟨rfl, rfl, rfl⟩

/-- the rows of a program. -/
def RRw (n : Nat) (xs : List Value) (v vA vI vQ : Value) (A I Q : List RDc) : Nat → Rw := fun f =>
  if f = 1 then ⟨v, 3, 1, n, xs⟩ else if f = 2 then ⟨vA, 115, 6, A.length, rdCells A⟩ else if f = 3 then ⟨vI, 115, 6, I.length, rdCells I⟩
  else if f = 4 then ⟨vQ, 115, 6, Q.length, rdCells Q⟩ else ⟨.slice none 0 0, 115, 6, 0, []⟩
theorem RRw_put2 (n : Nat) (xs : List Value) (v vA vI vQ u : Value) (A I Q : List RDc) (d : RDc) : putR (RRw n xs v vA vI vQ A I Q) 2 ⟨u, 115, 6, A.length + 1, rdCells A ++ d.cells⟩ = RRw n xs v u vI vQ (A ++ [d]) I Q := by
  funext f; unfold putR RRw
  by_cases h : f = 2
  · subst h; simp [rdCells_snoc]
  · rw [if_neg h]; simp [h]
theorem RRw_put3 (n : Nat) (xs : List Value) (v vA vI vQ u : Value) (A I Q : List RDc) (d : RDc) : putR (RRw n xs v vA vI vQ A I Q) 3 ⟨u, 115, 6, I.length + 1, rdCells I ++ d.cells⟩ = RRw n xs v vA u vQ A (I ++ [d]) Q := by
  funext f; unfold putR RRw
  by_cases h : f = 3
  · subst h; simp [rdCells_snoc]
  · rw [if_neg h]; simp [h]
theorem RRw_put4 (n : Nat) (xs : List Value) (v vA vI vQ u : Value) (A I Q : List RDc) (d : RDc) : putR (RRw n xs v vA vI vQ A I Q) 4 ⟨u, 115, 6, Q.length + 1, rdCells Q ++ d.cells⟩ = RRw n xs v vA vI u A I (Q ++ [d]) := by
  funext f; unfold putR RRw
  by_cases h : f = 4
  · subst h; simp [rdCells_snoc]
  · rw [if_neg h]; simp [h]
theorem RRw_start (n : Nat) (xs : List Value) (v : Value) : putR R0 1 ⟨v, 3, 1, n, xs⟩ = RRw n xs v (.slice none 0 0) (.slice none 0 0) (.slice none 0 0) [] [] [] := by
  funext f; unfold putR R0 RRw
  by_cases h : f = 1
  · simp [h]
  · rw [if_neg h, if_neg h, if_neg h]
    by_cases h2 : f = 2
    · simp [h2, rdCells]
    · by_cases h3 : f = 3
      · simp [h3, rdCells]
      · by_cases h4 : f = 4
        · simp [h4, rdCells]
        · simp [h2, h3, h4]

/-- a program that is being laid, and a declaration in its box. -/
structure St (w0 W : World) (q N : Nat) (vT : Value) (R : Nat → Rw) (d : RDc) : Prop where
  rp : RPV W w0.heap.size q vT R
  blk : W.heap[N]? = some (.cells #[.string d.name, .int .i64 (d.tok : Int), .bool d.input, .bool d.truth, .int .i64 (d.place : Int), .int .i64 (d.body : Int)] 115)
  nq : N ≠ q
  nr : ∀ f, (R f).v.ownBlock ≠ some N
  bel : Below w0.heap.size w0 W
  q0 : w0.heap.size ≤ q

theorem St.push {w0 W w3 : World} {q N : Nat} {vT : Value} {R : Nat → Rw} {d : RDc} (h : St w0 W q N vT R d) (f : Nat) (r : Rw) (hr : R f = r) (hf : 1 ≤ f ∧ f ≤ 4) (o : Obj) {g cap n : Nat} {xs : List Value}
    (hgrow : (W.alloc o).drew.grownBy w3 r.v.ownBlock) (hown : w3.ownsRow w0.heap.size r.e r.sz (.slice (some ⟨g, 0, none⟩) n cap) n xs) (hat : r.v.ownBlock = some g ∨ g = W.heap.size + 1) :
    St w0 (w3.setCell ⟨q, f, none⟩ (.slice (some ⟨g, 0, none⟩) n cap)) q N vT (putR R f ⟨.slice (some ⟨g, 0, none⟩) n cap, r.e, r.sz, n, xs⟩) d := by
  have hlt : N < W.heap.size := by
    rcases Nat.lt_or_ge N W.heap.size with hl | hg
    · exact hl
    · have := h.blk; rw [Array.getElem?_eq_none hg] at this; cases this
  have hNr : r.v.ownBlock ≠ some N := hr ▸ h.nr f
  have hgN : g ≠ N := by
    rcases hat with hg | hg
    · rintro rfl; exact hNr hg
    · omega
  have hb : Below W.heap.size W (W.alloc o).drew := ((Below.refl _ _).alloc (Nat.le_refl _) o).drew
  have hsz : (W.alloc o).drew.heap.size = W.heap.size + 1 := by simp
  have hbe : ∀ k, r.v.ownBlock = some k → w0.heap.size ≤ k := fun k hk => ((hr ▸ h.rp.own f : W.ownsRow w0.heap.size r.e r.sz r.v r.n r.xs).lt k hk).1
  refine ⟨(h.rp.below hb).push f r hr hf hgrow hown (hat.imp id (fun e => by rw [hsz]; omega)), ?_, h.nq, fun f' => ?_, ?_, h.q0⟩
  · rw [heap_setCell_other w3 ⟨q, f, none⟩ N _ h.nq, hgrow.block N (by rw [hsz]; omega) (Ne.symm hNr)]
    rw [hb.block N hlt]; exact h.blk
  · unfold putR
    split
    · simp [Value.ownBlock, hgN]
    · exact h.nr f'
  · refine Below.setCell ?_ h.q0 _
    exact (h.bel.trans (hb.mono h.bel.size)).grown hgrow (by rw [hsz]; have := h.bel.size; omega) (fun j hj => hbe j hj)

theorem St.cells {w0 W : World} {q N : Nat} {vT : Value} {R : Nat → Rw} {d : RDc} (h : St w0 W q N vT R d) :
    N < W.heap.size ∧ q < W.heap.size ∧ (W.cell? ⟨N, 0, none⟩ = some (.string d.name) ∧ W.cell? ⟨N, 1, none⟩ = some (.int .i64 (d.tok : Int)) ∧ W.cell? ⟨N, 2, none⟩ = some (.bool d.input) ∧ W.cell? ⟨N, 3, none⟩ = some (.bool d.truth) ∧ W.cell? ⟨N, 4, none⟩ = some (.int .i64 (d.place : Int)) ∧ W.cell? ⟨N, 5, none⟩ = some (.int .i64 (d.body : Int))) := by
  have hlt : N < W.heap.size := by
    rcases Nat.lt_or_ge N W.heap.size with hl | hg
    · exact hl
    · have := h.blk; rw [Array.getElem?_eq_none hg] at this; cases this
  exact ⟨hlt, h.rp.lt, cell_of_row W N 0 _ _ _ h.blk, cell_of_row W N 1 _ _ _ h.blk, cell_of_row W N 2 _ _ _ h.blk, cell_of_row W N 3 _ _ _ h.blk, cell_of_row W N 4 _ _ _ h.blk, cell_of_row W N 5 _ _ _ h.blk⟩

theorem St.row {w0 W : World} {q N : Nat} {vT : Value} {R : Nat → Rw} {d : RDc} (h : St w0 W q N vT R d) (f : Nat) (r : Rw) (hr : R f = r) (hf : 1 ≤ f ∧ f ≤ 4) :
    (∀ o, (W.alloc o).cell? ⟨q, f, none⟩ = some r.v) ∧ (∀ o, (W.alloc o).frozen? ⟨q, f, none⟩ = false) ∧ W.cell? ⟨q, f, none⟩ = some r.v ∧ W.frozen? ⟨q, f, none⟩ = false ∧ W.ownsRow w0.heap.size r.e r.sz r.v r.n r.xs ∧ r.v.ownBlock ≠ some q := by
  subst hr
  have c : W.cell? ⟨q, f, none⟩ = some (R f).v := by
    have hc : f = 1 ∨ f = 2 ∨ f = 3 ∨ f = 4 := by omega
    rcases hc with rfl | rfl | rfl | rfl
    · exact cell_of_row W q 1 _ _ _ h.rp.blk
    · exact cell_of_row W q 2 _ _ _ h.rp.blk
    · exact cell_of_row W q 3 _ _ _ h.rp.blk
    · exact cell_of_row W q 4 _ _ _ h.rp.blk
  have fz : W.frozen? ⟨q, f, none⟩ = false := frozen_of_row W q f _ _ h.rp.blk
  exact ⟨fun o => by rw [World.cell?_alloc_past _ _ _ h.rp.lt]; exact c, fun o => by rw [World.frozen?_alloc_past _ _ _ h.rp.lt]; exact fz, c, fz, h.rp.own f, h.rp.nq f⟩

theorem St.below {w0 W W' : World} {q N : Nat} {vT : Value} {R : Nat → Rw} {d : RDc} (h : St w0 W q N vT R d) (hb : Below W.heap.size W W') : St w0 W' q N vT R d := by
  have hlt := h.cells.1
  exact ⟨h.rp.below hb, (hb.block N hlt).trans h.blk, h.nq, h.nr, h.bel.trans (hb.mono h.bel.size), h.q0⟩

theorem St.poke {w0 W : World} {q N : Nat} {vT : Value} {R : Nat → Rw} {d : RDc} (h : St w0 W q N vT R d) (hN : w0.heap.size ≤ N) (tr : Bool) (pl bo : Nat) :
    St w0 (((W.setCell ⟨N, 3, none⟩ (.bool tr)).setCell ⟨N, 4, none⟩ (.int .i64 (pl : Int))).setCell ⟨N, 5, none⟩ (.int .i64 (bo : Int))) q N vT R ⟨d.name, d.tok, d.input, tr, pl, bo⟩ := by
  have keep : ∀ (W : World) (k : Nat) (u : Value), RPV W w0.heap.size q vT R → RPV (W.setCell ⟨N, k, none⟩ u) w0.heap.size q vT R := fun W k u hr =>
    ⟨by have := hr.lt; simpa using this, (heap_setCell_other W ⟨N, k, none⟩ q _ (Ne.symm h.nq)).trans hr.blk,
     fun f => (hr.own f).kept (row := some N) ⟨rfl, rfl, rfl, by simp, fun j _ hj => heap_setCell_other W ⟨N, k, none⟩ j _ (fun e => hj (by simp [e]))⟩ (.inr (h.nr f)), hr.nq, hr.dis⟩
  refine ⟨keep _ _ _ (keep _ _ _ (keep _ _ _ h.rp)), ?_, h.nq, h.nr, ((h.bel.setCell hN _).setCell hN _).setCell hN _, h.q0⟩
  rw [heap_setCell_same _ N 5 _ _ _ (heap_setCell_same _ N 4 _ _ _ (heap_setCell_same _ N 3 _ _ _ h.blk))]
  rfl

end Go.Proofs.Ytmndgoapkmhglab
