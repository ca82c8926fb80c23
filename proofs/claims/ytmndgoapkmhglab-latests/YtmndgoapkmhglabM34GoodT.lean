import Derived.Test.YtmndgoapkmhglabM31RefHa
import Derived.Test.YtmndgoapkmhglabM33LawN
/- Plain mathematics: what is a truth is 0 or 1, at every instant. -/
namespace Go.Proofs.Ytmndgoapkmhglab

def Bit (x : Int) : Prop := x = 0 ∨ x = 1
theorem bit_b2i (b : Bool) : Bit (b2i b) := by cases b <;> simp [Bit, b2i]

theorem or_none {a b : Option Nat} (h : a.or b = none) : a = none ∧ b = none := by cases a <;> simp_all
theorem bad_if {c : Bool} {p : Nat} {x : Option Nat} (h : (if c = true then some p else x) = none) : c = false ∧ x = none := by
  cases c <;> simp_all

theorem w64_id (x : Int) (h1 : -9223372036854775808 ≤ x) (h2 : x < 9223372036854775808) : w64 x = x := by
  unfold w64 Go.RowKit.wrap64
  omega

section
variable {ts : List Tk} (hF : ∀ i, TkF (tkAt ts i)) {L : List Dl}
include hF

theorem lit_bit {i : Nat} (h2 : litT (tkAt ts i) = true) (hb : badR ts L i 116 = false) : Bit (litV (tkAt ts i)) := by
  have hlf : leafT (tkAt ts i) = true := by unfold leafT; rw [h2]; rfl
  have hk1 : (tkAt ts i).kind ≠ 1 := by have := lit_nm hF h2; unfold isNm at this; simpa using this
  by_cases h3 : (tkAt ts i).kind = 3
  · have hi : isR ts L i = 110 := by unfold isR; rw [if_neg hk1, if_pos h3]
    unfold badR at hb; rw [hi] at hb; cases hb
  · unfold litV; rw [if_neg h3]; exact bit_b2i _

omit hF in
theorem op_truth {o : List UInt8} (h : (opOf o).isSome = true) (h2 : opR o = 116) (a b : Int) : Bit (apF o a b) := by
  revert h h2
  unfold opOf
  split; · rename_i e; subst e; intro _ h; exact absurd h (by decide)
  split; · rename_i e; subst e; intro _ h; exact absurd h (by decide)
  split; · rename_i e; subst e; intro _ h; exact absurd h (by decide)
  split; · rename_i e; subst e; intro _ h; exact absurd h (by decide)
  split; · rename_i e; subst e; intro _ _; exact bit_b2i _
  split; · rename_i e; subst e; intro _ _; exact bit_b2i _
  split; · rename_i e; subst e; intro _ _; exact bit_b2i _
  split; · rename_i e; subst e; intro _ _; exact bit_b2i _
  · intro h; cases h

theorem ev_bit {V : List UInt8 → Nat → Int} (hV : ∀ k n, k < ts.length → nameT ts L k = true → Bit (V (lAt ts k) n)) : ∀ (t : Ast) (i n : Nat), Sp ts t i → i + t.len ≤ ts.length → wrongR ts L t i 116 = none → Bit (evT ts V t i n) := by
  intro t
  induction t with
  | leaf =>
    intro i n hs hl h
    simp only [Ast.len] at hl
    simp only [wrongR] at h
    obtain ⟨hb, _⟩ := bad_if h
    unfold evT
    by_cases h1 : (tkAt ts i).kind = 1
    · rw [if_pos h1]
      cases hn : nameT ts L i with
      | true => exact hV i n (by omega) hn
      | false =>
        have hi : isR ts L i = 110 := by unfold isR; rw [if_pos h1, hn]; rfl
        unfold badR at hb; rw [hi] at hb; cases hb
    · rw [if_neg h1]
      have h2 : litT (tkAt ts i) = true := by
        have := hs.1
        unfold leafT at this
        have hk : ((tkAt ts i).kind == 1) = false := by simpa using h1
        rwa [hk, Bool.or_false] at this
      exact lit_bit hF h2 hb
  | neg a iha =>
    intro i n hs hl h
    obtain ⟨h1, h2, h3, h4⟩ := hs
    simp only [Ast.len] at hl
    simp only [wrongR] at h
    have ha := iha (i + 2) n h3 (by omega) (bad_if h).2
    simp only [evT]
    rcases ha with ha | ha <;> rw [ha] <;> simp [Bit, w64, Go.RowKit.wrap64]
  | ite a b c iha ihb ihc =>
    intro i n hs hl h
    obtain ⟨h1, h2, h3, h4, h5, h6⟩ := hs
    simp only [Ast.len] at hl
    simp only [wrongR] at h
    obtain ⟨_, h⟩ := bad_if h
    obtain ⟨_, h⟩ := or_none h
    obtain ⟨hb, hc⟩ := or_none h
    simp only [evT]
    split
    · exact ihb _ n h4 (by omega) hb
    · exact ihc _ n h5 (by omega) hc
  | dly b ihb =>
    intro i n hs hl h
    obtain ⟨h1, h2, h3, h4, h5⟩ := hs
    simp only [Ast.len] at hl
    simp only [wrongR] at h
    obtain ⟨_, h⟩ := bad_if h
    obtain ⟨hb, hc⟩ := or_none h
    cases n with
    | zero => simp only [evT]; exact lit_bit hF h2 (bad_if hb).1
    | succ n => simp only [evT]; exact ihb _ n h4 (by omega) hc
  | bin a b iha ihb =>
    intro i n hs hl h
    obtain ⟨h1, h2, h3, h4, h5⟩ := hs
    obtain ⟨n1, n2⟩ := sp_first hF h2
    simp only [Ast.len] at hl
    simp only [wrongR] at h
    obtain ⟨hb, _⟩ := bad_if h
    have hbh : behindF ts (i + 1) = i + 1 + a.len := behind_sp hF a (i + 1) h2 (by omega)
    have hi : isR ts L i = opR (lAt ts (i + 1 + a.len)) := by rw [isR_open hF h1, if_neg n1, if_neg n2, hbh]
    simp only [evT]
    refine op_truth h3 ?_ _ _
    unfold badR at hb
    rw [hi] at hb
    have hne : lAt ts (i + 1 + a.len) ≠ kFby := fun e => by rw [e] at h3; revert h3; decide
    unfold opR at hb ⊢
    rw [if_neg hne] at hb ⊢
    split at hb
    · cases hb
    · rename_i hx; rw [if_neg hx]

end

theorem nameT_of {ts : List Tk} {L : List Dl} (H : Right ts L) {k : Nat} (h : nameT ts L k = true) : ∃ j x, inIx ts L (lAt ts k) = none ∧ eqIx ts L (lAt ts k) = some j ∧ (eqL L)[j]? = some x ∧ x.kind = 2 := by
  unfold nameT at h
  rw [List.any_eq_true] at h
  obtain ⟨x, hx, h2⟩ := h
  rw [Bool.and_eq_true, beq_iff_eq, beq_iff_eq] at h2
  obtain ⟨j, hj⟩ := ix_some (p := nmIs ts (lAt ts k)) hx (by unfold nmIs; rw [h2.1]; simp)
  obtain ⟨z, hz, hn⟩ := eqIx_some hj
  obtain ⟨m, hm, rfl⟩ := List.getElem_of_mem hx
  have hjm := H.same hz (List.getElem?_eq_getElem hm) (hn.trans h2.1.symm)
  subst hjm
  refine ⟨j, _, ?_, hj, List.getElem?_eq_getElem hm, h2.2⟩
  cases hi : inIx ts L (lAt ts k) with
  | none => rfl
  | some i =>
    exfalso
    obtain ⟨g1, g2, _⟩ := List.findIdx?_eq_some_iff_getElem.1 hi
    have g3 : (nameD ts (inL L)[i]).data.toList = lAt ts k := by simpa [nmIs] using g2
    have m1 := List.mem_filter.1 (List.getElem_mem g1)
    have m2 := List.mem_filter.1 hx
    have e := H.own _ m1.1 _ m2.1 (g3.trans h2.1.symm)
    have hp := H.pw
    have k1 : (inL L)[i].kind = 0 := by simpa using m1.2
    have k2 : (eqL L)[j].kind ≠ 0 := by simpa using m2.2
    obtain ⟨a, ha, ea⟩ := List.getElem_of_mem m1.1
    obtain ⟨b, hb, eb⟩ := List.getElem_of_mem m2.1
    rw [List.pairwise_iff_getElem] at hp
    rw [← ea] at k1 e
    rw [← eb] at k2 e
    rcases Nat.lt_trichotomy a b with h | h | h
    · have := hp a b ha hb h; have := L[a].len_pos; omega
    · subst h; exact k2 k1
    · have := hp b a hb ha h; have := L[b].len_pos; omega

theorem val_bit {ts : List Tk} {L : List Dl} (H : Right ts L) {ins : List (List Int)} {R : Nat → Nat → Int} (hR : ∀ j n x, (eqL L)[j]? = some x → x.kind = 2 → Bit (R j n)) : ∀ k n, k < ts.length → nameT ts L k = true → Bit (valV ts L ins R (lAt ts k) n) := by
  intro k n _ h
  obtain ⟨j, x, h1, h2, h3, h4⟩ := nameT_of H h
  unfold valV
  rw [h1, h2]
  exact hR j n x h3 h4

theorem solF_bit {ts : List Tk} {L : List Dl} (H : Right ts L) (hT : typesR ts L = none) {ins : List (List Int)} : ∀ f j n x, (eqL L)[j]? = some x → x.kind = 2 → Bit (solF ts L ins f j n) := by
  intro f
  induction f with
  | zero => intro j n x _ _; exact .inl rfl
  | succ f ih =>
    intro j n x hx hk
    simp only [solF, bodyV, hx]
    obtain ⟨hs, hl⟩ := H.sp x (List.mem_of_getElem? hx)
    unfold typesR at hT
    rw [List.findSome?_eq_none_iff] at hT
    have hw := hT x (List.mem_of_getElem? hx)
    rw [hk] at hw
    exact ev_bit H.F (val_bit H ih) x.t _ n hs hl hw

theorem sol_bit {ts : List Tk} {L : List Dl} (H : Right ts L) (hT : typesR ts L = none) {ins : List (List Int)} (j n : Nat) (x : Dl) (hx : (eqL L)[j]? = some x) (hk : x.kind = 2) : Bit (sol ts L ins j n) := solF_bit H hT _ j n x hx hk

end Go.Proofs.Ytmndgoapkmhglab

/- Plain mathematics: what the program works out at a node is the value of its expression. -/
namespace Go.Proofs.Ytmndgoapkmhglab

def AllAt {α : Type} (P : Nat → α → Prop) : Nat → List α → Prop
  | _, [] => True
  | o, x :: l => P o x ∧ AllAt P (o + 1) l
theorem allAt_app {α : Type} {P : Nat → α → Prop} : ∀ (l m : List α) (o : Nat), AllAt P o (l ++ m) ↔ AllAt P o l ∧ AllAt P (o + l.length) m := by
  intro l
  induction l with
  | nil => intro m o; simp [AllAt]
  | cons x l ih =>
    intro m o
    simp only [List.cons_append, AllAt, ih, List.length_cons]
    rw [show o + 1 + l.length = o + (l.length + 1) by omega, and_assoc]
theorem allAt_get {α : Type} {P : Nat → α → Prop} : ∀ (l : List α) (o : Nat), AllAt P o l ↔ ∀ m x, l[m]? = some x → P (o + m) x := by
  intro l
  induction l with
  | nil => intro o; simp [AllAt]
  | cons x l ih =>
    intro o
    simp only [AllAt, ih]
    constructor
    · rintro ⟨h1, h2⟩ m y hm
      cases m with
      | zero => simp at hm; subst hm; exact h1
      | succ m => have := h2 m y (by simpa using hm); rwa [show o + 1 + m = o + (m + 1) by omega] at this
    · intro h
      refine ⟨h 0 x rfl, fun m y hm => ?_⟩
      have := h (m + 1) y (by simpa using hm)
      rwa [show o + (m + 1) = o + 1 + m by omega] at this
theorem AllAt.mono {α : Type} {P Q : Nat → α → Prop} (h : ∀ j x, P j x → Q j x) : ∀ (l : List α) (o : Nat), AllAt P o l → AllAt Q o l := by
  intro l
  induction l with
  | nil => intro o _; trivial
  | cons x l ih => intro o hp; exact ⟨h _ _ hp.1, ih _ hp.2⟩

def numAt (ds : List Dc) (i : Int) : Nat := (ds.getD i.toNat ⟨0, 0, ⟨#[]⟩, 0, 0, 0, 0⟩).number
def rootAt (ds : List Dc) (i : Int) : Nat := (ds.getD i.toNat ⟨0, 0, ⟨#[]⟩, 0, 0, 0, 0⟩).root

/-- an operation on two numbers. -/
def pairF (op : Nat) (a b : Int) : Int :=
  if op = 5 then w64 (a + b) else if op = 6 then w64 (a - b) else if op = 7 then w64 (a * b)
  else if op = 8 then (if b = 0 then 0 else if b = -1 then w64 (0 - a) else w64 (a.tdiv b)) else if op = 9 then b2i (decide (a < b)) else if op = 10 then b2i (decide (a = b))
  else if op = 11 then b2i (decide (a ≠ 0) && decide (b ≠ 0)) else if op = 12 then b2i (decide (a ≠ 0) || decide (b ≠ 0)) else 0
/-- what a node makes, by the values of this instant and of the one ahead of it. -/
def nameF (ds : List Dc) (ins : List (List Int)) (b : Int) (k : Nat) (X : Nat → Int) : Int := if kindAt ds b = 0 then elemF ins (numAt ds b) k else X (rootAt ds b)
def valF (ds : List Dc) (ins : List (List Int)) (n : Nd) (k : Nat) (X Y : Nat → Int) : Int :=
  if n.kind = 2 then nameF ds ins n.decl k X
  else if n.kind = 3 then b2i (decide (X n.a = 0))
  else if n.kind = 4 then (if X n.a ≠ 0 then X n.b else X n.c)
  else if n.kind = 5 then (if k = 0 then X n.a else Y n.b)
  else if n.kind = 6 then pairF n.op (X n.a) (X n.b)
  else (n.value : Int)
/-- the parts that it asks for at this instant. -/
def needs (n : Nd) : List Nat :=
  if n.kind = 3 then [n.a] else if n.kind = 4 then [n.a, n.b, n.c] else if n.kind = 5 then [n.a] else if n.kind = 6 then [n.a, n.b] else []

/-- the values of the nodes of an expression. -/
def flatV (ts : List Tk) (V : List UInt8 → Nat → Int) (k : Nat) : Ast → Nat → List Int
  | .leaf, i => [evT ts V .leaf i k]
  | .neg a, i => evT ts V (.neg a) i k :: flatV ts V k a (i + 2)
  | .ite a b c, i => evT ts V (.ite a b c) i k :: (flatV ts V k a (i + 2) ++ (flatV ts V k b (i + 2 + a.len) ++ flatV ts V k c (i + 2 + a.len + b.len)))
  | .dly b, i => evT ts V (.dly b) i k :: litV (tkAt ts (i + 1)) :: flatV ts V k b (i + 3)
  | .bin a b, i => evT ts V (.bin a b) i k :: (flatV ts V k a (i + 1) ++ flatV ts V k b (i + 2 + a.len))
theorem flatV_len (ts : List Tk) (V : List UInt8 → Nat → Int) (k : Nat) : ∀ (t : Ast) (i : Nat), (flatV ts V k t i).length = t.size := by
  intro t
  induction t with
  | leaf => intro i; rfl
  | neg a iha => intro i; simp [flatV, Ast.size, iha]
  | ite a b c iha ihb ihc => intro i; simp [flatV, Ast.size, iha, ihb, ihc]; omega
  | dly b ihb => intro i; simp [flatV, Ast.size, ihb]
  | bin a b iha ihb => intro i; simp [flatV, Ast.size, iha, ihb]
theorem flatV_head {ts : List Tk} {V : List UInt8 → Nat → Int} {k : Nat} {X : Nat → Int} : ∀ {t : Ast} {i o : Nat}, AllAt (fun j v => X j = v) o (flatV ts V k t i) → X o = evT ts V t i k := by
  intro t i o h
  cases t <;> exact h.1

theorem op_some {o : List UInt8} (h : (opOf o).isSome = true) : o = [43] ∨ o = [45] ∨ o = [42] ∨ o = [47] ∨ o = [60] ∨ o = [61] ∨ o = [38] ∨ o = [124] := by
  revert h
  unfold opOf
  split; · rename_i e; intro _; exact .inl e
  split; · rename_i e; intro _; exact .inr (.inl e)
  split; · rename_i e; intro _; exact .inr (.inr (.inl e))
  split; · rename_i e; intro _; exact .inr (.inr (.inr (.inl e)))
  split; · rename_i e; intro _; exact .inr (.inr (.inr (.inr (.inl e))))
  split; · rename_i e; intro _; exact .inr (.inr (.inr (.inr (.inr (.inl e)))))
  split; · rename_i e; intro _; exact .inr (.inr (.inr (.inr (.inr (.inr (.inl e))))))
  split; · rename_i e; intro _; exact .inr (.inr (.inr (.inr (.inr (.inr (.inr e))))))
  · intro h; cases h

theorem pair_ap {o : List UInt8} (h : (opOf o).isSome = true) {a b : Int} (hb : o = [38] ∨ o = [124] → Bit a ∧ Bit b) : apF o a b = pairF ((opOf o).getD 0) a b := by
  rcases op_some h with rfl | rfl | rfl | rfl | rfl | rfl | rfl | rfl
  · rfl
  · rfl
  · rfl
  · show (if b = 0 then 0 else w64 (a.tdiv b)) = (if b = 0 then 0 else if b = -1 then w64 (0 - a) else w64 (a.tdiv b))
    by_cases h0 : b = 0
    · rw [if_pos h0, if_pos h0]
    · rw [if_neg h0, if_neg h0]
      by_cases h1 : b = -1
      · rw [if_pos h1, h1]
        congr 1
        rw [Int.tdiv_neg, Int.tdiv_one]; omega
      · rw [if_neg h1]
  · rfl
  · rfl
  · obtain ⟨h1, h2⟩ := hb (.inl rfl)
    rcases h1 with rfl | rfl <;> rcases h2 with rfl | rfl <;> decide
  · obtain ⟨h1, h2⟩ := hb (.inr rfl)
    rcases h1 with rfl | rfl <;> rcases h2 with rfl | rfl <;> decide

section
variable {ds : List Dc} {ins : List (List Int)} {n : Nd} {k : Nat} {X Y : Nat → Int}
theorem valF3 (h : n.kind = 3) : valF ds ins n k X Y = b2i (decide (X n.a = 0)) := by unfold valF; rw [if_neg (by omega), if_pos h]
theorem valF4 (h : n.kind = 4) : valF ds ins n k X Y = if X n.a ≠ 0 then X n.b else X n.c := by unfold valF; rw [if_neg (by omega), if_neg (by omega), if_pos h]
theorem valF5 (h : n.kind = 5) : valF ds ins n k X Y = if k = 0 then X n.a else Y n.b := by unfold valF; rw [if_neg (by omega), if_neg (by omega), if_neg (by omega), if_pos h]
theorem valF6 (h : n.kind = 6) : valF ds ins n k X Y = pairF n.op (X n.a) (X n.b) := by unfold valF; rw [if_neg (by omega), if_neg (by omega), if_neg (by omega), if_neg (by omega), if_pos h]
end
theorem bind_other {ds : List Dc} {n : Nd} (h : n.kind ≠ 2) : bindF ds n = n := by unfold bindF; rw [if_neg h]

section
variable {ts : List Tk} (hF : ∀ i, TkF (tkAt ts i)) {L : List Dl} {ds : List Dc} {ins : List (List Int)} {V : List UInt8 → Nat → Int} {k : Nat} {X Y : Nat → Int}
include hF

theorem lit_val {i dl : Nat} (h : litT (tkAt ts i) = true) : litV (tkAt ts i) = valF ds ins (bindF ds (mkN ts i dl (leafN0 (tkAt ts i)))) k X Y := by
  have hlf : leafT (tkAt ts i) = true := by unfold leafT; rw [h]; rfl
  have hk1 : (tkAt ts i).kind ≠ 1 := by have := lit_nm hF h; unfold isNm at this; simpa using this
  have hk := leafN0_no hlf hk1
  rw [bind_other (by rw [mkN_kind]; exact hk)]
  unfold litV
  by_cases h3 : (tkAt ts i).kind = 3
  · have hn : ∀ l, kwL.contains l = true → (tkAt ts i).l ≠ l := fun l hl e => by have := (hF i).k3 h3; rw [e, hl] at this; cases this
    have hl : leafN0 (tkAt ts i) = { ndZero with kind := 0, value := valOf (tkAt ts i).l } := by
      unfold leafN0; rw [if_neg (hn _ (by decide)), if_neg (hn _ (by decide)), if_pos h3]
    rw [if_pos h3, hl]; rfl
  · rw [if_neg h3]
    unfold litT at h
    have h30 : ((tkAt ts i).kind == 3) = false := by simpa using h3
    rw [h30, Bool.false_or, Bool.or_eq_true, beq_iff_eq, beq_iff_eq] at h
    by_cases e : (tkAt ts i).l = kTrue
    · have hl : leafN0 (tkAt ts i) = { ndZero with kind := 1, value := 1 } := by unfold leafN0; rw [if_pos e]
      rw [hl, e]; rfl
    · have e2 := h.resolve_left e
      have hl : leafN0 (tkAt ts i) = { ndZero with kind := 1 } := by unfold leafN0; rw [if_neg e, if_pos e2]
      rw [hl, e2]; rfl

theorem flat_val (hV : ∀ k n, k < ts.length → nameT ts L k = true → Bit (V (lAt ts k) n)) :
    ∀ (t : Ast) (i dl off w : Nat), Sp ts t i → i + t.len ≤ ts.length → wrongR ts L t i w = none →
      (∀ j ∈ nms ts t i, V (lAt ts j) k = nameF ds ins (findF ds (tkAt ts j).text) k X) →
      AllAt (fun j v => X j = v) off (flatV ts V k t i) → (k ≠ 0 → AllAt (fun j v => Y j = v) off (flatV ts V (k - 1) t i)) →
      AllAt (fun j n => X j = valF ds ins (bindF ds n) k X Y) off (flat ts t i dl off) := by
  intro t
  induction t with
  | leaf =>
    intro i dl off w hs hl hw hn hX hY
    refine ⟨?_, trivial⟩
    show X off = valF ds ins (bindF ds (mkN ts i dl (leafN0 (tkAt ts i)))) k X Y
    rw [hX.1]
    by_cases h1 : (tkAt ts i).kind = 1
    · have hb : bindF ds (mkN ts i dl (leafN0 (tkAt ts i))) = { mkN ts i dl (leafN0 (tkAt ts i)) with decl := findF ds (tkAt ts i).text } := by
        rw [leafN0_name (hF i) h1]; unfold bindF; rw [if_pos (by rfl)]; rfl
      rw [hb]
      have hk2 : (leafN0 (tkAt ts i)).kind = 2 := by rw [leafN0_name (hF i) h1]
      unfold evT valF
      rw [if_pos h1, if_pos (show ({ mkN ts i dl (leafN0 (tkAt ts i)) with decl := findF ds (tkAt ts i).text } : Nd).kind = 2 from hk2)]
      exact hn i (by unfold nms; rw [if_pos h1]; simp)
    · have h2 : litT (tkAt ts i) = true := by
        have := hs.1
        unfold leafT at this
        have hk : ((tkAt ts i).kind == 1) = false := by simpa using h1
        rwa [hk, Bool.or_false] at this
      unfold evT
      rw [if_neg h1]
      exact lit_val hF h2
  | neg a iha =>
    intro i dl off w hs hl hw hn hX hY
    obtain ⟨h1, h2, h3, h4⟩ := hs
    simp only [Ast.len] at hl
    simp only [wrongR] at hw
    have ha := ev_bit hF hV a (i + 2) k h3 (by omega) (bad_if hw).2
    refine ⟨?_, iha (i + 2) dl (off + 1) 116 h3 (by omega) (bad_if hw).2 hn hX.2 (fun h => (hY h).2)⟩
    show X off = valF ds ins (bindF ds (mkN ts i dl { ndZero with kind := 3, a := off + 1 })) k X Y
    rw [hX.1, bind_other (by simp [mkN]), valF3 rfl]
    have e1 := flatV_head hX.2
    show w64 (1 - evT ts V a (i + 2) k) = b2i (decide (X (off + 1) = 0))
    rw [e1]
    rcases ha with ha | ha <;> rw [ha] <;> rw [w64_id _ (by decide) (by decide)] <;> decide
  | ite a b c iha ihb ihc =>
    intro i dl off w hs hl hw hn hX hY
    obtain ⟨h1, h2, h3, h4, h5, h6⟩ := hs
    simp only [Ast.len] at hl
    simp only [wrongR] at hw
    obtain ⟨_, hw⟩ := bad_if hw
    obtain ⟨wa, hw⟩ := or_none hw
    obtain ⟨wb, wc⟩ := or_none hw
    have ha := ev_bit hF hV a (i + 2) k h3 (by omega) wa
    obtain ⟨x0, hX⟩ := hX
    rw [allAt_app, allAt_app, flatV_len, flatV_len] at hX
    obtain ⟨xa, xb, xc⟩ := hX
    have hY' : k ≠ 0 → AllAt (fun j v => Y j = v) (off + 1) (flatV ts V (k - 1) a (i + 2)) ∧ AllAt (fun j v => Y j = v) (off + 1 + a.size) (flatV ts V (k - 1) b (i + 2 + a.len)) ∧ AllAt (fun j v => Y j = v) (off + 1 + a.size + b.size) (flatV ts V (k - 1) c (i + 2 + a.len + b.len)) := fun h => by
      have := (hY h).2
      rwa [allAt_app, allAt_app, flatV_len, flatV_len] at this
    simp only [nms, List.mem_append] at hn
    simp only [flat, AllAt]
    rw [allAt_app, allAt_app, flat_len, flat_len]
    refine ⟨?_, iha _ dl _ 116 h3 (by omega) wa (fun j hj => hn j (.inl hj)) xa (fun h => (hY' h).1), ihb _ dl _ w h4 (by omega) wb (fun j hj => hn j (.inr (.inl hj))) xb (fun h => (hY' h).2.1), ihc _ dl _ w h5 (by omega) wc (fun j hj => hn j (.inr (.inr hj))) xc (fun h => (hY' h).2.2)⟩
    rw [x0, bind_other (by simp [mkN]), valF4 rfl]
    have e1 := flatV_head xa
    have e2 := flatV_head xb
    have e3 := flatV_head xc
    show (if evT ts V a (i + 2) k = 1 then evT ts V b (i + 2 + a.len) k else evT ts V c (i + 2 + a.len + b.len) k) = if X (off + 1) ≠ 0 then X (off + 1 + a.size) else X (off + 1 + a.size + b.size)
    rw [e1, e2, e3]
    rcases ha with ha | ha <;> rw [ha] <;> rfl
  | dly b ihb =>
    intro i dl off w hs hl hw hn hX hY
    obtain ⟨h1, h2, h3, h4, h5⟩ := hs
    simp only [Ast.len] at hl
    simp only [wrongR] at hw
    obtain ⟨_, hw⟩ := bad_if hw
    obtain ⟨hb, hc⟩ := or_none hw
    obtain ⟨x0, x1, x2⟩ := hX
    refine ⟨?_, ?_, ihb (i + 3) (dl + 1) (off + 2) w h4 (by omega) hc hn x2 (fun h => (hY h).2.2)⟩
    · show X off = valF ds ins (bindF ds (mkN ts i dl { ndZero with kind := 5, a := off + 1, b := off + 2 })) k X Y
      rw [x0, bind_other (by simp [mkN]), valF5 rfl]
      show _ = if k = 0 then X (off + 1) else Y (off + 2)
      cases k with
      | zero => rw [if_pos rfl, x1]; rfl
      | succ n =>
        rw [if_neg (by omega)]
        have := (hY (by omega)).2.2
        rw [flatV_head this]; rfl
    · show X (off + 1) = valF ds ins (bindF ds (mkN ts (i + 1) dl (leafN0 (tkAt ts (i + 1))))) k X Y
      rw [x1]; exact lit_val hF h2
  | bin a b iha ihb =>
    intro i dl off w hs hl hw hn hX hY
    obtain ⟨h1, h2, h3, h4, h5⟩ := hs
    simp only [Ast.len] at hl
    simp only [wrongR] at hw
    obtain ⟨_, hw⟩ := bad_if hw
    obtain ⟨wa, wb⟩ := or_none hw
    obtain ⟨x0, hX⟩ := hX
    rw [allAt_app, flatV_len] at hX
    obtain ⟨xa, xb⟩ := hX
    have hY' : k ≠ 0 → AllAt (fun j v => Y j = v) (off + 1) (flatV ts V (k - 1) a (i + 1)) ∧ AllAt (fun j v => Y j = v) (off + 1 + a.size) (flatV ts V (k - 1) b (i + 2 + a.len)) := fun h => by
      have := (hY h).2
      rwa [allAt_app, flatV_len] at this
    simp only [nms, List.mem_append] at hn
    simp only [flat, AllAt]
    rw [allAt_app, flat_len]
    refine ⟨?_, iha _ dl _ _ h2 (by omega) wa (fun j hj => hn j (.inl hj)) xa (fun h => (hY' h).1), ihb _ dl _ _ h4 (by omega) wb (fun j hj => hn j (.inr hj)) xb (fun h => (hY' h).2)⟩
    rw [x0, bind_other (by simp [mkN]), valF6 rfl]
    have e1 := flatV_head xa
    have e2 := flatV_head xb
    show apF (lAt ts (i + 1 + a.len)) (evT ts V a (i + 1) k) (evT ts V b (i + 2 + a.len) k) = pairF ((opOf (lAt ts (i + 1 + a.len))).getD 0) (X (off + 1)) (X (off + 1 + a.size))
    rw [e1, e2]
    refine pair_ap h3 fun ho => ?_
    have hbo : bothR (lAt ts (i + 1 + a.len)) = 116 := by unfold bothR; rw [if_pos ho]
    rw [hbo] at wa wb
    exact ⟨ev_bit hF hV a _ k h2 (by omega) wa, ev_bit hF hV b _ k h4 (by omega) wb⟩

end

theorem flat_head {ts : List Tk} : ∀ (t : Ast) (i dl off : Nat), ∃ n l, flat ts t i dl off = n :: l ∧ n.delayed = decide (0 < dl) := by
  intro t i dl off
  cases t <;> exact ⟨_, _, rfl, rfl⟩
theorem flat_first {ts : List Tk} {D : Nat → Bool} {t : Ast} {i dl off : Nat} (h : AllAt (fun j n => D j = n.delayed) off (flat ts t i dl off)) : D off = decide (0 < dl) := by
  obtain ⟨n, l, e, hn⟩ := flat_head t i dl off (ts := ts)
  rw [e] at h
  rw [h.1, hn]

theorem leafN0_needs {ts : List Tk} (i dl : Nat) (t : Tk) : needs (mkN ts i dl (leafN0 t)) = [] := by
  have : (mkN ts i dl (leafN0 t)).kind ≤ 2 := by
    rw [mkN_kind]
    unfold leafN0
    split; · simp
    split; · simp
    split; · simp
    · simp
  unfold needs
  rw [if_neg (by omega), if_neg (by omega), if_neg (by omega), if_neg (by omega)]

theorem flat_kids {ts : List Tk} {D : Nat → Bool} : ∀ (t : Ast) (i dl off fin : Nat), off + t.size ≤ fin → AllAt (fun j n => D j = n.delayed) off (flat ts t i dl off) →
    AllAt (fun j n => ∀ c ∈ needs n, j < c ∧ c < fin ∧ D c = n.delayed) off (flat ts t i dl off) := by
  intro t
  induction t with
  | leaf => intro i dl off fin hf h; exact ⟨fun c hc => by rw [leafN0_needs] at hc; simp at hc, trivial⟩
  | neg a iha =>
    intro i dl off fin hf h
    simp only [Ast.size] at hf
    have pa := a.size_pos
    refine ⟨fun c hc => ?_, iha _ dl _ fin (by omega) h.2⟩
    have hc' : c = off + 1 := by simpa [needs, mkN] using hc
    subst hc'
    exact ⟨by omega, by omega, flat_first h.2⟩
  | ite a b c iha ihb ihc =>
    intro i dl off fin hf h
    simp only [Ast.size] at hf
    have pa := a.size_pos
    have pb := b.size_pos
    have pc := c.size_pos
    obtain ⟨h0, h⟩ := h
    rw [allAt_app, allAt_app, flat_len, flat_len] at h
    obtain ⟨ha, hb, hc⟩ := h
    simp only [flat, AllAt]
    rw [allAt_app, allAt_app, flat_len, flat_len]
    refine ⟨fun d hd => ?_, iha _ dl _ fin (by omega) ha, ihb _ dl _ fin (by omega) hb, ihc _ dl _ fin (by omega) hc⟩
    have hd' : d = off + 1 ∨ d = off + 1 + a.size ∨ d = off + 1 + a.size + b.size := by simpa [needs, mkN] using hd
    rcases hd' with rfl | rfl | rfl
    · exact ⟨by omega, by omega, flat_first ha⟩
    · exact ⟨by omega, by omega, flat_first hb⟩
    · exact ⟨by omega, by omega, flat_first hc⟩
  | dly b ihb =>
    intro i dl off fin hf h
    simp only [Ast.size] at hf
    refine ⟨fun c hc => ?_, fun c hc => by rw [leafN0_needs] at hc; simp at hc, ihb _ (dl + 1) _ fin (by omega) h.2.2⟩
    have hc' : c = off + 1 := by simpa [needs, mkN] using hc
    subst hc'
    exact ⟨by omega, by omega, h.2.1⟩
  | bin a b iha ihb =>
    intro i dl off fin hf h
    simp only [Ast.size] at hf
    have pa := a.size_pos
    have pb := b.size_pos
    obtain ⟨h0, h⟩ := h
    rw [allAt_app, flat_len] at h
    obtain ⟨ha, hb⟩ := h
    simp only [flat, AllAt]
    rw [allAt_app, flat_len]
    refine ⟨fun d hd => ?_, iha _ dl _ fin (by omega) ha, ihb _ dl _ fin (by omega) hb⟩
    have hd' : d = off + 1 ∨ d = off + 1 + a.size := by simpa [needs, mkN] using hd
    rcases hd' with rfl | rfl
    · exact ⟨by omega, by omega, flat_first ha⟩
    · exact ⟨by omega, by omega, flat_first hb⟩

end Go.Proofs.Ytmndgoapkmhglab

/- Plain mathematics: what holds of a text's tokens and declarations. -/
namespace Go.Proofs.Ytmndgoapkmhglab

/-- what holds of a text's tokens and declarations. -/
structure ROk (ts : List Tk) (L : List Dl) : Prop where
  F : ∀ i, TkF (tkAt ts i)
  E : ∀ i, (tkAt ts i).kind = 0 → ts.length ≤ i + 1
  len : ts.length ≤ 1501
  pos : 0 < ts.length
  sp : Spell ts L 0

theorem ROk.mem {ts : List Tk} {L : List Dl} (h : ROk ts L) {x : Dl} (hx : x ∈ L) : x.i + x.len < ts.length ∧ DlOk ts x := (spell_mem L 0 h.sp x hx).2
theorem ROk.eq {ts : List Tk} {L : List Dl} (h : ROk ts L) {x : Dl} (hx : x ∈ eqL L) : x ∈ L ∧ x.kind ≠ 0 ∧ Sp ts x.t (x.i + 5) ∧ x.i + 5 + x.t.len < ts.length ∧ placeD ts x < 4 := by
  have hm := List.mem_filter.1 hx
  have hk : x.kind ≠ 0 := by simpa using hm.2
  obtain ⟨h1, h2⟩ := h.mem hm.1
  have hl : x.len = x.t.len + 6 := by unfold Dl.len; rw [if_neg hk]
  refine ⟨hm.1, hk, ?_, by omega, ?_⟩
  · rcases h2 with ⟨h, _⟩ | ⟨_, _, _, _, _, h, _⟩
    · exact absurd h hk
    · exact h
  · rcases h2 with ⟨h, _⟩ | ⟨_, _, _, h, _⟩
    · exact absurd h hk
    · exact h.2
theorem spell_len {ts : List Tk} : ∀ (L : List Dl) (i : Nat), Spell ts L i → L.length + i ≤ ts.length := by
  intro L
  induction L with
  | nil => intro i h; have := h.1; simp; omega
  | cons x r ih => intro i h; have := ih _ h.2.2.2; have := Dl.len_pos x; simp; omega
theorem ROk.many {ts : List Tk} {L : List Dl} (h : ROk ts L) : L.length ≤ 1501 ∧ (eqL L).length ≤ 1501 ∧ (inL L).length ≤ 1501 := by
  have h1 := spell_len L 0 h.sp
  have h2 := h.len
  have h3 := List.length_filter_le (fun x : Dl => x.kind != 0) L
  have h4 := List.length_filter_le (fun x : Dl => x.kind == 0) L
  exact ⟨by omega, by unfold eqL; omega, by unfold inL; omega⟩



end Go.Proofs.Ytmndgoapkmhglab

namespace Go.Proofs.Ytmndgoapkmhglab
open Go.RowKit
attribute [local go_sem ↓] Go.wp_at_zero Go.wp_at_succ

/-- a program as the document's own reader has laid it. -/
structure RProg (w : World) (q g cap : Nat) (ts : List Tk) (L : List Dl) (vE vA vI vQ : Value) : Prop where
  lt : q < w.heap.size
  c0 : w.cell? ⟨q, 0, none⟩ = some (.slice (some ⟨g, 0, none⟩) ts.length cap)
  c1 : w.cell? ⟨q, 1, none⟩ = some vE
  c2 : w.cell? ⟨q, 2, none⟩ = some vA
  c3 : w.cell? ⟨q, 3, none⟩ = some vI
  c4 : w.cell? ⟨q, 4, none⟩ = some vQ
  toks : TokAt w g cap ts
  ends : w.ownsRow 0 3 1 vE ts.length (pCells ((List.range ts.length).map (behindF ts)))
  all : w.ownsRow 0 115 6 vA L.length (rdCells (L.map (rdc ts)))
  ins : w.ownsRow 0 115 6 vI (inL L).length (rdCells ((inL L).map (rdc ts)))
  eqs : w.ownsRow 0 115 6 vQ (eqL L).length (rdCells ((eqL L).map (rdc ts)))

theorem RProg.below {w w' : World} {q g cap : Nat} {ts : List Tk} {L : List Dl} {vE vA vI vQ : Value} (h : RProg w q g cap ts L vE vA vI vQ) (hb : Below w.heap.size w w') : RProg w' q g cap ts L vE vA vI vQ :=
  ⟨Nat.lt_of_lt_of_le h.lt hb.size, (hb.cell h.lt).trans h.c0, (hb.cell h.lt).trans h.c1, (hb.cell h.lt).trans h.c2, (hb.cell h.lt).trans h.c3, (hb.cell h.lt).trans h.c4, h.toks.below hb, bel_own h.ends hb, bel_own h.all hb, bel_own h.ins hb, bel_own h.eqs hb⟩

abbrev RDc.val (d : RDc) : Value := .agg #[.string d.name, .int .i64 (d.tok : Int), .bool d.input, .bool d.truth, .int .i64 (d.place : Int), .int .i64 (d.body : Int)]

theorem rd_later {w wr : World} {g cap : Nat} {ts : List Tk} {l : List Dl} (h : w.ownsRow 0 115 6 (.slice (some ⟨g, 0, none⟩) l.length cap) l.length (rdCells (l.map (rdc ts)))) (hb : Below w.heap.size w wr) (hg : g < w.heap.size) {k : Nat} (hk : k < l.length) (a : RDc) (ha : a = rdc ts (l[k]'hk)) :
    wr.cell? ⟨g, k * 6, none⟩ = some (.string a.name) ∧ wr.cell? ⟨g, k * 6 + 1, none⟩ = some (.int .i64 (a.tok : Int)) ∧ wr.cell? ⟨g, k * 6 + 2, none⟩ = some (.bool a.input) ∧ wr.cell? ⟨g, k * 6 + 3, none⟩ = some (.bool a.truth) ∧
    wr.cell? ⟨g, k * 6 + 4, none⟩ = some (.int .i64 (a.place : Int)) ∧ wr.cell? ⟨g, k * 6 + 5, none⟩ = some (.int .i64 (a.body : Int)) := by
  have hcr : ∀ j, j < 6 → wr.cell? ⟨g, k * 6 + j, none⟩ = a.cells[j]? := fun j hj => by
    rw [hb.cell (p := ⟨g, k * 6 + j, none⟩) hg, h.cellAt (k * 6 + j) (by omega)]
    have e := flat_get RDc.cells 6 rd_len (l.map (rdc ts)) k j (by simpa using hk) hj
    rw [List.getElem_map, ← ha] at e
    exact e
  exact ⟨hcr 0 (by omega), hcr 1 (by omega), hcr 2 (by omega), hcr 3 (by omega), hcr 4 (by omega), hcr 5 (by omega)⟩

theorem end_later {w wr : World} {g cap : Nat} {ts : List Tk} (h : w.ownsRow 0 3 1 (.slice (some ⟨g, 0, none⟩) ts.length cap) ts.length (pCells ((List.range ts.length).map (behindF ts)))) (hb : Below w.heap.size w wr) (hg : g < w.heap.size) {k : Nat} (hk : k < ts.length) :
    wr.cell? ⟨g, k, none⟩ = some (.int .i64 (behindF ts k : Nat)) := by
  rw [hb.cell (p := ⟨g, k, none⟩) hg, h.cellAt k (by omega)]
  unfold pCells
  rw [List.getElem?_map, List.getElem?_map, List.getElem?_range hk]
  rfl

set_option maxHeartbeats 1000000 in
theorem rplace_any (w : World) (q g cap : Nat) (ts : List Tk) (L : List Dl) (vE vA vI vQ : Value) (h : RProg w q g cap ts L vE vA vI vQ) (d : RDc) (hd : d.tok < ts.length) :
    Calls Try.prog 92 #[.pointer (some ⟨q, 0, none⟩), d.val] w fun e w' => e = .returned (.int .i64 ((tkAt ts d.tok).pos : Nat)) ∧ Below w.heap.size w w' := by
  have c0 : ∀ o, (w.alloc o).cell? ⟨q, 0, none⟩ = some (.slice (some ⟨g, 0, none⟩) ts.length cap) := fun o => by rw [World.cell?_alloc_past _ _ _ h.lt]; exact h.c0
  obtain ⟨a, ha⟩ : ∃ a, a = rtok (tkAt ts d.tok) := ⟨_, rfl⟩
  have x2 : ∀ o, (w.alloc o).cell? ⟨g, d.tok * 4 + 2, none⟩ = some (.int .i64 (a.pos : Int)) := fun o => by
    rw [World.cell?_alloc_past _ _ _ h.toks.lt]; exact (h.toks.cells (Below.refl _ _) hd a ha).2.2.1
  have HP : Hid ((tkAt ts d.tok).pos = a.pos) := hide (by rw [ha]; rfl)
  have j1 : (0 : Int) ≤ (d.tok : Int) := by omega
  have j2 : (d.tok : Int) < (ts.length : Int) := by omega
  clear h ha
  go_enter Try.func92, Try.ntmps92
  go_wp2_with fail
  go_quiet (fail)
  go_wp2
  go_ret
  exact ⟨by rw [HP.out]; rfl, below_drewN ((Below.refl _ _).alloc (Nat.le_refl _) _) _⟩

/-- a place, or -1. -/
def optI (o : Option Nat) : Value := .int .i64 (match o with | some a => (a : Int) | none => -1)

end Go.Proofs.Ytmndgoapkmhglab

namespace Go.Proofs.Ytmndgoapkmhglab
open Go.RowKit
attribute [local go_sem ↓] Go.wp_at_zero Go.wp_at_succ

theorem rdc_tok (ts : List Tk) (x : Dl) : (rdc ts x).tok = x.i + 1 ∧ (rdc ts x).name = nameD ts x := by unfold rdc; split <;> exact ⟨rfl, rfl⟩
theorem ROk.tok {ts : List Tk} {L : List Dl} (h : ROk ts L) {x : Dl} (hx : x ∈ L) : (rdc ts x).tok < ts.length := by
  have := (h.mem hx).1; have := Dl.len_pos x; rw [(rdc_tok ts x).1]; omega

theorem rdc_pos (ts : List Tk) (x : Dl) : (tkAt ts (rdc ts x).tok).pos = posD ts x := by rw [(rdc_tok ts x).1]; rfl

theorem pos_le (s : ByteArray) (i : Nat) : (tkAt (toks s) i).pos ≤ s.size := by
  obtain ⟨h1, _⟩ := tk_pos _ 0 s.data.toList rfl
  rw [toks_list]
  by_cases h : i < (tk 0 s.data.toList).length
  · rw [tkAt_left h]; have := (h1 _ (tkAt_mem h)).2; rw [size_list]; omega
  · by_cases e : i = (tk 0 s.data.toList).length
    · rw [e, tkAt_mid]; exact Nat.le_refl _
    · have : tkAt (tk 0 s.data.toList ++ [⟨0, s.size, ⟨#[]⟩⟩]) i = tkEnd := by
        unfold tkAt
        rw [List.getD_eq_getElem?_getD, List.getElem?_eq_none (by simp; omega)]
        rfl
      rw [this]; exact Nat.zero_le _

/-- the cells of one declaration of a row, with the row's own address. -/
theorem row_at {w : World} {v : Value} {ts : List Tk} {l : List Dl} (h : w.ownsRow 0 115 6 v l.length (rdCells (l.map (rdc ts)))) {k : Nat} (hk : k < l.length) :
    ∃ g cap, v = .slice (some ⟨g, 0, none⟩) l.length cap ∧ g < w.heap.size ∧ ∀ wr, Below w.heap.size w wr → ∀ a, a = rdc ts (l[k]'hk) → wr.cell? ⟨g, k * 6, none⟩ = some (.string a.name) ∧ wr.cell? ⟨g, k * 6 + 1, none⟩ = some (.int .i64 (a.tok : Int)) ∧ wr.cell? ⟨g, k * 6 + 2, none⟩ = some (.bool a.input) ∧ wr.cell? ⟨g, k * 6 + 3, none⟩ = some (.bool a.truth) ∧
    wr.cell? ⟨g, k * 6 + 4, none⟩ = some (.int .i64 (a.place : Int)) ∧ wr.cell? ⟨g, k * 6 + 5, none⟩ = some (.int .i64 (a.body : Int)) := by
  obtain ⟨g, cap, rfl, _, h2⟩ := h.form (by omega)
  exact ⟨g, cap, rfl, h2, fun wr hb a ha => rd_later h hb h2 hk a ha⟩

set_option maxHeartbeats 1000000 in
theorem rmany_any (w : World) (q g cap : Nat) (ts : List Tk) (L : List Dl) (vE vA vI vQ : Value) (h : RProg w q g cap ts L vE vA vI vQ) (ho : ROk ts L) (hp : ∀ i, (tkAt ts i).pos ≤ 1500) :
    Calls Try.prog 60 #[.pointer (some ⟨q, 0, none⟩)] w fun e w' => e = .returned (optI (manyR ts L)) ∧ Below w.heap.size w w' := by
  obtain ⟨av, cv, hv, _⟩ := own_shape h.eqs
  obtain ⟨ai, ci, hi, _⟩ := own_shape h.ins
  obtain ⟨hm1, hm2, hm3⟩ := ho.many
  have c4 : w.cell? ⟨q, 4, none⟩ = some (.slice av (eqL L).length cv) := by rw [h.c4, hv]
  have c3 : w.cell? ⟨q, 3, none⟩ = some (.slice ai (inL L).length ci) := by rw [h.c3, hi]
  have HR := hide h
  have HO := hide ho
  have hp := hp
  clear h ho
  by_cases hq : 12 < (eqL L).length
  · obtain ⟨gq, cq, hvq, hgq, hcq⟩ := row_at HR.out.eqs hq
    obtain ⟨x, hx⟩ : ∃ x, x = (eqL L)[12]'hq := ⟨_, rfl⟩
    have hxm : x ∈ L := (List.mem_filter.1 (by rw [hx]; exact List.getElem_mem hq)).1
    obtain ⟨y0, y1, y2, y3, y4, y5⟩ := hcq w (Below.refl _ _) (rdc ts x) (by rw [hx])
    have hE : ((eqL L)[12]?).map (posD ts) = some (posD ts x) := by rw [List.getElem?_eq_getElem hq, ← hx]; rfl
    rw [hvq] at hv
    cases hv
    have ht := HO.out.tok hxm
    have hpos := rdc_pos ts x
    have hp12 : posD ts x ≤ 1500 := hp _
    have HTX := hide ht
    have HPX := hide hpos
    have i1 : (12 : Int) < ((eqL L).length : Int) := by omega
    clear hcq hxm hx ht hpos
    by_cases hi4 : 4 < (inL L).length
    · obtain ⟨gi, cI, hvi, hgi, hci⟩ := row_at HR.out.ins hi4
      obtain ⟨z, hz⟩ : ∃ z, z = (inL L)[4]'hi4 := ⟨_, rfl⟩
      have hzm : z ∈ L := (List.mem_filter.1 (by rw [hz]; exact List.getElem_mem hi4)).1
      have hI : ((inL L)[4]?).map (posD ts) = some (posD ts z) := by rw [List.getElem?_eq_getElem hi4, ← hz]; rfl
      rw [hvi] at hi
      cases hi
      have hti := HO.out.tok hzm
      have hposi := rdc_pos ts z
      have hp4 : posD ts z ≤ 1500 := hp _
      have HCI := hide (fun wr hb => hci wr hb (rdc ts z) (by rw [hz]))
      have HTI := hide hti
      have HPI := hide hposi
      have i2 : (4 : Int) < ((inL L).length : Int) := by omega
      clear hci hzm hz hti hposi
      go_enter Try.func60, Try.ntmps60
      go_wp2_with fail
      refine (rplace_any w q g cap ts L _ _ _ _ HR.out (rdc ts x) HTX.out).mono ?_
      rintro e w1 ⟨rfl, hb1⟩
      rw [HPX.out]
      obtain ⟨n1, hn1⟩ : ∃ n, n = posD ts x := ⟨_, rfl⟩
      rw [← hn1]
      rw [← hn1] at hp12
      have HN1 := hide hn1
      have HB1 := hide hb1
      have c3' := (hb1.cell (p := ⟨q, 3, none⟩) HR.out.lt).trans c3
      clear hn1 y0 y1 y2 y3 y4 y5 c3 c4 hb1
      obtain ⟨z0, z1, z2, z3, z4, z5⟩ := HCI.out w1 HB1.out
      go_wp2_with fail
      refine (rplace_any w1 q g cap ts L _ _ _ _ (HR.out.below HB1.out) (rdc ts z) HTI.out).mono ?_
      rintro e w2 ⟨rfl, hb2⟩
      rw [HPI.out]
      obtain ⟨n2, hn2⟩ : ∃ n, n = posD ts z := ⟨_, rfl⟩
      rw [← hn2]
      rw [← hn2] at hp4
      have HN2 := hide hn2
      have HB2 := hide hb2
      clear hn2 hb2
      have m1 : ¬ (n1 : Int) < 0 := by omega
      by_cases hlt : n2 < n1
      · have m2 : (n2 : Int) < (n1 : Int) := by omega
        have HF : Hid (manyR ts L = some n2) := hide (by unfold manyR; rw [hE, hI, ← HN1.out, ← HN2.out]; simp only [less]; rw [if_pos hlt])
        clear hlt hE hI
        go_wp2
        go_ret
        exact ⟨by rw [HF.out]; rfl, HB1.out.trans (HB2.out.mono HB1.out.size)⟩
      · have m2 : ¬ (n2 : Int) < (n1 : Int) := by omega
        have HF : Hid (manyR ts L = some n1) := hide (by unfold manyR; rw [hE, hI, ← HN1.out, ← HN2.out]; simp only [less]; rw [if_neg hlt])
        clear hlt hE hI
        go_wp2
        go_ret
        exact ⟨by rw [HF.out]; rfl, HB1.out.trans (HB2.out.mono HB1.out.size)⟩
    · have i2 : ¬ (4 : Int) < ((inL L).length : Int) := by omega
      have hI : ((inL L)[4]?).map (posD ts) = none := by rw [List.getElem?_eq_none (by omega)]; rfl
      go_enter Try.func60, Try.ntmps60
      go_wp2_with fail
      refine (rplace_any w q g cap ts L _ _ _ _ HR.out (rdc ts x) HTX.out).mono ?_
      rintro e w1 ⟨rfl, hb1⟩
      rw [HPX.out]
      obtain ⟨n1, hn1⟩ : ∃ n, n = posD ts x := ⟨_, rfl⟩
      rw [← hn1]
      rw [← hn1] at hp12
      have HN1 := hide hn1
      have HB1 := hide hb1
      have c3' := (hb1.cell (p := ⟨q, 3, none⟩) HR.out.lt).trans c3
      clear hn1 y0 y1 y2 y3 y4 y5 c3 c4 hb1
      have HF : Hid (manyR ts L = some n1) := hide (by unfold manyR; rw [hE, hI, ← HN1.out]; rfl)
      clear hE hI
      go_wp2
      go_ret
      exact ⟨by rw [HF.out]; rfl, HB1.out⟩
  · have i1 : ¬ (12 : Int) < ((eqL L).length : Int) := by omega
    have hE : ((eqL L)[12]?).map (posD ts) = none := by rw [List.getElem?_eq_none (by omega)]; rfl
    by_cases hi4 : 4 < (inL L).length
    · obtain ⟨gi, cI, hvi, hgi, hci⟩ := row_at HR.out.ins hi4
      obtain ⟨z, hz⟩ : ∃ z, z = (inL L)[4]'hi4 := ⟨_, rfl⟩
      have hzm : z ∈ L := (List.mem_filter.1 (by rw [hz]; exact List.getElem_mem hi4)).1
      have hI : ((inL L)[4]?).map (posD ts) = some (posD ts z) := by rw [List.getElem?_eq_getElem hi4, ← hz]; rfl
      rw [hvi] at hi
      cases hi
      have hti := HO.out.tok hzm
      have hposi := rdc_pos ts z
      have hp4 : posD ts z ≤ 1500 := hp _
      have HCI := hide (fun wr hb => hci wr hb (rdc ts z) (by rw [hz]))
      have HTI := hide hti
      have HPI := hide hposi
      have i2 : (4 : Int) < ((inL L).length : Int) := by omega
      clear hci hzm hz hti hposi
      obtain ⟨z0, z1, z2, z3, z4, z5⟩ := HCI.out w (Below.refl _ _)
      go_enter Try.func60, Try.ntmps60
      go_wp2_with fail
      refine (rplace_any w q g cap ts L _ _ _ _ HR.out (rdc ts z) HTI.out).mono ?_
      rintro e w2 ⟨rfl, hb2⟩
      rw [HPI.out]
      obtain ⟨n2, hn2⟩ : ∃ n, n = posD ts z := ⟨_, rfl⟩
      rw [← hn2]
      rw [← hn2] at hp4
      have HN2 := hide hn2
      have HB2 := hide hb2
      clear hn2 hb2
      have HF : Hid (manyR ts L = some n2) := hide (by unfold manyR; rw [hE, hI, ← HN2.out]; rfl)
      clear hE hI
      go_wp2
      go_ret
      exact ⟨by rw [HF.out]; rfl, HB2.out⟩
    · have i2 : ¬ (4 : Int) < ((inL L).length : Int) := by omega
      have hI : ((inL L)[4]?).map (posD ts) = none := by rw [List.getElem?_eq_none (by omega)]; rfl
      have HF : Hid (manyR ts L = none) := hide (by unfold manyR; rw [hE, hI]; rfl)
      clear hE hI
      go_enter Try.func60, Try.ntmps60
      go_wp2_with fail
      go_ret
      exact ⟨by rw [HF.out]; rfl, Below.refl _ _⟩

end Go.Proofs.Ytmndgoapkmhglab

/- Plain mathematics: a text that is found right, or right but for its places, has its parts. -/
namespace Go.Proofs.Ytmndgoapkmhglab

theorem read_zero {ts : List Tk} {L : List Dl} (h : (readR ts L).1 = 0) : manyR ts L = none ∧ namesR ts L = none ∧ typesR ts L = none ∧ cycR ts L = none ∧ lpR ts L = none := by
  unfold readR at h
  cases h1 : manyR ts L with
  | some a => rw [h1] at h; cases h
  | none =>
    cases h2 : namesR ts L with
    | some a => rw [h1, h2] at h; cases h
    | none =>
      cases h3 : typesR ts L with
      | some a => rw [h1, h2, h3] at h; cases h
      | none =>
        cases h4 : cycR ts L with
        | some a => rw [h1, h2, h3, h4] at h; cases h
        | none =>
          cases h5 : lpR ts L with
          | some a => rw [h1, h2, h3, h4, h5] at h; cases h
          | none => exact ⟨rfl, rfl, rfl, rfl, rfl⟩

theorem text_small {s : ByteArray} (h : (textF s).1 ≠ 1) : s.size ≤ 1500 := by
  by_cases hs : 1500 < s.size
  · unfold textF at h; rw [if_pos hs] at h; exact absurd rfl h
  · omega

theorem rok_of {s : ByteArray} {L : List Dl} (hs : s.size ≤ 1500) (h : Spell (toks s) L 0) : ROk (toks s) L :=
  ⟨toks_F s, toks_end s, (toks_ok s hs).1, (toks_ok s hs).pos, h⟩

theorem good_text {s : ByteArray} (h : (textF s).1 = 0) : ∃ L, RGood s L ∧ Right (toks s) L ∧ ROk (toks s) L := by
  have hs := text_small (s := s) (by omega)
  rcases text_read s hs with ⟨k, _, ht, _⟩ | ⟨L, hsp, _, ht, hp⟩
  · rw [ht] at h; cases h
  · rw [ht] at h
    obtain ⟨h1, h2, h3, h4, h5⟩ := read_zero h
    exact ⟨L, ⟨h1, h2, h3, h4, h5, hsp, hp⟩, right_of (toks_F s) hsp h1 h2 h4, rok_of hs hsp⟩

end Go.Proofs.Ytmndgoapkmhglab
