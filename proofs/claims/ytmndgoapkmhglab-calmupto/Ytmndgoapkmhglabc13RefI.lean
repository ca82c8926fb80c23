import Derived.Deep.OwnRows
import Derived.Test.Ytmndgoapkmhglabc03ParB
import Derived.Test.Ytmndgoapkmhglabc10Dec
import Derived.Test.Ytmndgoapkmhglabc11RefHa
namespace Go.Proofs.Ytmndgoapkmhglab
def Bit (x : Int) : Prop := x = 0 ∨ x = 1
theorem bit_b2i (b : Bool) : Bit (b2i b) := by cases b <;> simp [Bit, b2i]
theorem or_none {a b : Option Nat} (h : a.or b = none) : a = none ∧ b = none := by cases a <;> simp_all
theorem bad_if {c : Bool} {p : Nat} {x : Option Nat} (h : (if c = true then some p else x) = none) : c = false ∧ x = none := by
  cases c <;> simp_all
theorem w64_id (x : Int) (h1 : -9223372036854775808 ≤ x) (h2 : x < 9223372036854775808) : w64 x = x := by
  unfold w64 Go.RowKit.wrap64
  omega
section
variable {ts : List Tk} (hF : ∀ i, TkF (tkAt ts i)) {L : List Dl}
include hF
theorem lit_bit {i : Nat} (h2 : litT (tkAt ts i) = true) (hb : badR ts L i 116 = false) : Bit (litV (tkAt ts i)) := by
  have hlf : leafT (tkAt ts i) = true := by unfold leafT; rw [h2]; rfl
  have hk1 : (tkAt ts i).kind ≠ 1 := by have := lit_nm hF h2; unfold isNm at this; simpa using this
  by_cases h3 : (tkAt ts i).kind = 3
  · have hi : isR ts L i = 110 := by unfold isR; rw [if_neg hk1, if_pos h3]
    unfold badR at hb; rw [hi] at hb; cases hb
  · unfold litV; rw [if_neg h3]; exact bit_b2i _
omit hF in
theorem op_truth {o : List UInt8} (h : (opOf o).isSome = true) (h2 : opR o = 116) (a b : Int) : Bit (apF o a b) := by
  revert h h2
  unfold opOf
  split; · rename_i e; subst e; intro _ h; exact absurd h (by decide)
  split; · rename_i e; subst e; intro _ h; exact absurd h (by decide)
  split; · rename_i e; subst e; intro _ h; exact absurd h (by decide)
  split; · rename_i e; subst e; intro _ h; exact absurd h (by decide)
  split; · rename_i e; subst e; intro _ _; exact bit_b2i _
  split; · rename_i e; subst e; intro _ _; exact bit_b2i _
  split; · rename_i e; subst e; intro _ _; exact bit_b2i _
  split; · rename_i e; subst e; intro _ _; exact bit_b2i _
  · intro h; cases h
theorem ev_bit {V : List UInt8 → Nat → Int} (hV : ∀ k n, k < ts.length → nameT ts L k = true → Bit (V (lAt ts k) n)) : ∀ (t : Ast) (i n : Nat), Sp ts t i → i + t.len ≤ ts.length → wrongR ts L t i 116 = none → Bit (evT ts V t i n) := by
  intro t
  induction t with
  | leaf =>
    intro i n hs hl h
    simp only [Ast.len] at hl
    simp only [wrongR] at h
    obtain ⟨hb, _⟩ := bad_if h
    unfold evT
    by_cases h1 : (tkAt ts i).kind = 1
    · rw [if_pos h1]
      cases hn : nameT ts L i with
      | true => exact hV i n (by omega) hn
      | false =>
        have hi : isR ts L i = 110 := by unfold isR; rw [if_pos h1, hn]; rfl
        unfold badR at hb; rw [hi] at hb; cases hb
    · rw [if_neg h1]
      have h2 : litT (tkAt ts i) = true := by
        have := hs.1
        unfold leafT at this
        have hk : ((tkAt ts i).kind == 1) = false := by simpa using h1
        rwa [hk, Bool.or_false] at this
      exact lit_bit hF h2 hb
  | neg a iha =>
    intro i n hs hl h
    obtain ⟨h1, h2, h3, h4⟩ := hs
    simp only [Ast.len] at hl
    simp only [wrongR] at h
    have ha := iha (i + 2) n h3 (by omega) (bad_if h).2
    simp only [evT]
    rcases ha with ha | ha <;> rw [ha] <;> simp [Bit, w64, Go.RowKit.wrap64]
  | ite a b c iha ihb ihc =>
    intro i n hs hl h
    obtain ⟨h1, h2, h3, h4, h5, h6⟩ := hs
    simp only [Ast.len] at hl
    simp only [wrongR] at h
    obtain ⟨_, h⟩ := bad_if h
    obtain ⟨_, h⟩ := or_none h
    obtain ⟨hb, hc⟩ := or_none h
    simp only [evT]
    split
    · exact ihb _ n h4 (by omega) hb
    · exact ihc _ n h5 (by omega) hc
  | dly b ihb =>
    intro i n hs hl h
    obtain ⟨h1, h2, h3, h4, h5⟩ := hs
    simp only [Ast.len] at hl
    simp only [wrongR] at h
    obtain ⟨_, h⟩ := bad_if h
    obtain ⟨hb, hc⟩ := or_none h
    cases n with
    | zero => simp only [evT]; exact lit_bit hF h2 (bad_if hb).1
    | succ n => simp only [evT]; exact ihb _ n h4 (by omega) hc
  | bin a b iha ihb =>
    intro i n hs hl h
    obtain ⟨h1, h2, h3, h4, h5⟩ := hs
    obtain ⟨n1, n2⟩ := sp_first hF h2
    simp only [Ast.len] at hl
    simp only [wrongR] at h
    obtain ⟨hb, _⟩ := bad_if h
    have hbh : behindF ts (i + 1) = i + 1 + a.len := behind_sp hF a (i + 1) h2 (by omega)
    have hi : isR ts L i = opR (lAt ts (i + 1 + a.len)) := by rw [isR_open hF h1, if_neg n1, if_neg n2, hbh]
    simp only [evT]
    refine op_truth h3 ?_ _ _
    unfold badR at hb
    rw [hi] at hb
    have hne : lAt ts (i + 1 + a.len) ≠ kFby := fun e => by rw [e] at h3; revert h3; decide
    unfold opR at hb ⊢
    rw [if_neg hne] at hb ⊢
    split at hb
    · cases hb
    · rename_i hx; rw [if_neg hx]
end
theorem nameT_of {ts : List Tk} {L : List Dl} (H : Right ts L) {k : Nat} (h : nameT ts L k = true) : ∃ j x, inIx ts L (lAt ts k) = none ∧ eqIx ts L (lAt ts k) = some j ∧ (eqL L)[j]? = some x ∧ x.kind = 2 := by
  unfold nameT at h
  rw [List.any_eq_true] at h
  obtain ⟨x, hx, h2⟩ := h
  rw [Bool.and_eq_true, beq_iff_eq, beq_iff_eq] at h2
  obtain ⟨j, hj⟩ := ix_some (p := nmIs ts (lAt ts k)) hx (by unfold nmIs; rw [h2.1]; simp)
  obtain ⟨z, hz, hn⟩ := eqIx_some hj
  obtain ⟨m, hm, rfl⟩ := List.getElem_of_mem hx
  have hjm := H.same hz (List.getElem?_eq_getElem hm) (hn.trans h2.1.symm)
  subst hjm
  refine ⟨j, _, ?_, hj, List.getElem?_eq_getElem hm, h2.2⟩
  cases hi : inIx ts L (lAt ts k) with
  | none => rfl
  | some i =>
    exfalso
    obtain ⟨g1, g2, _⟩ := List.findIdx?_eq_some_iff_getElem.1 hi
    have g3 : (nameD ts (inL L)[i]).data.toList = lAt ts k := by simpa [nmIs] using g2
    have m1 := List.mem_filter.1 (List.getElem_mem g1)
    have m2 := List.mem_filter.1 hx
    have e := H.own _ m1.1 _ m2.1 (g3.trans h2.1.symm)
    have hp := H.pw
    have k1 : (inL L)[i].kind = 0 := by simpa using m1.2
    have k2 : (eqL L)[j].kind ≠ 0 := by simpa using m2.2
    obtain ⟨a, ha, ea⟩ := List.getElem_of_mem m1.1
    obtain ⟨b, hb, eb⟩ := List.getElem_of_mem m2.1
    rw [List.pairwise_iff_getElem] at hp
    rw [← ea] at k1 e
    rw [← eb] at k2 e
    rcases Nat.lt_trichotomy a b with h | h | h
    · have := hp a b ha hb h; have := L[a].len_pos; omega
    · subst h; exact k2 k1
    · have := hp b a hb ha h; have := L[b].len_pos; omega
theorem val_bit {ts : List Tk} {L : List Dl} (H : Right ts L) {ins : List (List Int)} {R : Nat → Nat → Int} (hR : ∀ j n x, (eqL L)[j]? = some x → x.kind = 2 → Bit (R j n)) : ∀ k n, k < ts.length → nameT ts L k = true → Bit (valV ts L ins R (lAt ts k) n) := by
  intro k n _ h
  obtain ⟨j, x, h1, h2, h3, h4⟩ := nameT_of H h
  unfold valV
  rw [h1, h2]
  exact hR j n x h3 h4
theorem solF_bit {ts : List Tk} {L : List Dl} (H : Right ts L) (hT : typesR ts L = none) {ins : List (List Int)} : ∀ f j n x, (eqL L)[j]? = some x → x.kind = 2 → Bit (solF ts L ins f j n) := by
  intro f
  induction f with
  | zero => intro j n x _ _; exact .inl rfl
  | succ f ih =>
    intro j n x hx hk
    simp only [solF, bodyV, hx]
    obtain ⟨hs, hl⟩ := H.sp x (List.mem_of_getElem? hx)
    unfold typesR at hT
    rw [List.findSome?_eq_none_iff] at hT
    have hw := hT x (List.mem_of_getElem? hx)
    rw [hk] at hw
    exact ev_bit H.F (val_bit H ih) x.t _ n hs hl hw
theorem sol_bit {ts : List Tk} {L : List Dl} (H : Right ts L) (hT : typesR ts L = none) {ins : List (List Int)} (j n : Nat) (x : Dl) (hx : (eqL L)[j]? = some x) (hk : x.kind = 2) : Bit (sol ts L ins j n) := solF_bit H hT _ j n x hx hk
def AllAt {α : Type} (P : Nat → α → Prop) : Nat → List α → Prop
  | _, [] => True
  | o, x :: l => P o x ∧ AllAt P (o + 1) l
theorem allAt_app {α : Type} {P : Nat → α → Prop} : ∀ (l m : List α) (o : Nat), AllAt P o (l ++ m) ↔ AllAt P o l ∧ AllAt P (o + l.length) m := by
  intro l
  induction l with
  | nil => intro m o; simp [AllAt]
  | cons x l ih =>
    intro m o
    simp only [List.cons_append, AllAt, ih, List.length_cons]
    rw [show o + 1 + l.length = o + (l.length + 1) by omega, and_assoc]
theorem allAt_get {α : Type} {P : Nat → α → Prop} : ∀ (l : List α) (o : Nat), AllAt P o l ↔ ∀ m x, l[m]? = some x → P (o + m) x := by
  intro l
  induction l with
  | nil => intro o; simp [AllAt]
  | cons x l ih =>
    intro o
    simp only [AllAt, ih]
    constructor
    · rintro ⟨h1, h2⟩ m y hm
      cases m with
      | zero => simp at hm; subst hm; exact h1
      | succ m => have := h2 m y (by simpa using hm); rwa [show o + 1 + m = o + (m + 1) by omega] at this
    · intro h
      refine ⟨h 0 x rfl, fun m y hm => ?_⟩
      have := h (m + 1) y (by simpa using hm)
      rwa [show o + (m + 1) = o + 1 + m by omega] at this
theorem AllAt.mono {α : Type} {P Q : Nat → α → Prop} (h : ∀ j x, P j x → Q j x) : ∀ (l : List α) (o : Nat), AllAt P o l → AllAt Q o l := by
  intro l
  induction l with
  | nil => intro o _; trivial
  | cons x l ih => intro o hp; exact ⟨h _ _ hp.1, ih _ hp.2⟩
def numAt (ds : List Dc) (i : Int) : Nat := (ds.getD i.toNat ⟨0, 0, ⟨#[]⟩, 0, 0, 0, 0⟩).number
def rootAt (ds : List Dc) (i : Int) : Nat := (ds.getD i.toNat ⟨0, 0, ⟨#[]⟩, 0, 0, 0, 0⟩).root
def pairF (op : Nat) (a b : Int) : Int :=
  if op = 5 then w64 (a + b) else if op = 6 then w64 (a - b) else if op = 7 then w64 (a * b)
  else if op = 8 then (if b = 0 then 0 else if b = -1 then w64 (0 - a) else w64 (a.tdiv b)) else if op = 9 then b2i (decide (a < b)) else if op = 10 then b2i (decide (a = b))
  else if op = 11 then b2i (decide (a ≠ 0) && decide (b ≠ 0)) else if op = 12 then b2i (decide (a ≠ 0) || decide (b ≠ 0)) else 0
def nameF (ds : List Dc) (ins : List (List Int)) (b : Int) (k : Nat) (X : Nat → Int) : Int := if kindAt ds b = 0 then elemF ins (numAt ds b) k else X (rootAt ds b)
def valF (ds : List Dc) (ins : List (List Int)) (n : Nd) (k : Nat) (X Y : Nat → Int) : Int :=
  if n.kind = 2 then nameF ds ins n.decl k X
  else if n.kind = 3 then b2i (decide (X n.a = 0))
  else if n.kind = 4 then (if X n.a ≠ 0 then X n.b else X n.c)
  else if n.kind = 5 then (if k = 0 then X n.a else Y n.b)
  else if n.kind = 6 then pairF n.op (X n.a) (X n.b)
  else (n.value : Int)
def needs (n : Nd) : List Nat :=
  if n.kind = 3 then [n.a] else if n.kind = 4 then [n.a, n.b, n.c] else if n.kind = 5 then [n.a] else if n.kind = 6 then [n.a, n.b] else []
def flatV (ts : List Tk) (V : List UInt8 → Nat → Int) (k : Nat) : Ast → Nat → List Int
  | .leaf, i => [evT ts V .leaf i k]
  | .neg a, i => evT ts V (.neg a) i k :: flatV ts V k a (i + 2)
  | .ite a b c, i => evT ts V (.ite a b c) i k :: (flatV ts V k a (i + 2) ++ (flatV ts V k b (i + 2 + a.len) ++ flatV ts V k c (i + 2 + a.len + b.len)))
  | .dly b, i => evT ts V (.dly b) i k :: litV (tkAt ts (i + 1)) :: flatV ts V k b (i + 3)
  | .bin a b, i => evT ts V (.bin a b) i k :: (flatV ts V k a (i + 1) ++ flatV ts V k b (i + 2 + a.len))
theorem flatV_len (ts : List Tk) (V : List UInt8 → Nat → Int) (k : Nat) : ∀ (t : Ast) (i : Nat), (flatV ts V k t i).length = t.size := by
  intro t
  induction t with
  | leaf => intro i; rfl
  | neg a iha => intro i; simp [flatV, Ast.size, iha]
  | ite a b c iha ihb ihc => intro i; simp [flatV, Ast.size, iha, ihb, ihc]; omega
  | dly b ihb => intro i; simp [flatV, Ast.size, ihb]
  | bin a b iha ihb => intro i; simp [flatV, Ast.size, iha, ihb]
theorem flatV_head {ts : List Tk} {V : List UInt8 → Nat → Int} {k : Nat} {X : Nat → Int} : ∀ {t : Ast} {i o : Nat}, AllAt (fun j v => X j = v) o (flatV ts V k t i) → X o = evT ts V t i k := by
  intro t i o h
  cases t <;> exact h.1
theorem op_some {o : List UInt8} (h : (opOf o).isSome = true) : o = [43] ∨ o = [45] ∨ o = [42] ∨ o = [47] ∨ o = [60] ∨ o = [61] ∨ o = [38] ∨ o = [124] := by
  revert h
  unfold opOf
  split; · rename_i e; intro _; exact .inl e
  split; · rename_i e; intro _; exact .inr (.inl e)
  split; · rename_i e; intro _; exact .inr (.inr (.inl e))
  split; · rename_i e; intro _; exact .inr (.inr (.inr (.inl e)))
  split; · rename_i e; intro _; exact .inr (.inr (.inr (.inr (.inl e))))
  split; · rename_i e; intro _; exact .inr (.inr (.inr (.inr (.inr (.inl e)))))
  split; · rename_i e; intro _; exact .inr (.inr (.inr (.inr (.inr (.inr (.inl e))))))
  split; · rename_i e; intro _; exact .inr (.inr (.inr (.inr (.inr (.inr (.inr e))))))
  · intro h; cases h
theorem pair_ap {o : List UInt8} (h : (opOf o).isSome = true) {a b : Int} (hb : o = [38] ∨ o = [124] → Bit a ∧ Bit b) : apF o a b = pairF ((opOf o).getD 0) a b := by
  rcases op_some h with rfl | rfl | rfl | rfl | rfl | rfl | rfl | rfl
  · rfl
  · rfl
  · rfl
  · show (if b = 0 then 0 else w64 (a.tdiv b)) = (if b = 0 then 0 else if b = -1 then w64 (0 - a) else w64 (a.tdiv b))
    by_cases h0 : b = 0
    · rw [if_pos h0, if_pos h0]
    · rw [if_neg h0, if_neg h0]
      by_cases h1 : b = -1
      · rw [if_pos h1, h1]
        congr 1
        rw [Int.tdiv_neg, Int.tdiv_one]; omega
      · rw [if_neg h1]
  · rfl
  · rfl
  · obtain ⟨h1, h2⟩ := hb (.inl rfl)
    rcases h1 with rfl | rfl <;> rcases h2 with rfl | rfl <;> decide
  · obtain ⟨h1, h2⟩ := hb (.inr rfl)
    rcases h1 with rfl | rfl <;> rcases h2 with rfl | rfl <;> decide
section
variable {ds : List Dc} {ins : List (List Int)} {n : Nd} {k : Nat} {X Y : Nat → Int}
theorem valF3 (h : n.kind = 3) : valF ds ins n k X Y = b2i (decide (X n.a = 0)) := by unfold valF; rw [if_neg (by omega), if_pos h]
theorem valF4 (h : n.kind = 4) : valF ds ins n k X Y = if X n.a ≠ 0 then X n.b else X n.c := by unfold valF; rw [if_neg (by omega), if_neg (by omega), if_pos h]
theorem valF5 (h : n.kind = 5) : valF ds ins n k X Y = if k = 0 then X n.a else Y n.b := by unfold valF; rw [if_neg (by omega), if_neg (by omega), if_neg (by omega), if_pos h]
theorem valF6 (h : n.kind = 6) : valF ds ins n k X Y = pairF n.op (X n.a) (X n.b) := by unfold valF; rw [if_neg (by omega), if_neg (by omega), if_neg (by omega), if_neg (by omega), if_pos h]
end
theorem bind_other {ds : List Dc} {n : Nd} (h : n.kind ≠ 2) : bindF ds n = n := by unfold bindF; rw [if_neg h]
section
variable {ts : List Tk} (hF : ∀ i, TkF (tkAt ts i)) {L : List Dl} {ds : List Dc} {ins : List (List Int)} {V : List UInt8 → Nat → Int} {k : Nat} {X Y : Nat → Int}
include hF
theorem lit_val {i dl : Nat} (h : litT (tkAt ts i) = true) : litV (tkAt ts i) = valF ds ins (bindF ds (mkN ts i dl (leafN0 (tkAt ts i)))) k X Y := by
  have hlf : leafT (tkAt ts i) = true := by unfold leafT; rw [h]; rfl
  have hk1 : (tkAt ts i).kind ≠ 1 := by have := lit_nm hF h; unfold isNm at this; simpa using this
  have hk := leafN0_no hlf hk1
  rw [bind_other (by rw [mkN_kind]; exact hk)]
  unfold litV
  by_cases h3 : (tkAt ts i).kind = 3
  · have hn : ∀ l, kwL.contains l = true → (tkAt ts i).l ≠ l := fun l hl e => by have := (hF i).k3 h3; rw [e, hl] at this; cases this
    have hl : leafN0 (tkAt ts i) = { ndZero with kind := 0, value := valOf (tkAt ts i).l } := by
      unfold leafN0; rw [if_neg (hn _ (by decide)), if_neg (hn _ (by decide)), if_pos h3]
    rw [if_pos h3, hl]; rfl
  · rw [if_neg h3]
    unfold litT at h
    have h30 : ((tkAt ts i).kind == 3) = false := by simpa using h3
    rw [h30, Bool.false_or, Bool.or_eq_true, beq_iff_eq, beq_iff_eq] at h
    by_cases e : (tkAt ts i).l = kTrue
    · have hl : leafN0 (tkAt ts i) = { ndZero with kind := 1, value := 1 } := by unfold leafN0; rw [if_pos e]
      rw [hl, e]; rfl
    · have e2 := h.resolve_left e
      have hl : leafN0 (tkAt ts i) = { ndZero with kind := 1 } := by unfold leafN0; rw [if_neg e, if_pos e2]
      rw [hl, e2]; rfl
theorem flat_val (hV : ∀ k n, k < ts.length → nameT ts L k = true → Bit (V (lAt ts k) n)) :
    ∀ (t : Ast) (i dl off w : Nat), Sp ts t i → i + t.len ≤ ts.length → wrongR ts L t i w = none →
      (∀ j ∈ nms ts t i, V (lAt ts j) k = nameF ds ins (findF ds (tkAt ts j).text) k X) →
      AllAt (fun j v => X j = v) off (flatV ts V k t i) → (k ≠ 0 → AllAt (fun j v => Y j = v) off (flatV ts V (k - 1) t i)) →
      AllAt (fun j n => X j = valF ds ins (bindF ds n) k X Y) off (flat ts t i dl off) := by
  intro t
  induction t with
  | leaf =>
    intro i dl off w hs hl hw hn hX hY
    refine ⟨?_, trivial⟩
    show X off = valF ds ins (bindF ds (mkN ts i dl (leafN0 (tkAt ts i)))) k X Y
    rw [hX.1]
    by_cases h1 : (tkAt ts i).kind = 1
    · have hb : bindF ds (mkN ts i dl (leafN0 (tkAt ts i))) = { mkN ts i dl (leafN0 (tkAt ts i)) with decl := findF ds (tkAt ts i).text } := by
        rw [leafN0_name (hF i) h1]; unfold bindF; rw [if_pos (by rfl)]; rfl
      rw [hb]
      have hk2 : (leafN0 (tkAt ts i)).kind = 2 := by rw [leafN0_name (hF i) h1]
      unfold evT valF
      rw [if_pos h1, if_pos (show ({ mkN ts i dl (leafN0 (tkAt ts i)) with decl := findF ds (tkAt ts i).text } : Nd).kind = 2 from hk2)]
      exact hn i (by unfold nms; rw [if_pos h1]; simp)
    · have h2 : litT (tkAt ts i) = true := by
        have := hs.1
        unfold leafT at this
        have hk : ((tkAt ts i).kind == 1) = false := by simpa using h1
        rwa [hk, Bool.or_false] at this
      unfold evT
      rw [if_neg h1]
      exact lit_val hF h2
  | neg a iha =>
    intro i dl off w hs hl hw hn hX hY
    obtain ⟨h1, h2, h3, h4⟩ := hs
    simp only [Ast.len] at hl
    simp only [wrongR] at hw
    have ha := ev_bit hF hV a (i + 2) k h3 (by omega) (bad_if hw).2
    refine ⟨?_, iha (i + 2) dl (off + 1) 116 h3 (by omega) (bad_if hw).2 hn hX.2 (fun h => (hY h).2)⟩
    show X off = valF ds ins (bindF ds (mkN ts i dl { ndZero with kind := 3, a := off + 1 })) k X Y
    rw [hX.1, bind_other (by simp [mkN]), valF3 rfl]
    have e1 := flatV_head hX.2
    show w64 (1 - evT ts V a (i + 2) k) = b2i (decide (X (off + 1) = 0))
    rw [e1]
    rcases ha with ha | ha <;> rw [ha] <;> rw [w64_id _ (by decide) (by decide)] <;> decide
  | ite a b c iha ihb ihc =>
    intro i dl off w hs hl hw hn hX hY
    obtain ⟨h1, h2, h3, h4, h5, h6⟩ := hs
    simp only [Ast.len] at hl
    simp only [wrongR] at hw
    obtain ⟨_, hw⟩ := bad_if hw
    obtain ⟨wa, hw⟩ := or_none hw
    obtain ⟨wb, wc⟩ := or_none hw
    have ha := ev_bit hF hV a (i + 2) k h3 (by omega) wa
    obtain ⟨x0, hX⟩ := hX
    rw [allAt_app, allAt_app, flatV_len, flatV_len] at hX
    obtain ⟨xa, xb, xc⟩ := hX
    have hY' : k ≠ 0 → AllAt (fun j v => Y j = v) (off + 1) (flatV ts V (k - 1) a (i + 2)) ∧ AllAt (fun j v => Y j = v) (off + 1 + a.size) (flatV ts V (k - 1) b (i + 2 + a.len)) ∧ AllAt (fun j v => Y j = v) (off + 1 + a.size + b.size) (flatV ts V (k - 1) c (i + 2 + a.len + b.len)) := fun h => by
      have := (hY h).2
      rwa [allAt_app, allAt_app, flatV_len, flatV_len] at this
    simp only [nms, List.mem_append] at hn
    simp only [flat, AllAt]
    rw [allAt_app, allAt_app, flat_len, flat_len]
    refine ⟨?_, iha _ dl _ 116 h3 (by omega) wa (fun j hj => hn j (.inl hj)) xa (fun h => (hY' h).1), ihb _ dl _ w h4 (by omega) wb (fun j hj => hn j (.inr (.inl hj))) xb (fun h => (hY' h).2.1), ihc _ dl _ w h5 (by omega) wc (fun j hj => hn j (.inr (.inr hj))) xc (fun h => (hY' h).2.2)⟩
    rw [x0, bind_other (by simp [mkN]), valF4 rfl]
    have e1 := flatV_head xa
    have e2 := flatV_head xb
    have e3 := flatV_head xc
    show (if evT ts V a (i + 2) k = 1 then evT ts V b (i + 2 + a.len) k else evT ts V c (i + 2 + a.len + b.len) k) = if X (off + 1) ≠ 0 then X (off + 1 + a.size) else X (off + 1 + a.size + b.size)
    rw [e1, e2, e3]
    rcases ha with ha | ha <;> rw [ha] <;> rfl
  | dly b ihb =>
    intro i dl off w hs hl hw hn hX hY
    obtain ⟨h1, h2, h3, h4, h5⟩ := hs
    simp only [Ast.len] at hl
    simp only [wrongR] at hw
    obtain ⟨_, hw⟩ := bad_if hw
    obtain ⟨hb, hc⟩ := or_none hw
    obtain ⟨x0, x1, x2⟩ := hX
    refine ⟨?_, ?_, ihb (i + 3) (dl + 1) (off + 2) w h4 (by omega) hc hn x2 (fun h => (hY h).2.2)⟩
    · show X off = valF ds ins (bindF ds (mkN ts i dl { ndZero with kind := 5, a := off + 1, b := off + 2 })) k X Y
      rw [x0, bind_other (by simp [mkN]), valF5 rfl]
      show _ = if k = 0 then X (off + 1) else Y (off + 2)
      cases k with
      | zero => rw [if_pos rfl, x1]; rfl
      | succ n =>
        rw [if_neg (by omega)]
        have := (hY (by omega)).2.2
        rw [flatV_head this]; rfl
    · show X (off + 1) = valF ds ins (bindF ds (mkN ts (i + 1) dl (leafN0 (tkAt ts (i + 1))))) k X Y
      rw [x1]; exact lit_val hF h2
  | bin a b iha ihb =>
    intro i dl off w hs hl hw hn hX hY
    obtain ⟨h1, h2, h3, h4, h5⟩ := hs
    simp only [Ast.len] at hl
    simp only [wrongR] at hw
    obtain ⟨_, hw⟩ := bad_if hw
    obtain ⟨wa, wb⟩ := or_none hw
    obtain ⟨x0, hX⟩ := hX
    rw [allAt_app, flatV_len] at hX
    obtain ⟨xa, xb⟩ := hX
    have hY' : k ≠ 0 → AllAt (fun j v => Y j = v) (off + 1) (flatV ts V (k - 1) a (i + 1)) ∧ AllAt (fun j v => Y j = v) (off + 1 + a.size) (flatV ts V (k - 1) b (i + 2 + a.len)) := fun h => by
      have := (hY h).2
      rwa [allAt_app, flatV_len] at this
    simp only [nms, List.mem_append] at hn
    simp only [flat, AllAt]
    rw [allAt_app, flat_len]
    refine ⟨?_, iha _ dl _ _ h2 (by omega) wa (fun j hj => hn j (.inl hj)) xa (fun h => (hY' h).1), ihb _ dl _ _ h4 (by omega) wb (fun j hj => hn j (.inr hj)) xb (fun h => (hY' h).2)⟩
    rw [x0, bind_other (by simp [mkN]), valF6 rfl]
    have e1 := flatV_head xa
    have e2 := flatV_head xb
    show apF (lAt ts (i + 1 + a.len)) (evT ts V a (i + 1) k) (evT ts V b (i + 2 + a.len) k) = pairF ((opOf (lAt ts (i + 1 + a.len))).getD 0) (X (off + 1)) (X (off + 1 + a.size))
    rw [e1, e2]
    refine pair_ap h3 fun ho => ?_
    have hbo : bothR (lAt ts (i + 1 + a.len)) = 116 := by unfold bothR; rw [if_pos ho]
    rw [hbo] at wa wb
    exact ⟨ev_bit hF hV a _ k h2 (by omega) wa, ev_bit hF hV b _ k h4 (by omega) wb⟩
end
theorem flat_head {ts : List Tk} : ∀ (t : Ast) (i dl off : Nat), ∃ n l, flat ts t i dl off = n :: l ∧ n.delayed = decide (0 < dl) := by
  intro t i dl off
  cases t <;> exact ⟨_, _, rfl, rfl⟩
theorem flat_first {ts : List Tk} {D : Nat → Bool} {t : Ast} {i dl off : Nat} (h : AllAt (fun j n => D j = n.delayed) off (flat ts t i dl off)) : D off = decide (0 < dl) := by
  obtain ⟨n, l, e, hn⟩ := flat_head t i dl off (ts := ts)
  rw [e] at h
  rw [h.1, hn]
theorem leafN0_needs {ts : List Tk} (i dl : Nat) (t : Tk) : needs (mkN ts i dl (leafN0 t)) = [] := by
  have : (mkN ts i dl (leafN0 t)).kind ≤ 2 := by
    rw [mkN_kind]
    unfold leafN0
    split; · simp
    split; · simp
    split; · simp
    · simp
  unfold needs
  rw [if_neg (by omega), if_neg (by omega), if_neg (by omega), if_neg (by omega)]
theorem flat_kids {ts : List Tk} {D : Nat → Bool} : ∀ (t : Ast) (i dl off fin : Nat), off + t.size ≤ fin → AllAt (fun j n => D j = n.delayed) off (flat ts t i dl off) →
    AllAt (fun j n => ∀ c ∈ needs n, j < c ∧ c < fin ∧ D c = n.delayed) off (flat ts t i dl off) := by
  intro t
  induction t with
  | leaf => intro i dl off fin hf h; exact ⟨fun c hc => by rw [leafN0_needs] at hc; simp at hc, trivial⟩
  | neg a iha =>
    intro i dl off fin hf h
    simp only [Ast.size] at hf
    have pa := a.size_pos
    refine ⟨fun c hc => ?_, iha _ dl _ fin (by omega) h.2⟩
    have hc' : c = off + 1 := by simpa [needs, mkN] using hc
    subst hc'
    exact ⟨by omega, by omega, flat_first h.2⟩
  | ite a b c iha ihb ihc =>
    intro i dl off fin hf h
    simp only [Ast.size] at hf
    have pa := a.size_pos
    have pb := b.size_pos
    have pc := c.size_pos
    obtain ⟨h0, h⟩ := h
    rw [allAt_app, allAt_app, flat_len, flat_len] at h
    obtain ⟨ha, hb, hc⟩ := h
    simp only [flat, AllAt]
    rw [allAt_app, allAt_app, flat_len, flat_len]
    refine ⟨fun d hd => ?_, iha _ dl _ fin (by omega) ha, ihb _ dl _ fin (by omega) hb, ihc _ dl _ fin (by omega) hc⟩
    have hd' : d = off + 1 ∨ d = off + 1 + a.size ∨ d = off + 1 + a.size + b.size := by simpa [needs, mkN] using hd
    rcases hd' with rfl | rfl | rfl
    · exact ⟨by omega, by omega, flat_first ha⟩
    · exact ⟨by omega, by omega, flat_first hb⟩
    · exact ⟨by omega, by omega, flat_first hc⟩
  | dly b ihb =>
    intro i dl off fin hf h
    simp only [Ast.size] at hf
    refine ⟨fun c hc => ?_, fun c hc => by rw [leafN0_needs] at hc; simp at hc, ihb _ (dl + 1) _ fin (by omega) h.2.2⟩
    have hc' : c = off + 1 := by simpa [needs, mkN] using hc
    subst hc'
    exact ⟨by omega, by omega, h.2.1⟩
  | bin a b iha ihb =>
    intro i dl off fin hf h
    simp only [Ast.size] at hf
    have pa := a.size_pos
    have pb := b.size_pos
    obtain ⟨h0, h⟩ := h
    rw [allAt_app, flat_len] at h
    obtain ⟨ha, hb⟩ := h
    simp only [flat, AllAt]
    rw [allAt_app, flat_len]
    refine ⟨fun d hd => ?_, iha _ dl _ fin (by omega) ha, ihb _ dl _ fin (by omega) hb⟩
    have hd' : d = off + 1 ∨ d = off + 1 + a.size := by simpa [needs, mkN] using hd
    rcases hd' with rfl | rfl
    · exact ⟨by omega, by omega, flat_first ha⟩
    · exact ⟨by omega, by omega, flat_first hb⟩
def dlAt (ns : List Nd) (j : Nat) : Bool := ((ns[j]?).map Nd.delayed).getD false
structure Meant (ds : List Dc) (ns : List Nd) (ins : List (List Int)) (NV : Nat → Nat → Int) : Prop where
  cover : ∀ i, i < ns.length → ∃ (a : Nat) (d : Dc), ds[a]? = some d ∧ d.kind ≠ 0 ∧ d.root ≤ i ∧ i < d.fin
  val : ∀ (i : Nat) (n : Nd), ns[i]? = some n → ∀ k, NV k i = valF ds ins n k (NV k) (NV (k - 1))
  kids : ∀ (a : Nat) (d : Dc), ds[a]? = some d → d.kind ≠ 0 → ∀ (i : Nat) (n : Nd), ns[i]? = some n → d.root ≤ i → i < d.fin → ∀ c ∈ needs n, i < c ∧ c < d.fin ∧ dlAt ns c = n.delayed
  root : ∀ (a : Nat) (d : Dc), ds[a]? = some d → d.kind ≠ 0 → d.root < ns.length ∧ dlAt ns d.root = false
  segs : ∀ (a : Nat) (d : Dc), ds[a]? = some d → d.kind ≠ 0 → d.root < d.fin ∧ d.fin ≤ ns.length
  decl : ∀ n ∈ ns, n.kind = 2 → 0 ≤ n.decl ∧ n.decl < (ds.length : Int)
  hang : ∀ (a : Nat) (d : Dc), ds[a]? = some d → d.kind ≠ 0 → ∀ (i : Nat) (n : Nd), ns[i]? = some n → d.root ≤ i → i < d.fin → n.kind = 2 → n.delayed = false → kindAt ds n.decl ≠ 0 → markAll ds ns 0 ds noM a n.decl.toNat = true
structure Ranked (ds : List Dc) (H : Mx) (rank : Nat → Nat) : Prop where
  less : ∀ a b, H a b = true → rank b < rank a ∧ ∃ d, ds[b]? = some d ∧ d.kind ≠ 0
  lt : ∀ (a : Nat) (d : Dc), ds[a]? = some d → d.kind ≠ 0 → rank a < ds.length
structure OrdOk (ds : List Dc) (H : Mx) (T : List Nat) : Prop where
  eqn : ∀ t ∈ T, ∃ d, ds[t]? = some d ∧ d.kind ≠ 0
  topo : ∀ (j t : Nat), T[j]? = some t → ∀ b, H t b = true → b ∈ T.take j
  all : ∀ (a : Nat) (d : Dc), ds[a]? = some d → d.kind ≠ 0 → a ∈ T
  len : T.length ≤ 300
def valsD (ts : List Tk) (V : List UInt8 → Nat → Int) (k : Nat) : List Dl → List Int
  | [] => []
  | x :: r => if x.kind = 0 then valsD ts V k r else flatV ts V k x.t (x.i + 5) ++ valsD ts V k r
structure DY (ts : List Tk) (f : Nd → Nd) (ns : List Nd) (V : List UInt8 → Nat → Int) (VL : Nat → List Int) (d : Dc) (x : Dl) : Prop where
  kind : d.kind = x.kind
  name : d.name = nameD ts x
  zero : x.kind = 0 → d.root = 0 ∧ d.fin = 0
  fin : x.kind ≠ 0 → d.fin = d.root + x.t.size
  nodes : x.kind ≠ 0 → AllAt (fun j n => ns[j]? = some (f n)) d.root (flat ts x.t (x.i + 5) 0 d.root)
  vals : x.kind ≠ 0 → ∀ k, AllAt (fun j v => (VL k).getD j 0 = v) d.root (flatV ts V k x.t (x.i + 5))
theorem allAt_mid {α : Type} (A l B : List α) : AllAt (fun j x => (A ++ (l ++ B))[j]? = some x) A.length l := by
  rw [allAt_get]
  intro m x hm
  have h := (List.getElem?_eq_some_iff.1 hm).1
  rw [List.getElem?_append_right (by omega), Nat.add_sub_cancel_left, List.getElem?_append_left h]
  exact hm
theorem allAt_map {α β : Type} {P : Nat → β → Prop} (f : α → β) : ∀ (l : List α) (o : Nat), AllAt P o (l.map f) → AllAt (fun j x => P j (f x)) o l := by
  intro l
  induction l with
  | nil => intro o _; trivial
  | cons x l ih => intro o h; exact ⟨h.1, ih _ h.2⟩
theorem dy_all (ts : List Tk) (f : Nd → Nd) (V : List UInt8 → Nat → Int) : ∀ (L : List Dl) (off a b : Nat) (N1 : List Nd) (W1 : Nat → List Int), N1.length = off → (∀ k, (W1 k).length = off) →
    All2 (DY ts f (N1 ++ (nodesD ts L off).map f) V (fun k => W1 k ++ valsD ts V k L)) (declsD ts L off a b) L := by
  intro L
  induction L with
  | nil => intro off a b N1 W1 _ _; trivial
  | cons x r ih =>
    intro off a b N1 W1 hN hW
    simp only [declsD, nodesD, valsD]
    by_cases hk : x.kind = 0
    · simp only [if_pos hk]
      exact ⟨⟨hk.symm, rfl, fun _ => ⟨rfl, rfl⟩, fun h => absurd hk h, fun h => absurd hk h, fun h => absurd hk h⟩, ih off (a + 1) b N1 W1 hN hW⟩
    · simp only [if_neg hk]
      refine ⟨⟨rfl, rfl, fun h => absurd h hk, fun _ => rfl, fun _ => ?_, fun _ k => ?_⟩, ?_⟩
      · rw [List.map_append]
        show AllAt _ off _
        rw [← hN]
        exact allAt_map f _ _ (allAt_mid N1 _ _)
      · show AllAt _ off _
        rw [← hW k]
        refine AllAt.mono (fun j v h => ?_) _ _ (allAt_mid (W1 k) (flatV ts V k x.t (x.i + 5)) (valsD ts V k r))
        rw [List.getD_eq_getElem?_getD, h]; rfl
      · have := ih (off + x.t.size) a (b + 1) (N1 ++ (flat ts x.t (x.i + 5) 0 off).map f) (fun k => W1 k ++ flatV ts V k x.t (x.i + 5)) (by simp [flat_len, hN]) (fun k => by simp [flatV_len, hW k])
        rw [List.append_assoc, ← List.map_append] at this
        simpa only [List.append_assoc] using this
theorem decls_num (ts : List Tk) : ∀ (L : List Dl) (off a b k : Nat) (d : Dc) (x : Dl), (declsD ts L off a b)[k]? = some d → L[k]? = some x →
    (x.kind = 0 → ∃ m, d.number = a + m ∧ (inL L)[m]? = some x) ∧ (x.kind ≠ 0 → ∃ m, d.number = b + m ∧ (eqL L)[m]? = some x) := by
  intro L
  induction L with
  | nil => intro off a b k d x _ h; simp at h
  | cons y r ih =>
    intro off a b k d x h1 h2
    simp only [declsD] at h1
    by_cases hy : y.kind = 0
    · rw [if_pos hy] at h1
      have e1 : inL (y :: r) = y :: inL r := by simp [inL, hy]
      have e2 : eqL (y :: r) = eqL r := by simp [eqL, hy]
      rw [e1, e2]
      cases k with
      | zero =>
        simp only [List.getElem?_cons_zero, Option.some.injEq] at h1 h2
        subst h1 h2
        exact ⟨fun _ => ⟨0, rfl, rfl⟩, fun h => absurd hy h⟩
      | succ k =>
        rw [List.getElem?_cons_succ] at h1 h2
        obtain ⟨g1, g2⟩ := ih _ _ _ k d x h1 h2
        refine ⟨fun h => ?_, g2⟩
        obtain ⟨m, hm, hg⟩ := g1 h
        exact ⟨m + 1, by omega, by rw [List.getElem?_cons_succ]; exact hg⟩
    · rw [if_neg hy] at h1
      have e1 : inL (y :: r) = inL r := by simp [inL, hy]
      have e2 : eqL (y :: r) = y :: eqL r := by simp [eqL, hy]
      rw [e1, e2]
      cases k with
      | zero =>
        simp only [List.getElem?_cons_zero, Option.some.injEq] at h1 h2
        subst h1 h2
        exact ⟨fun h => absurd h hy, fun _ => ⟨0, rfl, rfl⟩⟩
      | succ k =>
        rw [List.getElem?_cons_succ] at h1 h2
        obtain ⟨g1, g2⟩ := ih _ _ _ k d x h1 h2
        refine ⟨g1, fun h => ?_⟩
        obtain ⟨m, hm, hg⟩ := g2 h
        exact ⟨m + 1, by omega, by rw [List.getElem?_cons_succ]; exact hg⟩
theorem Right.one {ts : List Tk} {L : List Dl} (H : Right ts L) {a b : Nat} {x y : Dl} (hx : L[a]? = some x) (hy : L[b]? = some y) (he : (nameD ts x).data.toList = (nameD ts y).data.toList) : a = b := by
  have hi := H.own x (List.mem_of_getElem? hx) y (List.mem_of_getElem? hy) he
  obtain ⟨h1, rfl⟩ := List.getElem?_eq_some_iff.1 hx
  obtain ⟨h2, rfl⟩ := List.getElem?_eq_some_iff.1 hy
  have hp := H.pw
  rw [List.pairwise_iff_getElem] at hp
  rcases Nat.lt_trichotomy a b with h | h | h
  · have := hp a b h1 h2 h; have := L[a].len_pos; omega
  · exact h
  · have := hp b a h2 h1 h; have := L[b].len_pos; omega
theorem Right.sameIn {ts : List Tk} {L : List Dl} (H : Right ts L) {i j : Nat} {x y : Dl} (hx : (inL L)[i]? = some x) (hy : (inL L)[j]? = some y) (he : (nameD ts x).data.toList = (nameD ts y).data.toList) : i = j := by
  have mx : x ∈ L := (List.mem_filter.1 (List.mem_of_getElem? hx)).1
  have my : y ∈ L := (List.mem_filter.1 (List.mem_of_getElem? hy)).1
  have hi := H.own x mx y my he
  obtain ⟨h1, rfl⟩ := List.getElem?_eq_some_iff.1 hx
  obtain ⟨h2, rfl⟩ := List.getElem?_eq_some_iff.1 hy
  have hp : (inL L).Pairwise (fun x y => x.i + x.len ≤ y.i) := H.pw.filter _
  rw [List.pairwise_iff_getElem] at hp
  rcases Nat.lt_trichotomy i j with h | h | h
  · have := hp i j h1 h2 h; have := (inL L)[i].len_pos; omega
  · exact h
  · have := hp j i h2 h1 h; have := (inL L)[j].len_pos; omega
theorem val_in {ts : List Tk} {L : List Dl} (H : Right ts L) {ins : List (List Int)} {R : Nat → Nat → Int} {m : Nat} {x : Dl} (hx : (inL L)[m]? = some x) (n : Nat) : valV ts L ins R (nameD ts x).data.toList n = elemF ins m n := by
  obtain ⟨j, hj⟩ := ix_some (p := nmIs ts (nameD ts x).data.toList) (List.mem_of_getElem? hx) (by unfold nmIs; simp)
  have hj' : inIx ts L (nameD ts x).data.toList = some j := hj
  obtain ⟨g1, g2, _⟩ := List.findIdx?_eq_some_iff_getElem.1 hj
  have := H.sameIn (List.getElem?_eq_getElem g1) hx (by simpa [nmIs] using g2)
  subst this
  unfold valV
  rw [hj']
theorem val_eq {ts : List Tk} {L : List Dl} (H : Right ts L) {ins : List (List Int)} {R : Nat → Nat → Int} {m : Nat} {x : Dl} (hx : (eqL L)[m]? = some x) (n : Nat) : valV ts L ins R (nameD ts x).data.toList n = R m n := by
  obtain ⟨j, hj⟩ := ix_some (p := nmIs ts (nameD ts x).data.toList) (List.mem_of_getElem? hx) (by unfold nmIs; simp)
  have hj' : eqIx ts L (nameD ts x).data.toList = some j := hj
  obtain ⟨z, hz, hn⟩ := eqIx_some hj'
  have := H.same hz hx hn
  subst this
  have hi : inIx ts L (nameD ts x).data.toList = none := by
    cases hi : inIx ts L (nameD ts x).data.toList with
    | none => rfl
    | some i =>
      exfalso
      obtain ⟨g1, g2, _⟩ := List.findIdx?_eq_some_iff_getElem.1 hi
      have g3 : (nameD ts (inL L)[i]).data.toList = (nameD ts x).data.toList := by simpa [nmIs] using g2
      have m1 := List.mem_filter.1 (List.getElem_mem g1)
      have m2 := List.mem_filter.1 (List.mem_of_getElem? hx)
      obtain ⟨a, ha, ea⟩ := List.getElem_of_mem m1.1
      obtain ⟨b, hb, eb⟩ := List.getElem_of_mem m2.1
      have hab := H.one (List.getElem?_eq_getElem ha) (List.getElem?_eq_getElem hb) (by rw [ea, eb]; exact g3)
      subst hab
      rw [ea] at eb
      have k1 : (inL L)[i].kind = 0 := by simpa using m1.2
      have k2 : x.kind ≠ 0 := by simpa using m2.2
      exact k2 (by rw [← eb]; exact k1)
  unfold valV
  rw [hi, hj']
structure Both2 (ts : List Tk) (L : List Dl) (ds : List Dc) (ns : List Nd) : Prop where
  N : NamesOk ts L ds
  sp : ∀ x ∈ L, x.kind ≠ 0 → Sp ts x.t (x.i + 5) ∧ x.i + 5 + x.t.len ≤ ts.length
  decl : ∀ x ∈ L, x.kind ≠ 0 → ∀ y ∈ nmD ts x.t (x.i + 5) false, 0 ≤ findF ds (tkAt ts y.1).text
  dx : All2 (DX ts (bindF ds) ns) ds L
theorem both2 {ts : List Tk} (hF : ∀ i, TkF (tkAt ts i)) (hE : ∀ i, (tkAt ts i).kind = 0 → ts.length ≤ i + 1) (L : List Dl) (hL : Spell ts L 0) (hn : namesR ts L = none) :
    Both2 ts L (declsD ts L 0 0 0) ((nodesD ts L 0).map (bindF (declsD ts L 0 0 0))) := by
  obtain ⟨ds, hds⟩ : ∃ ds, ds = declsD ts L 0 0 0 := ⟨_, rfl⟩
  obtain ⟨ns, hns⟩ : ∃ ns, ns = (nodesD ts L 0).map (bindF ds) := ⟨_, rfl⟩
  rw [← hds, ← hns]
  have hnm : ds.map Dc.name = L.map (nameD ts) := by rw [hds]; exact declsD_names ts L 0 0 0
  have hnames : badNameF ds ns 0 ds = namesR ts L := by
    have := names_eq hF hE L hL ds hnm L [] 0 0 0 0 [] [] rfl hL (by omega) (by rw [List.nil_append]; exact hds) rfl rfl
    rw [List.nil_append, ← hns, ← hds] at this
    exact this
  have hdx : All2 (DX ts (bindF ds) ns) ds L := by
    have := dx_all ts (bindF ds) L 0 0 0 [] rfl
    rw [List.nil_append, ← hns, ← hds] at this
    exact this
  rw [hn] at hnames
  have hN : NamesOk ts L ds := ⟨fun j hj => by have := badName_own ds 0 hnames j hj; rw [this, Nat.zero_add], dx_two hdx⟩
  have hsp : ∀ x ∈ L, x.kind ≠ 0 → Sp ts x.t (x.i + 5) ∧ x.i + 5 + x.t.len ≤ ts.length := by
    intro x hx hk
    obtain ⟨_, h2, h3⟩ := spell_mem _ _ hL x hx
    have hlen : x.len = x.t.len + 6 := by unfold Dl.len; rw [if_neg hk]
    refine ⟨?_, by omega⟩
    rcases h3 with ⟨h, _⟩ | ⟨_, _, _, _, _, h, _⟩
    · exact absurd h hk
    · exact h
  refine ⟨hN, hsp, ?_, hdx⟩
  intro x hx hk y hy
  obtain ⟨k, hk2, rfl⟩ := List.getElem_of_mem hx
  rcases hdx.getOpt k with ⟨_, h2⟩ | ⟨d, z, h1, h2, h3⟩
  · rw [List.getElem?_eq_getElem hk2] at h2; cases h2
  · rw [List.getElem?_eq_getElem hk2] at h2
    cases h2
    have hnone := badName_none ds 0 hnames d (List.mem_of_getElem? h1)
    obtain ⟨o, ho⟩ := h3.some hk
    have hmem : bindF ds (nmNd ts y) ∈ seg ns d.root d.fin := by
      rw [ho]
      have : bindF ds (nmNd ts y) ∈ (((flat ts (L[k]'hk2).t ((L[k]'hk2).i + 5) 0 o).map (bindF ds)).filter fun n => n.kind == 2) := by
        rw [bind_filter, flat_names hF _ _ _ _ (hsp _ hx hk).1]
        exact List.mem_map.2 ⟨_, List.mem_map.2 ⟨y, hy, rfl⟩, rfl⟩
      exact (List.mem_filter.1 this).1
    have := badNode_none _ hnone _ hmem (by rw [bind_nm]; rfl)
    rw [bind_nm] at this
    exact this
theorem seg_get {ns : List Nd} {a b i : Nat} (h1 : a ≤ i) (h2 : i < b) : (seg ns a b)[i - a]? = ns[i]? := by
  unfold seg
  rw [List.getElem?_take, if_pos (by omega), List.getElem?_drop, Nat.add_sub_cancel' h1]
theorem mark_of {ds : List Dc} {ns : List Nd} {a i : Nat} {d : Dc} {n : Nd} (hd : ds[a]? = some d) (hn : ns[i]? = some n) (h1 : d.root ≤ i) (h2 : i < d.fin) (hk : n.kind = 2) (hl : n.delayed = false) (hq : kindAt ds n.decl ≠ 0) : markAll ds ns 0 ds noM a n.decl.toNat = true := by
  rw [markAll_eq, Nat.sub_zero, hd, Option.any_some]
  have : ((seg ns d.root d.fin).any fun m => m.kind == 2 && (!m.delayed && (kindAt ds m.decl != 0 && m.decl.toNat == n.decl.toNat))) = true := by
    rw [List.any_eq_true]
    refine ⟨n, List.mem_of_getElem? ((seg_get h1 h2).trans hn), ?_⟩
    simp [hk, hl, hq]
  rw [this]; simp
theorem ranked_of {ts : List Tk} {L : List Dl} (H : Right ts L) {ds : List Dc} {ns : List Nd} (hB : Both2 ts L ds ns) : Ranked ds (markAll ds ns 0 ds noM) (fun a => rk ts L (cntE L a)) := by
  have hisE : ∀ (a : Nat) (d : Dc), ds[a]? = some d → d.kind ≠ 0 → isE L a = true := fun a d hd hk => by
    rcases hB.dx.getOpt a with ⟨h1, _⟩ | ⟨d', x, h1, h2, h3⟩
    · rw [h1] at hd; cases hd
    · rw [hd] at h1; cases h1
      unfold isE; rw [h2]; simp [← h3.kind, hk]
  have hlt : ∀ a, isE L a = true → cntE L a < (eqL L).length := fun a ha => by
    have h1 := cntE_get L a ha
    cases h2 : L[a]? with
    | none => unfold isE at ha; rw [h2] at ha; simp at ha
    | some x => rw [h2] at h1; exact (List.getElem?_eq_some_iff.1 h1).1
  constructor
  · intro a b h
    have ha : isE L a = true := by
      cases ha : isE L a with
      | true => rfl
      | false => rw [mark_none hB.dx a b ha] at h; cases h
    have hb : ∃ d, ds[b]? = some d ∧ d.kind ≠ 0 := by
      rw [markAll_eq, Nat.sub_zero] at h
      simp only [noM, Bool.false_or, Bool.and_eq_true] at h
      cases hd : ds[a]? with
      | none => rw [hd] at h; simp at h
      | some d =>
        rw [hd, Option.any_some, List.any_eq_true] at h
        obtain ⟨n, _, hn⟩ := h.2
        simp only [Bool.and_eq_true, bne_iff_ne, beq_iff_eq] at hn
        obtain ⟨_, _, h3, h4⟩ := hn
        unfold kindAt at h3
        rw [h4, List.getD_eq_getElem?_getD] at h3
        cases hb : ds[b]? with
        | none => rw [hb] at h3; exact absurd rfl h3
        | some e => rw [hb] at h3; exact ⟨e, rfl, h3⟩
    obtain ⟨d, hd, hk⟩ := hb
    refine ⟨?_, d, hd, hk⟩
    have hb := hisE b d hd hk
    rw [mark_rel H.F hB.N hB.sp hB.decl hB.dx a b ha hb] at h
    exact rk_less H.cyc (hlt b hb) h
  · intro a d hd hk
    have h1 := hlt a (hisE a d hd hk)
    have h2 := rk_lt H.cyc h1
    have h3 : (eqL L).length ≤ L.length := List.length_filter_le _ _
    have h4 : L.length = ds.length := hB.dx.len
    show rk ts L (cntE L a) < ds.length
    omega
set_option maxHeartbeats 1000000 in
theorem meant_of {ts : List Tk} {L : List Dl} (H : Right ts L) (hT : typesR ts L = none) (ins : List (List Int)) {ds : List Dc} {ns : List Nd} (hds : ds = declsD ts L 0 0 0) (hns : ns = (nodesD ts L 0).map (bindF ds)) (hB : Both2 ts L ds ns)
    (hcov : ∀ i, i < ns.length → ∃ d ∈ ds, d.root ≤ i ∧ i < d.fin) (hsg : ∀ d ∈ ds, (d.root = 0 ∧ d.fin = 0 ∧ d.kind = 0) ∨ (d.root < d.fin ∧ d.fin ≤ ns.length)) (hdr : ∀ n ∈ ns, n.kind = 2 → 0 ≤ n.decl ∧ n.decl < (ds.length : Int)) :
    ∃ NV, Meant ds ns ins NV ∧ ∀ (j : Nat) (d : Dc) (k : Nat), (eqsF ds)[j]? = some d → NV k d.root = sol ts L ins j k := by
  have hY := dy_all ts (bindF ds) (valV ts L ins (sol ts L ins)) L 0 0 0 [] (fun _ => []) rfl (fun _ => rfl)
  simp only [List.nil_append] at hY
  rw [← hds, ← hns] at hY
  have hat : ∀ (a : Nat) (d : Dc), ds[a]? = some d → ∃ x, L[a]? = some x ∧ DY ts (bindF ds) ns (valV ts L ins (sol ts L ins)) (fun k => valsD ts (valV ts L ins (sol ts L ins)) k L) d x := fun a d hd => by
    rcases hY.getOpt a with ⟨h1, _⟩ | ⟨d', x, h1, h2, h3⟩
    · rw [h1] at hd; cases hd
    · rw [hd] at h1; cases h1; exact ⟨x, h2, h3⟩
  have hnum : ∀ (a : Nat) (d : Dc) (x : Dl), ds[a]? = some d → L[a]? = some x → (x.kind = 0 → ∃ m, d.number = m ∧ (inL L)[m]? = some x) ∧ (x.kind ≠ 0 → ∃ m, d.number = m ∧ (eqL L)[m]? = some x) := fun a d x h1 h2 => by
    rw [hds] at h1
    have := decls_num ts L 0 0 0 a d x h1 h2
    simpa only [Nat.zero_add] using this
  have hmemE : ∀ (a : Nat) (x : Dl), L[a]? = some x → x.kind ≠ 0 → x ∈ eqL L := fun a x hx hk => List.mem_filter.2 ⟨List.mem_of_getElem? hx, by simpa using hk⟩
  have hroot : ∀ (a : Nat) (d : Dc) (x : Dl) (m k : Nat), ds[a]? = some d → L[a]? = some x → x.kind ≠ 0 → (eqL L)[m]? = some x → (valsD ts (valV ts L ins (sol ts L ins)) k L).getD d.root 0 = sol ts L ins m k := fun a d x m k h1 h2 hk hm => by
    obtain ⟨x', h3, h4⟩ := hat a d h1
    rw [h2] at h3; cases h3
    obtain ⟨hm1, hm2⟩ := List.getElem?_eq_some_iff.1 hm
    rw [flatV_head (h4.vals hk k), sol_eq H.toEqs m k hm1, hm2]
  refine ⟨fun k i => (valsD ts (valV ts L ins (sol ts L ins)) k L).getD i 0, ⟨?_, ?_, ?_, ?_, ?_, hdr, ?_⟩, ?_⟩
  · intro i hi
    obtain ⟨d, hd, h1, h2⟩ := hcov i hi
    obtain ⟨a, ha, rfl⟩ := List.getElem_of_mem hd
    obtain ⟨x, hx, hy⟩ := hat a _ (List.getElem?_eq_getElem ha)
    refine ⟨a, _, List.getElem?_eq_getElem ha, fun e => ?_, h1, h2⟩
    have := hy.zero (by rw [← hy.kind]; exact e)
    omega
  · intro i n hn k
    have hi := (List.getElem?_eq_some_iff.1 hn).1
    obtain ⟨d, hd, h1, h2⟩ := hcov i hi
    obtain ⟨a, ha, rfl⟩ := List.getElem_of_mem hd
    obtain ⟨x, hx, hy⟩ := hat a _ (List.getElem?_eq_getElem ha)
    have hk : x.kind ≠ 0 := fun e => by have := hy.zero e; omega
    have hf := hy.fin hk
    have hxe := hmemE a x hx hk
    obtain ⟨hs, hl⟩ := H.sp x hxe
    have hw : wrongR ts L x.t (x.i + 5) (wB (x.kind == 2)) = none := by
      have := hT
      unfold typesR at this
      rw [List.findSome?_eq_none_iff] at this
      exact this x hxe
    have hX := hy.vals hk
    have hlt : i - ds[a].root < (flat ts x.t (x.i + 5) 0 ds[a].root).length := by
      rw [flat_len]
      have h1' := h1
      have h2' := h2
      rw [hf] at h2'
      generalize ds[a].root = rr at *
      omega
    have key := flat_val H.F (L := L) (ds := ds) (ins := ins) (V := valV ts L ins (sol ts L ins)) (k := k) (X := fun i => (valsD ts (valV ts L ins (sol ts L ins)) k L).getD i 0) (Y := fun i => (valsD ts (valV ts L ins (sol ts L ins)) (k - 1) L).getD i 0) (val_bit H (fun j n x hx hk => sol_bit H hT j n x hx hk)) x.t (x.i + 5) 0 ds[a].root (wB (x.kind == 2)) hs hl hw ?_ (hX k) (fun _ => hX (k - 1))
    · rw [allAt_get] at key
      obtain ⟨n', hn'⟩ : ∃ n', (flat ts x.t (x.i + 5) 0 ds[a].root)[i - ds[a].root]? = some n' := ⟨_, List.getElem?_eq_getElem hlt⟩
      have h3 := (allAt_get _ _).1 (hy.nodes hk) _ _ hn'
      rw [Nat.add_sub_cancel' h1, hn] at h3
      cases h3
      have := key _ _ hn'
      rw [Nat.add_sub_cancel' h1] at this
      exact this
    · intro j hj
      have hjl := nms_lt x.t _ j hj
      obtain ⟨z, hz, he⟩ := H.decl j (by omega) (nms_nm x.t _ j hj)
      have hfd : 0 ≤ findF ds (tkAt ts j).text := by
        rw [nms_nmD ts x.t _ false] at hj
        obtain ⟨y, hy, rfl⟩ := List.mem_map.1 hj
        exact hB.decl x (List.mem_of_getElem? hx) hk y hy
      obtain ⟨b, hb, rfl⟩ := List.getElem_of_mem hz
      have hbd : b < ds.length := by have := hB.dx.len; omega
      obtain ⟨z', hz', hyb⟩ := hat b _ (List.getElem?_eq_getElem hbd)
      rw [List.getElem?_eq_getElem hb] at hz'
      cases hz'
      have hfb : findF ds (tkAt ts j).text = (b : Int) := by
        have h5 := hB.N.own b hbd
        rw [findF_name ds (b := (tkAt ts j).text) (by rw [hyb.name]; exact he)] at h5
        exact h5
      have hgd : ds.getD b ⟨0, 0, ⟨#[]⟩, 0, 0, 0, 0⟩ = ds[b] := by rw [List.getD_eq_getElem?_getD, List.getElem?_eq_getElem hbd]; rfl
      unfold nameF kindAt numAt rootAt
      rw [hfb]
      simp only [Int.toNat_natCast]
      rw [hgd, hyb.kind]
      have hnb := hnum b ds[b] L[b] (List.getElem?_eq_getElem hbd) (List.getElem?_eq_getElem hb)
      by_cases hkb : L[b].kind = 0
      · rw [if_pos hkb]
        obtain ⟨m, hm, hg⟩ := hnb.1 hkb
        rw [← he, val_in H hg, hm]
      · rw [if_neg hkb]
        obtain ⟨m, hm, hg⟩ := hnb.2 hkb
        rw [← he, val_eq H hg]
        exact (hroot b _ _ m k (List.getElem?_eq_getElem hbd) (List.getElem?_eq_getElem hb) hkb hg).symm
  · intro a d hd hk i n hn h1 h2 c hc
    obtain ⟨x, hx, hy⟩ := hat a d hd
    have hkx : x.kind ≠ 0 := by rw [← hy.kind]; exact hk
    have hf := hy.fin hkx
    have hD : AllAt (fun j n => dlAt ns j = n.delayed) d.root (flat ts x.t (x.i + 5) 0 d.root) := by
      refine AllAt.mono (fun j m h => ?_) _ _ (hy.nodes hkx)
      unfold dlAt
      rw [h]
      show (bindF ds m).delayed = _
      unfold bindF; split <;> rfl
    have key := flat_kids x.t (x.i + 5) 0 d.root d.fin (by omega) hD
    obtain ⟨n', hn'⟩ : ∃ n', (flat ts x.t (x.i + 5) 0 d.root)[i - d.root]? = some n' := ⟨_, List.getElem?_eq_getElem (by rw [flat_len]; omega)⟩
    have h3 := (allAt_get _ _).1 (hy.nodes hkx) _ _ hn'
    rw [Nat.add_sub_cancel' h1, hn] at h3
    cases h3
    have e1 : needs (bindF ds n') = needs n' := by
      obtain ⟨k1, k2, k3, k4⟩ := bindF_keep ds n'
      unfold needs; rw [k1, k2, k3, k4]
    have e2 : (bindF ds n').delayed = n'.delayed := by unfold bindF; split <;> rfl
    rw [e1] at hc
    rw [e2]
    have := (allAt_get _ _).1 key _ _ hn' c hc
    rw [Nat.add_sub_cancel' h1] at this
    exact this
  · intro a d hd hk
    obtain ⟨x, hx, hy⟩ := hat a d hd
    have hkx : x.kind ≠ 0 := by rw [← hy.kind]; exact hk
    obtain ⟨n, l, e, hn⟩ := flat_head x.t (x.i + 5) 0 d.root (ts := ts)
    have h := hy.nodes hkx
    rw [e] at h
    have h1 := h.1
    refine ⟨(List.getElem?_eq_some_iff.1 h1).1, ?_⟩
    unfold dlAt
    rw [h1]
    show (bindF ds n).delayed = false
    have : (bindF ds n).delayed = n.delayed := by unfold bindF; split <;> rfl
    rw [this, hn]; rfl
  · intro a d hd hk
    rcases hsg d (List.mem_of_getElem? hd) with ⟨_, _, h⟩ | h
    · exact absurd h hk
    · exact h
  · intro a d hd _ i n hn h1 h2 hk hl hq
    exact mark_of hd hn h1 h2 hk hl hq
  · intro j d k hj
    have hmem := List.mem_of_getElem? hj
    have hE : All2 (DY ts (bindF ds) ns (valV ts L ins (sol ts L ins)) (fun k => valsD ts (valV ts L ins (sol ts L ins)) k L)) (eqsF ds) (eqL L) := All2.filter (fun d x h => by rw [h.kind]) hY
    rcases hE.getOpt j with ⟨h1, _⟩ | ⟨d', x, h1, h2, h3⟩
    · rw [h1] at hj; cases hj
    · rw [hj] at h1; cases h1
      obtain ⟨hm1, hm2⟩ := List.getElem?_eq_some_iff.1 h2
      have hk : x.kind ≠ 0 := by simpa using (List.mem_filter.1 (List.mem_of_getElem? h2)).2
      show (valsD ts (valV ts L ins (sol ts L ins)) k L).getD d.root 0 = _
      rw [flatV_head (h3.vals hk k), sol_eq H.toEqs j k hm1, hm2]
end Go.Proofs.Ytmndgoapkmhglab
namespace Go.Proofs.Ytmndgoapkmhglab
open Go.RowKit
def actF (sc : List OpF) (i : Nat) : OpF := (sc[i]?).getD ⟨0, 0, 0, 0⟩
theorem actF_get {sc : List OpF} {i : Nat} (h : i < sc.length) : sc[i] = actF sc i := by simp [actF, h]
def laterG (sc : List OpF) (i : Nat) : Nat → Nat → Int
  | 0, _ => -1
  | f + 1, k => if (actF sc k).k = (actF sc i).k then (k : Int) else laterG sc i f (k + 1)
def laterF (sc : List OpF) (i : Nat) : Int := laterG sc i (sc.length - (i + 1)) (i + 1)
def firstG (sc : List OpF) (i k : Nat) : Bool := (List.range k).all fun k => (actF sc k).k != (actF sc i).k
def firstF (sc : List OpF) (i : Nat) : Bool := firstG sc i i
theorem all_step {m : Nat} {p : Nat → Bool} (h : (List.range m).all p = true) (hp : p m = true) : (List.range (m + 1)).all p = true := by
  rw [List.range_succ, List.all_append, h, List.all_cons, hp]; rfl
theorem all_fail {m n : Nat} {p : Nat → Bool} (hm : m < n) (hp : p m = false) : (List.range n).all p = false := by
  rw [List.all_eq_false]
  exact ⟨m, List.mem_range.2 hm, by rw [hp]; simp⟩
theorem later_range (sc : List OpF) (i : Nat) : ∀ (f k : Nat), i < k → k + f = sc.length → laterG sc i f k = -1 ∨ ∃ j : Nat, laterG sc i f k = (j : Int) ∧ i < j ∧ j < sc.length := by
  intro f
  induction f with
  | zero => intro k _ _; exact .inl rfl
  | succ f ih =>
    intro k hk hl
    unfold laterG
    split
    · exact .inr ⟨k, rfl, hk, by omega⟩
    · exact ih (k + 1) (by omega) (by omega)
def atG (ts : List Tk) (L : List Dl) (pl : Int) (m : Nat) : List Nat := (List.range m).filter fun i => (((eqL L)[i]?).map fun x => ((placeD ts x : Nat) : Int) == pl) == some true
def atR (ts : List Tk) (L : List Dl) (pl : Int) : List Nat := atG ts L pl (eqL L).length
def backA (sc : List OpF) : Nat → Bool
  | 0 => false
  | i + 1 => decide ((actF sc (i + 1)).a < (actF sc i).a)
def overA (sc : List OpF) (i : Nat) : Bool :=
  decide (0 ≤ laterF sc i) && (decide (IntKind.i64.wrap ((actF sc (laterF sc i).toNat).a - (actF sc i).a) ≤ (actF sc i).b) || decide (IntKind.i64.wrap ((actF sc (laterF sc i).toNat).a - (actF sc i).a) ≤ (actF sc i).c))
def badA (ts : List Tk) (L : List Dl) (sc : List OpF) (i : Nat) : Bool :=
  (atR ts L (actF sc i).k).isEmpty || decide ((actF sc i).a < 0) || decide (1099511627776 < (actF sc i).a) || backA sc i || decide ((actF sc i).b < 0) || decide (1099511627776 < (actF sc i).b) || decide ((actF sc i).c < 0) || decide (1099511627776 < (actF sc i).c) || overA sc i
def playF (ts : List Tk) (L : List Dl) (sc : List OpF) : Bool := decide (sc.length ≤ 400) && (List.range sc.length).all fun i => !badA ts L sc i
def aheadF (M : Mx) : Nat → Nat → Bool
  | _, 0 => true
  | i, n + 1 => (List.range 4).any fun q => M i q && aheadF M q n
def dUp (M : Mx) : Nat → Nat
  | 0 => 0
  | n + 1 => if (List.range 4).any (fun q => aheadF M q (n + 1)) then n + 1 else dUp M n
theorem dUp_le (M : Mx) (n : Nat) : dUp M n ≤ n := by
  induction n with
  | zero => exact Nat.le_refl _
  | succ n ih => unfold dUp; split <;> omega
structure BdF where
  tmin : Int
  tmax : Int
  dmin : Int
  dmax : Int
abbrev BdF.val (b : BdF) : Value := .agg #[.int .i64 b.tmin, .int .i64 b.tmax, .int .i64 b.dmin, .int .i64 b.dmax]
def fitF (b : BdF) : Bool := !decide (b.tmin < 1) && !decide (b.tmax < b.tmin) && !decide (1000000 < b.tmax) && decide (0 ≤ b.dmin) && decide (b.dmin ≤ b.dmax) && decide (b.dmax < b.tmin)
end Go.Proofs.Ytmndgoapkmhglab
namespace Go.Proofs.Ytmndgoapkmhglab
structure RunInv (N : List LnF) (P : PastF) : Prop where
  turn : ∀ pl, cntF P pl 2 ≤ cntF P pl 1 ∧ cntF P pl 1 ≤ cntF P pl 2 + 1
  sent : ∀ l, l < N.length → tkF l P ≤ cntF P (lnAt N l).src 2 ∧ cntF P (lnAt N l).src 2 ≤ tkF l P + 1
  slot : ∀ l, l < N.length → cntF P (lnAt N l).dst 1 ≤ tkF l P + lateN N l ∧ tkF l P + lateN N l ≤ cntF P (lnAt N l).dst 1 + 1
def Apart (N : List LnF) : Prop := ∀ l, l < N.length → (lnAt N l).src ≠ (lnAt N l).dst
theorem lateN_le (N : List LnF) (l : Nat) : lateN N l ≤ 1 := by unfold lateN; split <;> omega
section
variable {N : List LnF} {P : PastF} {a : OpF} (hO : PastOk N P a.a) (hI : RunInv N P)
include hO
theorem slot_eq (l : Nat) : slotF N P a l = (tkF l P : Int) + lateN N l - cntF P a.k 1 := by
  unfold slotF; rw [taken_all l hO, did_all hO]
include hI
theorem can_iff {l : Nat} (hl : l < N.length) : canF N P a l = true ↔ (lnAt N l).dst = a.k ∧ tkF l P < cntF P (lnAt N l).src 2 ∧ comesF (lnAt N l).src P 0 ≤ a.a ∧ tkF l P + lateN N l = cntF P a.k 1 := by
  have hs := hI.sent l hl
  unfold canF
  rw [slot_eq hO, taken_all l hO, did_come (lnAt N l).src P hO]
  simp only [Bool.and_eq_true, decide_eq_true_eq]
  constructor
  · rintro ⟨h1, h2, h3⟩
    split at h3
    · rename_i hc; exact ⟨h1, h3, hc, by omega⟩
    · omega
  · rintro ⟨h1, h2, h3, h4⟩
    refine ⟨h1, by omega, ?_⟩
    rw [if_pos h3]; exact h2
omit hO hI in
theorem took_mem {l : Nat} : l ∈ tookF N P a ↔ l < N.length ∧ canF N P a l = true := by
  unfold tookF
  rw [List.mem_filter, List.mem_range]
theorem ready_iff : readyF N P a = true ↔ cntF P a.k 1 = cntF P a.k 2 ∧ ∀ l, l < N.length → (lnAt N l).dst = a.k → tkF l P + (if canF N P a l = true then 1 else 0) + lateN N l = cntF P a.k 1 + 1 := by
  unfold readyF
  rw [did_all hO, did_all hO, Bool.and_eq_true, decide_eq_true_iff, List.all_eq_true]
  refine and_congr Iff.rfl ⟨fun h l hl hd => ?_, fun h l hl => ?_⟩
  · have := h l (List.mem_range.2 hl)
    rw [hd] at this
    simp only [decide_true, Bool.not_true, Bool.false_or, decide_eq_true_eq] at this
    by_cases hc : canF N P a l = true
    · have := ((can_iff hO hI hl).1 hc).2.2.2
      rw [if_pos hc]; omega
    · rw [if_neg hc] at this ⊢
      rw [slot_eq hO] at this
      omega
  · by_cases hd : (lnAt N l).dst = a.k
    · have := h l (List.mem_range.1 hl) hd
      rw [hd]
      simp only [decide_true, Bool.not_true, Bool.false_or, decide_eq_true_eq]
      by_cases hc : canF N P a l = true
      · rw [if_pos hc]
      · rw [if_neg hc] at this ⊢
        rw [slot_eq hO]; omega
    · simp [hd]
theorem free_iff : freeF N P a = true ↔ cntF P a.k 1 = cntF P a.k 2 + 1 ∧ ∀ l, l < N.length → (lnAt N l).src = a.k → tkF l P = cntF P a.k 2 ∧ (knownF l P 0 ≤ a.a ∨ tkF l P = 0) := by
  have ht := hI.turn a.k
  unfold freeF
  rw [did_all hO, did_all hO, Bool.and_eq_true, decide_eq_true_iff, List.all_eq_true]
  refine and_congr (by omega) ⟨fun h l hl hd => ?_, fun h l hl => ?_⟩
  · have := h l (List.mem_range.2 hl)
    rw [hd] at this
    simp only [decide_true, Bool.not_true, Bool.false_or, decide_eq_true_eq] at this
    rw [taken_known l P hO] at this
    have hs := hI.sent l hl
    rw [hd] at hs
    split at this
    · rename_i hc; exact ⟨this, .inl hc⟩
    · exact ⟨by omega, .inr (by omega)⟩
  · by_cases hd : (lnAt N l).src = a.k
    · obtain ⟨h1, h2⟩ := h l (List.mem_range.1 hl) hd
      rw [hd]
      simp only [decide_true, Bool.not_true, Bool.false_or, decide_eq_true_eq]
      rw [taken_known l P hO]
      split
      · exact h1
      · rcases h2 with h2 | h2
        · omega
        · omega
    · simp [hd]
end
theorem known_zero (l : Nat) : ∀ P : PastF, (∀ x ∈ P, x.2.took.Nodup) → tkF l P = 0 → ∀ z, knownF l P z = z := by
  intro P
  induction P with
  | nil => intro _ _ z; rfl
  | cons x P ih =>
    intro hn h z
    simp only [tkF] at h
    have hm : l ∉ x.2.took := fun hm => by
      have := List.count_pos_iff.2 hm
      omega
    simp only [knownF]
    rw [if_neg hm]
    exact ih (fun y hy => hn y (List.mem_cons_of_mem _ hy)) (by omega) z
structure ActsOk (sc : List OpF) : Prop where
  nn : ∀ x ∈ sc, 0 ≤ x.a
  gap : sc.Pairwise fun x y => x.a ≤ y.a ∧ (x.k = y.k → x.a + x.b < y.a ∧ x.a + x.c < y.a)
theorem tookF_nodup (N : List LnF) (P : PastF) (a : OpF) : (tookF N P a).Nodup := List.Pairwise.filter _ List.nodup_range
theorem tookF_in (N : List LnF) (P : PastF) (a : OpF) : ∀ l ∈ tookF N P a, l < N.length ∧ (lnAt N l).dst = a.k := by
  intro l hl
  unfold tookF at hl
  rw [List.mem_filter, List.mem_range] at hl
  refine ⟨hl.1, ?_⟩
  have := hl.2
  unfold canF at this
  simp only [Bool.and_eq_true, decide_eq_true_eq] at this
  exact this.1
theorem past_next {N : List LnF} {V : Int → Nat → List Int} {P : PastF} {a : OpF} (hO : PastOk N P a.a) (hg : ∀ x ∈ P, x.1.a ≤ a.a ∧ (x.1.k = a.k → x.1.a + x.1.b < a.a ∧ x.1.a + x.1.c < a.a)) : PastOk N (P ++ [(a, wakeF N V P a)]) a.a := by
  refine ⟨fun x hx => ?_, fun x hx => ?_, ?_, fun x hx => ?_⟩
  · rcases List.mem_append.1 hx with hx | hx
    · exact hO.same x hx
    · rw [List.mem_singleton] at hx; subst hx; exact ⟨rfl, rfl⟩
  · rcases List.mem_append.1 hx with hx | hx
    · exact hO.le x hx
    · rw [List.mem_singleton] at hx; subst hx; exact Int.le_refl _
  · rw [List.pairwise_append]
    exact ⟨hO.gap, List.pairwise_singleton _ _, fun x hx y hy => by rw [List.mem_singleton] at hy; subst hy; exact hg x hx⟩
  · rcases List.mem_append.1 hx with hx | hx
    · exact hO.took x hx
    · rw [List.mem_singleton] at hx; subst hx; exact ⟨tookF_nodup N P a, tookF_in N P a⟩
theorem PastOk.mono {N : List LnF} {P : PastF} {t u : Int} (h : PastOk N P t) (htu : t ≤ u) : PastOk N P u := ⟨h.same, fun x hx => Int.le_trans (h.le x hx) htu, h.gap, h.took⟩
theorem cnt_next (N : List LnF) (V : Int → Nat → List Int) (P : PastF) (a : OpF) (pl what : Int) : cntF (P ++ [(a, wakeF N V P a)]) pl what = cntF P pl what + (if a.k = pl ∧ (wakeF N V P a).did = what then 1 else 0) := by
  rw [cntF_snoc]
  congr 1
  have e : isD pl what (a, wakeF N V P a) = decide (a.k = pl ∧ (wakeF N V P a).did = what) := by
    unfold isD
    show (decide (a.k = pl) && decide ((wakeF N V P a).did = what)) = _
    rw [Bool.decide_and]
  rw [e]
  simp only [decide_eq_true_eq]
theorem tk_next (N : List LnF) (V : Int → Nat → List Int) (P : PastF) (a : OpF) {l : Nat} (hl : l < N.length) : tkF l (P ++ [(a, wakeF N V P a)]) = tkF l P + (if canF N P a l = true then 1 else 0) := by
  rw [tkF_app]
  congr 1
  simp only [tkF, Nat.add_zero]
  show (tookF N P a).count l = _
  rw [count_one (tookF_nodup N P a) l]
  by_cases hc : canF N P a l = true
  · rw [if_pos hc, if_pos (by unfold tookF; rw [List.mem_filter, List.mem_range]; exact ⟨hl, hc⟩)]
  · rw [if_neg hc, if_neg (by unfold tookF; rw [List.mem_filter]; exact fun e => hc e.2)]
theorem did_cases (N : List LnF) (V : Int → Nat → List Int) (P : PastF) (a : OpF) : (readyF N P a = true ∧ (wakeF N V P a).did = 1) ∨ (readyF N P a = false ∧ freeF N P a = true ∧ (wakeF N V P a).did = 2) ∨ (readyF N P a = false ∧ freeF N P a = false ∧ (wakeF N V P a).did = 0) := by
  unfold wakeF
  cases readyF N P a <;> cases freeF N P a <;> simp
theorem inv_next {N : List LnF} {V : Int → Nat → List Int} {P : PastF} {a : OpF} (hA : Apart N) (hO : PastOk N P a.a) (hI : RunInv N P) : RunInv N (P ++ [(a, wakeF N V P a)]) := by
  have hcan : ∀ l, l < N.length → canF N P a l = true → (lnAt N l).dst = a.k ∧ tkF l P < cntF P (lnAt N l).src 2 ∧ tkF l P + lateN N l = cntF P a.k 1 := fun l hl h => by
    obtain ⟨h1, h2, _, h4⟩ := (can_iff hO hI hl).1 h
    exact ⟨h1, h2, h4⟩
  rcases did_cases N V P a with ⟨hr, hd⟩ | ⟨_, hf, hd⟩ | ⟨_, _, hd⟩
  · obtain ⟨e1, e2⟩ := (ready_iff hO hI).1 hr
    refine ⟨fun pl => ?_, fun l hl => ?_, fun l hl => ?_⟩
    · rw [cnt_next, cnt_next, hd]
      have := hI.turn pl
      by_cases h : a.k = pl
      · subst h; simp; omega
      · simp [h]; exact this
    · rw [cnt_next, tk_next N V P a hl, hd]
      have := hI.sent l hl
      by_cases hc : canF N P a l = true
      · have h := hcan l hl hc; rw [if_pos hc]; simp; omega
      · rw [if_neg hc]; simpa using this
    · rw [cnt_next, tk_next N V P a hl, hd]
      have := hI.slot l hl
      by_cases h : a.k = (lnAt N l).dst
      · have h3 := e2 l hl h.symm
        rw [← h, if_pos ⟨rfl, rfl⟩]; omega
      · have hc : ¬ canF N P a l = true := fun hc => h (hcan l hl hc).1.symm
        rw [if_neg hc, if_neg (fun e => h e.1)]; exact this
  · obtain ⟨e1, e2⟩ := (free_iff hO hI).1 hf
    refine ⟨fun pl => ?_, fun l hl => ?_, fun l hl => ?_⟩
    · rw [cnt_next, cnt_next, hd]
      have := hI.turn pl
      by_cases h : a.k = pl
      · subst h; simp; omega
      · simp [h]; exact this
    · rw [cnt_next, tk_next N V P a hl, hd]
      have := hI.sent l hl
      by_cases h : a.k = (lnAt N l).src
      · have hc : ¬ canF N P a l = true := fun hc => hA l hl (h.symm.trans (hcan l hl hc).1.symm)
        have := (e2 l hl h.symm).1
        rw [if_neg hc, if_pos ⟨h, rfl⟩, ← h]; omega
      · have hz : (if a.k = (lnAt N l).src ∧ (2 : Int) = 2 then 1 else 0) = 0 := if_neg (fun e => h e.1)
        rw [hz]
        by_cases hc : canF N P a l = true
        · have := hcan l hl hc; rw [if_pos hc]; omega
        · rw [if_neg hc]; exact this
    · rw [cnt_next, tk_next N V P a hl, hd]
      have := hI.slot l hl
      have hz : (if a.k = (lnAt N l).dst ∧ (2 : Int) = 1 then 1 else 0) = 0 := if_neg (fun e => by have := e.2; revert this; decide)
      rw [hz]
      by_cases hc : canF N P a l = true
      · have h := hcan l hl hc; rw [if_pos hc, h.1]; rw [h.1] at this; omega
      · rw [if_neg hc]; exact this
  · refine ⟨fun pl => ?_, fun l hl => ?_, fun l hl => ?_⟩
    · rw [cnt_next, cnt_next, hd]
      simpa using hI.turn pl
    · rw [cnt_next, tk_next N V P a hl, hd]
      have := hI.sent l hl
      have hz : (if a.k = (lnAt N l).src ∧ (0 : Int) = 2 then 1 else 0) = 0 := if_neg (fun e => by have := e.2; revert this; decide)
      rw [hz]
      by_cases hc : canF N P a l = true
      · have := hcan l hl hc; rw [if_pos hc]; omega
      · rw [if_neg hc]; exact this
    · rw [cnt_next, tk_next N V P a hl, hd]
      have := hI.slot l hl
      have hz : (if a.k = (lnAt N l).dst ∧ (0 : Int) = 1 then 1 else 0) = 0 := if_neg (fun e => by have := e.2; revert this; decide)
      rw [hz]
      by_cases hc : canF N P a l = true
      · have h := hcan l hl hc; rw [if_pos hc, h.1]; rw [h.1] at this; omega
      · rw [if_neg hc]; exact this
theorem inv_start (N : List LnF) : RunInv N [] := ⟨fun _ => by simp [cntF], fun l _ => by simp [cntF, tkF], fun l _ => by simp only [cntF, tkF, List.filter_nil, List.length_nil, Nat.zero_add]; have := lateN_le N l; omega⟩
theorem past_start (N : List LnF) (t : Int) : PastOk N [] t := ⟨fun x hx => by simp at hx, fun x hx => by simp at hx, List.Pairwise.nil, fun x hx => by simp at hx⟩
theorem run_ind {N : List LnF} (hA : Apart N) (V : Int → Nat → List Int) {p : PastF → Prop} (h1 : ∀ P a, PastOk N P a.a → RunInv N P → 0 ≤ a.a → p P → p (P ++ [(a, wakeF N V P a)])) :
    ∀ (sc : List OpF) (P : PastF), (∀ x ∈ sc, 0 ≤ x.a) → (P.map Prod.fst ++ sc).Pairwise (fun x y => x.a ≤ y.a ∧ (x.k = y.k → x.a + x.b < y.a ∧ x.a + x.c < y.a)) → (∀ t, (∀ x ∈ P, x.1.a ≤ t) → PastOk N P t) → RunInv N P → p P → p (runG N V P sc) ∧ RunInv N (runG N V P sc) ∧ ∀ t, (∀ x ∈ runG N V P sc, x.1.a ≤ t) → PastOk N (runG N V P sc) t := by
  intro sc
  induction sc with
  | nil => intro P _ _ hO hI hp; exact ⟨hp, hI, hO⟩
  | cons a r ih =>
    intro P hn hg hO hI hp
    have hga := List.pairwise_append.1 hg
    have hx : ∀ x ∈ P, x.1.a ≤ a.a ∧ (x.1.k = a.k → x.1.a + x.1.b < a.a ∧ x.1.a + x.1.c < a.a) := fun x hx => hga.2.2 x.1 (List.mem_map.2 ⟨x, hx, rfl⟩) a (by simp)
    have hOa : PastOk N P a.a := hO a.a (fun x m => (hx x m).1)
    have hOn := past_next (V := V) hOa hx
    refine ih (P ++ [(a, wakeF N V P a)]) (fun x m => hn x (List.mem_cons_of_mem _ m)) (by simpa using hg) (fun t ht => ?_) (inv_next hA hOa hI) (h1 P a hOa hI (hn a (by simp)) hp)
    exact hOn.mono (ht (a, wakeF N V P a) (by simp))
theorem did_app (P Q : PastF) (pl what now : Int) (data : Bool) : didF (P ++ Q) pl what now data = didF P pl what now data + didF Q pl what now data := by
  unfold didF; rw [List.filter_append, List.length_append]
theorem cnt_app (P Q : PastF) (pl what : Int) : cntF (P ++ Q) pl what = cntF P pl what + cntF Q pl what := by
  unfold cntF; rw [List.filter_append, List.length_append]
theorem did_none {S : PastF} {x : Int} (h : ∀ y ∈ S, x < y.2.a) (pl what : Int) : didF S pl what x false = 0 := by
  unfold didF
  rw [List.length_eq_zero_iff, List.filter_eq_nil_iff]
  intro y hy
  have := h y hy
  simp only [Bool.and_eq_true, decide_eq_true_eq, Bool.false_eq_true, if_false]
  omega
theorem taken_none {x : Int} (l : Nat) : ∀ {S : PastF}, (∀ y ∈ S, x < y.2.a) → takenF x l false S = 0 := by
  intro S
  induction S with
  | nil => intro _; rfl
  | cons y S ih =>
    intro h
    have := h y (by simp)
    simp only [takenF]
    rw [if_neg (by simp; omega), ih (fun z hz => h z (List.mem_cons_of_mem _ hz))]
theorem did_mono {P : PastF} {x y : Int} (h : x ≤ y) (pl what : Int) : didF P pl what x false ≤ didF P pl what y false := by
  refine past_ind (p := fun P => didF P pl what x false ≤ didF P pl what y false) (by simp [didF]) (fun P z ih => ?_) P
  rw [didF_snoc, didF_snoc]
  have : (if (isD pl what z && decide (z.2.a + (if false = true then z.1.c else 0) ≤ x)) = true then 1 else 0) ≤ if (isD pl what z && decide (z.2.a + (if false = true then z.1.c else 0) ≤ y)) = true then 1 else 0 := by
    simp only [Bool.false_eq_true, if_false]
    cases isD pl what z with
    | false => simp
    | true =>
      simp only [Bool.true_and, decide_eq_true_eq]
      by_cases h1 : z.2.a + 0 ≤ x
      · rw [if_pos h1, if_pos (by omega)]; exact Nat.le_refl _
      · rw [if_neg h1]; exact Nat.zero_le _
  omega
theorem taken_mono {x y : Int} (h : x ≤ y) (l : Nat) : ∀ (P : PastF), takenF x l false P ≤ takenF y l false P := by
  intro P
  induction P with
  | nil => exact Nat.le_refl _
  | cons z P ih =>
    simp only [takenF, Bool.false_eq_true, if_false]
    by_cases h1 : z.2.a + 0 ≤ x
    · rw [if_pos h1, if_pos (by omega)]; omega
    · rw [if_neg h1]; omega
theorem known_le {Dm y : Int} (hy : 0 ≤ y + Dm) (l : Nat) : ∀ P : PastF, (∀ x ∈ P, x.1.b ≤ Dm) → tkF l P ≤ takenF y l false P → knownF l P 0 ≤ y + Dm := by
  refine past_ind (fun _ _ => hy) (fun P x ih hb h => ?_)
  have hb' : ∀ z ∈ P, z.1.b ≤ Dm := fun z hz => hb z (List.mem_append_left _ hz)
  rw [tkF_app, takenF_app] at h
  simp only [tkF, takenF, Nat.add_zero, Bool.false_eq_true, if_false, Int.add_zero] at h
  have h1 := taken_le y l false P
  rw [knownF_app]
  simp only [knownF]
  by_cases hm : l ∈ x.2.took
  · have hc : 0 < x.2.took.count l := List.count_pos_iff.2 hm
    rw [if_pos hm]
    by_cases hx : x.2.a ≤ y
    · have := hb x (by simp); omega
    · rw [if_neg hx] at h; omega
  · rw [if_neg hm]
    refine ih hb' ?_
    have hc : x.2.took.count l = 0 := List.count_eq_zero.2 hm
    rw [hc] at h
    split at h <;> omega
theorem comes_le {Dm y : Int} (hy : 0 ≤ y + Dm) (pl : Int) : ∀ P : PastF, (∀ x ∈ P, x.1.c ≤ Dm) → cntF P pl 2 ≤ didF P pl 2 y false → comesF pl P 0 ≤ y + Dm := by
  refine past_ind (fun _ _ => hy) (fun P x ih hb h => ?_)
  have hb' : ∀ z ∈ P, z.1.c ≤ Dm := fun z hz => hb z (List.mem_append_left _ hz)
  rw [cntF_snoc, didF_snoc] at h
  simp only [Bool.false_eq_true, if_false, Int.add_zero] at h
  have h1 := did_le P pl 2 y false
  rw [comesF_app]
  simp only [comesF]
  cases hm : isD pl 2 x with
  | true =>
    rw [if_pos rfl]
    rw [hm] at h
    simp only [Bool.true_and, if_true] at h
    by_cases hx : x.2.a ≤ y
    · have := hb x (by simp); omega
    · rw [if_neg (by simpa using hx)] at h; omega
  | false =>
    rw [if_neg (by simp)]
    rw [hm] at h
    simp at h
    exact ih hb' h
section
variable {N : List LnF} {V : Int → Nat → List Int} {P : PastF} {a : OpF} (hO : PastOk N P a.a) (hI : RunInv N P)
include hO hI
theorem go_publish {k : Nat} (h1 : k + 1 ≤ cntF P a.k 1) (h2 : ∀ l, l < N.length → (lnAt N l).src = a.k → k ≤ tkF l P ∧ (tkF l P ≤ k → knownF l P 0 ≤ a.a)) : k + 1 ≤ cntF (P ++ [(a, wakeF N V P a)]) a.k 2 := by
  rw [cnt_next]
  by_cases hd : k + 1 ≤ cntF P a.k 2
  · omega
  · have ht := hI.turn a.k
    have e2 : cntF P a.k 2 = k := by omega
    have e1 : cntF P a.k 1 = k + 1 := by omega
    have hnr : ¬ readyF N P a = true := fun hr => by have := ((ready_iff hO hI).1 hr).1; omega
    have hf : freeF N P a = true := by
      rw [free_iff hO hI]
      refine ⟨by omega, fun l hl hs => ?_⟩
      obtain ⟨g1, g2⟩ := h2 l hl hs
      have := (hI.sent l hl).1
      rw [hs] at this
      have e : tkF l P = k := by omega
      exact ⟨by omega, .inl (g2 (by omega))⟩
    rcases did_cases N V P a with ⟨hr, _⟩ | ⟨_, _, hd⟩ | ⟨_, hf', _⟩
    · exact absurd hr hnr
    · rw [hd, if_pos ⟨rfl, rfl⟩]; omega
    · rw [hf] at hf'; cases hf'
theorem go_take {m l : Nat} (hl : l < N.length) (hd : (lnAt N l).dst = a.k) (h1 : m ≤ cntF P (lnAt N l).src 2) (h2 : cntF P (lnAt N l).src 2 ≤ m → comesF (lnAt N l).src P 0 ≤ a.a) (h3 : m + lateN N l ≤ cntF P a.k 1 + 1) : m ≤ tkF l P + (if canF N P a l = true then 1 else 0) := by
  by_cases hm : m ≤ tkF l P
  · omega
  · have hs := hI.sent l hl
    have hsl := hI.slot l hl
    rw [hd] at hsl
    have hc : canF N P a l = true := by
      rw [can_iff hO hI hl]
      exact ⟨hd, by omega, h2 (by omega), by omega⟩
    rw [if_pos hc]; omega
theorem go_step {k : Nat} (h1 : k ≤ cntF P a.k 2) (h2 : ∀ l, l < N.length → (lnAt N l).dst = a.k → k + 1 ≤ tkF l P + (if canF N P a l = true then 1 else 0) + lateN N l) : k + 1 ≤ cntF (P ++ [(a, wakeF N V P a)]) a.k 1 := by
  rw [cnt_next]
  by_cases hd : k + 1 ≤ cntF P a.k 1
  · omega
  · have ht := hI.turn a.k
    have hr : readyF N P a = true := by
      rw [ready_iff hO hI]
      refine ⟨by omega, fun l hl hs => ?_⟩
      have g := h2 l hl hs
      have hsl := hI.slot l hl
      rw [hs] at hsl
      by_cases hc : canF N P a l = true
      · have := ((can_iff hO hI hl).1 hc).2.2.2
        rw [if_pos hc] at g ⊢; omega
      · rw [if_neg hc] at g ⊢; omega
    rcases did_cases N V P a with ⟨_, hd⟩ | ⟨hr', _, _⟩ | ⟨hr', _, _⟩
    · rw [hd, if_pos ⟨rfl, rfl⟩]; omega
    · rw [hr] at hr'; cases hr'
    · rw [hr] at hr'; cases hr'
end
theorem run_app (N : List LnF) (V : Int → Nat → List Int) : ∀ (s t : List OpF) (P : PastF), runG N V P (s ++ t) = runG N V (runG N V P s) t := by
  intro s
  induction s with
  | nil => intro t P; rfl
  | cons a s ih => intro t P; exact ih t _
theorem run_ext (N : List LnF) (V : Int → Nat → List Int) : ∀ (t : List OpF) (P : PastF), ∃ S, runG N V P t = P ++ S ∧ S.map Prod.fst = t ∧ ∀ x ∈ S, x.2.a = x.1.a := by
  intro t
  induction t with
  | nil => intro P; exact ⟨[], by simp [runG], rfl, fun x hx => by simp at hx⟩
  | cons a t ih =>
    intro P
    obtain ⟨S, h1, h2, h3⟩ := ih (P ++ [(a, wakeF N V P a)])
    refine ⟨(a, wakeF N V P a) :: S, ?_, by simp [h2], fun x hx => ?_⟩
    · show runG N V (P ++ [(a, wakeF N V P a)]) t = _
      rw [h1]; simp
    · rcases List.mem_cons.1 hx with rfl | hx
      · rfl
      · exact h3 x hx
structure AtAct (N : List LnF) (V : Int → Nat → List Int) (sc : List OpF) (R : PastF) (a : OpF) (P : PastF) : Prop where
  ok : PastOk N P a.a
  inv : RunInv N P
  did0 : ∀ x, x < a.a → ∀ pl what, didF R pl what x false ≤ cntF P pl what
  tk0 : ∀ x, x < a.a → ∀ l, takenF x l false R ≤ tkF l P
  didP : ∀ x, x < a.a → ∀ pl what, didF P pl what x false = didF R pl what x false
  tkP : ∀ x, x < a.a → ∀ l, takenF x l false P = takenF x l false R
  did1 : ∀ pl what, cntF (P ++ [(a, wakeF N V P a)]) pl what ≤ didF R pl what a.a false
  tk1 : ∀ l, l < N.length → tkF l P + (if canF N P a l = true then 1 else 0) ≤ takenF a.a l false R
  mem : ∀ x ∈ P, x.1 ∈ sc
theorem at_act {N : List LnF} (hA : Apart N) (V : Int → Nat → List Int) {sc : List OpF} (hS : ActsOk sc) {a : OpF} (ha : a ∈ sc) : ∃ P, AtAct N V sc (runG N V [] sc) a P := by
  obtain ⟨s, t, rfl⟩ := List.append_of_mem ha
  have hg := List.pairwise_append.1 hS.gap
  have hind := run_ind hA V (p := fun _ => True) (fun _ _ _ _ _ _ => trivial) s [] (fun x hx => hS.nn x (List.mem_append_left _ hx)) (by simpa using hg.1) (fun t _ => past_start N t) (inv_start N) trivial
  obtain ⟨S0, f1, f2, f3⟩ := run_ext N V s []
  rw [List.nil_append] at f1
  have hPm : ∀ x ∈ runG N V [] s, x.1 ∈ s := fun x hx => by rw [← f2, ← f1]; exact List.mem_map.2 ⟨x, hx, rfl⟩
  have hle : ∀ x ∈ runG N V [] s, x.1.a ≤ a.a := fun x hx => (hg.2.2 x.1 (hPm x hx) a (by simp)).1
  obtain ⟨S, e1, e2, e3⟩ := run_ext N V t (runG N V [] s ++ [(a, wakeF N V (runG N V [] s) a)])
  have hR : runG N V [] (s ++ a :: t) = runG N V [] s ++ ([(a, wakeF N V (runG N V [] s) a)] ++ S) := by
    rw [run_app]
    show runG N V (runG N V [] s ++ [(a, wakeF N V (runG N V [] s) a)]) t = _
    rw [e1, List.append_assoc]
  have hlate : ∀ x, x < a.a → ∀ y ∈ [(a, wakeF N V (runG N V [] s) a)] ++ S, x < y.2.a := fun x hx y hy => by
    rcases List.mem_append.1 hy with hy | hy
    · rw [List.mem_singleton] at hy; subst hy; exact hx
    · have hyt : y.1 ∈ t := by rw [← e2]; exact List.mem_map.2 ⟨y, hy, rfl⟩
      have h2 := ((List.pairwise_cons.1 hg.2.1).1 y.1 hyt).1
      rw [e3 y hy]; omega
  have hO := hind.2.2 a.a hle
  refine ⟨runG N V [] s, hO, hind.2.1, ?_, ?_, ?_, ?_, ?_, ?_, ?_⟩
  · intro x hx pl what
    rw [hR, did_app, did_none (hlate x hx)]
    have := did_le (runG N V [] s) pl what x false
    omega
  · intro x hx l
    rw [hR, takenF_app, taken_none l (hlate x hx)]
    have := taken_le x l false (runG N V [] s)
    omega
  · intro x hx pl what
    rw [hR, did_app, did_none (hlate x hx)]; rfl
  · intro x hx l
    rw [hR, takenF_app, taken_none l (hlate x hx)]; rfl
  · intro pl what
    rw [hR, ← List.append_assoc, did_app]
    have h1 : didF (runG N V [] s ++ [(a, wakeF N V (runG N V [] s) a)]) pl what a.a false = cntF (runG N V [] s ++ [(a, wakeF N V (runG N V [] s) a)]) pl what :=
      did_all (past_next hO (fun x hx => hg.2.2 x.1 (hPm x hx) a (by simp))) pl what
    omega
  · intro l hl
    rw [hR, ← List.append_assoc, takenF_app, ← tk_next N V _ a hl]
    have h1 : takenF a.a l false (runG N V [] s ++ [(a, wakeF N V (runG N V [] s) a)]) = tkF l (runG N V [] s ++ [(a, wakeF N V (runG N V [] s) a)]) :=
      taken_all l (past_next hO (fun x hx => hg.2.2 x.1 (hPm x hx) a (by simp)))
    omega
  · intro x hx
    exact List.mem_append_left _ (hPm x hx)
structure ROk (ts : List Tk) (L : List Dl) : Prop where
  F : ∀ i, TkF (tkAt ts i)
  E : ∀ i, (tkAt ts i).kind = 0 → ts.length ≤ i + 1
  len : ts.length ≤ 1501
  pos : 0 < ts.length
  sp : Spell ts L 0
theorem ROk.mem {ts : List Tk} {L : List Dl} (h : ROk ts L) {x : Dl} (hx : x ∈ L) : x.i + x.len < ts.length ∧ DlOk ts x := (spell_mem L 0 h.sp x hx).2
theorem ROk.eq {ts : List Tk} {L : List Dl} (h : ROk ts L) {x : Dl} (hx : x ∈ eqL L) : x ∈ L ∧ x.kind ≠ 0 ∧ Sp ts x.t (x.i + 5) ∧ x.i + 5 + x.t.len < ts.length ∧ placeD ts x < 4 := by
  have hm := List.mem_filter.1 hx
  have hk : x.kind ≠ 0 := by simpa using hm.2
  obtain ⟨h1, h2⟩ := h.mem hm.1
  have hl : x.len = x.t.len + 6 := by unfold Dl.len; rw [if_neg hk]
  refine ⟨hm.1, hk, ?_, by omega, ?_⟩
  · rcases h2 with ⟨h, _⟩ | ⟨_, _, _, _, _, h, _⟩
    · exact absurd h hk
    · exact h
  · rcases h2 with ⟨h, _⟩ | ⟨_, _, _, h, _⟩
    · exact absurd h hk
    · exact h.2
theorem read_zero {ts : List Tk} {L : List Dl} (h : (readR ts L).1 = 0) : manyR ts L = none ∧ namesR ts L = none ∧ typesR ts L = none ∧ cycR ts L = none ∧ lpR ts L = none := by
  unfold readR at h
  cases h1 : manyR ts L with
  | some a => rw [h1] at h; cases h
  | none =>
    cases h2 : namesR ts L with
    | some a => rw [h1, h2] at h; cases h
    | none =>
      cases h3 : typesR ts L with
      | some a => rw [h1, h2, h3] at h; cases h
      | none =>
        cases h4 : cycR ts L with
        | some a => rw [h1, h2, h3, h4] at h; cases h
        | none =>
          cases h5 : lpR ts L with
          | some a => rw [h1, h2, h3, h4, h5] at h; cases h
          | none => exact ⟨rfl, rfl, rfl, rfl, rfl⟩
theorem text_small {s : ByteArray} (h : (textF s).1 ≠ 1) : s.size ≤ 1500 := by
  by_cases hs : 1500 < s.size
  · unfold textF at h; rw [if_pos hs] at h; exact absurd rfl h
  · omega
theorem rok_of {s : ByteArray} {L : List Dl} (hs : s.size ≤ 1500) (h : Spell (toks s) L 0) : ROk (toks s) L :=
  ⟨toks_F s, toks_end s, (toks_ok s hs).1, (toks_ok s hs).pos, h⟩
theorem good_text {s : ByteArray} (h : (textF s).1 = 0) : ∃ L, RGood s L ∧ Right (toks s) L ∧ ROk (toks s) L := by
  have hs := text_small (s := s) (by omega)
  rcases text_read s hs with ⟨k, _, ht, _⟩ | ⟨L, hsp, _, ht, hp⟩
  · rw [ht] at h; cases h
  · rw [ht] at h
    obtain ⟨h1, h2, h3, h4, h5⟩ := read_zero h
    exact ⟨L, ⟨h1, h2, h3, h4, h5, hsp, hp⟩, right_of (toks_F s) hsp h1 h2 h4, rok_of hs hsp⟩
end Go.Proofs.Ytmndgoapkmhglab
namespace Go.Proofs.Ytmndgoapkmhglab
open Go.RowKit
structure WrF where
  src : Int
  dst : Int
  full : Bool
  unt : Bool
  comes : Int
  known : Int
def WrF.cell (x : WrF) : Nat → Value
  | 0 => .int .i64 x.src
  | 1 => .int .i64 x.dst
  | 2 => .bool x.full
  | 3 => .bool x.unt
  | 4 => .int .i64 x.comes
  | _ => .int .i64 x.known
def Wires (w : World) (g n : Nat) (F : Nat → WrF) : Prop := ∃ m f, w.rowIs g 141 m f ∧ ∀ l, l < n → ∀ j, j < 6 → l * 6 + j < m ∧ f (l * 6 + j) = (F l).cell j
theorem Wires.lt {w : World} {g n : Nat} {F : Nat → WrF} (h : Wires w g n F) : g < w.heap.size := by obtain ⟨m, f, h1, _⟩ := h; exact h1.lt
theorem Wires.froz {w : World} {g n : Nat} {F : Nat → WrF} (h : Wires w g n F) (i : Nat) : w.frozen? ⟨g, i, none⟩ = false := by obtain ⟨m, f, h1, _⟩ := h; exact h1.frozen i
theorem Wires.cell {w : World} {g n : Nat} {F : Nat → WrF} (h : Wires w g n F) {l : Nat} (hl : l < n) {j : Nat} (hj : j < 6) : w.cell? ⟨g, l * 6 + j, none⟩ = some ((F l).cell j) := by
  obtain ⟨m, f, h1, h2⟩ := h
  obtain ⟨h3, h4⟩ := h2 l hl j hj
  rw [h1.cell h3, h4]
theorem Wires.cells {w : World} {g n : Nat} {F : Nat → WrF} (h : Wires w g n F) {l : Nat} (hl : l < n) : w.cell? ⟨g, l * 6, none⟩ = some (.int .i64 (F l).src) ∧ w.cell? ⟨g, l * 6 + 1, none⟩ = some (.int .i64 (F l).dst) ∧ w.cell? ⟨g, l * 6 + 2, none⟩ = some (.bool (F l).full) ∧ w.cell? ⟨g, l * 6 + 3, none⟩ = some (.bool (F l).unt) ∧ w.cell? ⟨g, l * 6 + 4, none⟩ = some (.int .i64 (F l).comes) ∧ w.cell? ⟨g, l * 6 + 5, none⟩ = some (.int .i64 (F l).known) :=
  ⟨h.cell hl (j := 0) (by omega), h.cell hl (j := 1) (by omega), h.cell hl (j := 2) (by omega), h.cell hl (j := 3) (by omega), h.cell hl (j := 4) (by omega), h.cell hl (j := 5) (by omega)⟩
theorem Wires.of_block {w w' : World} {g n : Nat} {F : Nat → WrF} (h : Wires w g n F) (e : w'.heap[g]? = w.heap[g]?) : Wires w' g n F := by
  obtain ⟨m, f, h1, h2⟩ := h
  exact ⟨m, f, h1.of_block e, h2⟩
theorem Wires.set {w : World} {g n : Nat} {F F' : Nat → WrF} (h : Wires w g n F) {l j : Nat} (hj : j < 6) (v : Value) (hF : ∀ l', l' < n → ∀ j', j' < 6 → (F' l').cell j' = if l' = l ∧ j' = j then v else (F l').cell j') : Wires (w.setCell ⟨g, l * 6 + j, none⟩ v) g n F' := by
  obtain ⟨m, f, h1, h2⟩ := h
  refine ⟨m, _, h1.set (l * 6 + j) v, fun l' hl' j' hj' => ⟨(h2 l' hl' j' hj').1, ?_⟩⟩
  rw [hF l' hl' j' hj']
  show (if l' * 6 + j' = l * 6 + j then v else f (l' * 6 + j')) = _
  by_cases e : l' = l ∧ j' = j
  · rw [if_pos e, if_pos (by obtain ⟨rfl, rfl⟩ := e; rfl)]
  · rw [if_neg e, if_neg (by omega), (h2 l' hl' j' hj').2]
theorem Wires.congr {w : World} {g n : Nat} {F F' : Nat → WrF} (h : Wires w g n F) (e : ∀ l, l < n → F l = F' l) : Wires w g n F' := by
  obtain ⟨m, f, h1, h2⟩ := h
  exact ⟨m, f, h1, fun l hl j hj => by rw [← e l hl]; exact h2 l hl j hj⟩
def scF (vE vV vW : Value) (nx : Nat → Nat) (hd : Nat → Bool) : Nat → Value
  | 0 => vE
  | 1 => vV
  | 2 => vW
  | i + 3 => if i % 2 = 0 then .int .i64 ((nx (i / 2) : Nat) : Int) else .bool (hd (i / 2))
structure Scn (w : World) (X : Nat → Prop) (b : Nat) (aW : Option Addr) (n cW : Nat) (vE vV : Value) (F : Nat → WrF) (nx : Nat → Nat) (hd : Nat → Bool) : Prop where
  row : w.rowIs b 139 11 (scF vE vV (.slice aW n cW) nx hd)
  wi : 0 < n → ∃ g, aW = some ⟨g, 0, none⟩ ∧ Wires w g n F ∧ b ≠ g
  xb : ¬ X b
  xg : ∀ g, aW = some ⟨g, 0, none⟩ → ¬ X g
  xl : ∀ k, X k → k < w.heap.size
  few : n ≤ 6100
  az : n = 0 → aW = none
def scX (X : Nat → Prop) (b : Nat) (aW : Option Addr) (k : Nat) : Prop := X k ∨ k = b ∨ aW = some ⟨k, 0, none⟩
section
variable {w w' : World} {X : Nat → Prop} {b : Nat} {aW : Option Addr} {n cW : Nat} {vE vV : Value} {F : Nat → WrF} {nx : Nat → Nat} {hd : Nat → Bool}
theorem Scn.lt (h : Scn w X b aW n cW vE vV F nx hd) : b < w.heap.size := h.row.lt
theorem Scn.c0 (h : Scn w X b aW n cW vE vV F nx hd) : w.cell? ⟨b, 0, none⟩ = some vE := h.row.cell (i := 0) (by omega)
theorem Scn.c1 (h : Scn w X b aW n cW vE vV F nx hd) : w.cell? ⟨b, 1, none⟩ = some vV := h.row.cell (i := 1) (by omega)
theorem Scn.c2 (h : Scn w X b aW n cW vE vV F nx hd) : w.cell? ⟨b, 2, none⟩ = some (.slice aW n cW) := h.row.cell (i := 2) (by omega)
theorem Scn.cn (h : Scn w X b aW n cW vE vV F nx hd) {p : Nat} (hp : p < 4) : w.cell? ⟨b, 3 + p * 2, none⟩ = some (.int .i64 ((nx p : Nat) : Int)) := by
  rw [h.row.cell (i := 3 + p * 2) (by omega), Nat.add_comm]
  show some (if p * 2 % 2 = 0 then _ else _) = _
  rw [if_pos (by omega), Nat.mul_div_cancel _ (by omega)]
theorem Scn.ch (h : Scn w X b aW n cW vE vV F nx hd) {p : Nat} (hp : p < 4) : w.cell? ⟨b, 3 + p * 2 + 1, none⟩ = some (.bool (hd p)) := by
  rw [h.row.cell (i := 3 + p * 2 + 1) (by omega), show 3 + p * 2 + 1 = (p * 2 + 1) + 3 by omega]
  show some (if (p * 2 + 1) % 2 = 0 then _ else _) = _
  rw [if_neg (by omega), show (p * 2 + 1) / 2 = p by omega]
theorem Scn.froz (h : Scn w X b aW n cW vE vV F nx hd) (i : Nat) : w.frozen? ⟨b, i, none⟩ = false := h.row.frozen i
theorem Scn.fr (h : Scn w X b aW n cW vE vV F nx hd) (hf : Fr (scX X b aW) w w') : Scn w' X b aW n cW vE vV F nx hd :=
  ⟨h.row.of_block (hf.block b (.inr (.inl rfl))), fun hp => by
    obtain ⟨g, e, h1, h2⟩ := h.wi hp
    exact ⟨g, e, h1.of_block (hf.block g (.inr (.inr e))), h2⟩, h.xb, h.xg, fun k hk => Nat.lt_of_lt_of_le (h.xl k hk) hf.size, h.few, h.az⟩
theorem Scn.sl (h : Scn w X b aW n cW vE vV F nx hd) : ∀ k, scX X b aW k → k < w.heap.size := by
  rintro k (hk | rfl | hk)
  · exact h.xl k hk
  · exact h.lt
  · rcases Nat.eq_zero_or_pos n with hn | hp
    rotate_left
    · obtain ⟨g, e, h1, _⟩ := h.wi hp
      rw [e] at hk
      cases hk
      exact h1.lt
    · rw [h.az hn] at hk; cases hk
theorem Scn.grown (h : Scn w X b aW n cW vE vV F nx hd) {ob : Option Nat} (hg : w.grownBy w' ob) (hk : ∀ k, ob = some k → ¬ scX X b aW k) : Scn w' X b aW n cW vE vV F nx hd ∧ Fr X w w' := by
  have hf : Fr (scX X b aW) w w' := ⟨hg.os, hg.tape, hg.output, hg.size, fun k hx => hg.block k (h.sl k hx) (fun e => hk k e.symm hx)⟩
  exact ⟨h.fr hf, hf.mono fun k hx => .inl hx⟩
theorem Scn.below (h : Scn w X b aW n cW vE vV F nx hd) (hb : Below w.heap.size w w') : Scn w' X b aW n cW vE vV F nx hd :=
  ⟨h.row.of_block (hb.block b h.lt), fun hp => by
    obtain ⟨g, e, h1, h2⟩ := h.wi hp
    exact ⟨g, e, h1.of_block (hb.block g h1.lt), h2⟩, h.xb, h.xg, fun k hk => Nat.lt_of_lt_of_le (h.xl k hk) hb.size, h.few, h.az⟩
theorem Scn.more (h : Scn w X b aW n cW vE vV F nx hd) {Y : Nat → Prop} (h1 : ¬ Y b) (h2 : ∀ g, aW = some ⟨g, 0, none⟩ → ¬ Y g) (h3 : ∀ k, Y k → k < w.heap.size) : Scn w Y b aW n cW vE vV F nx hd := ⟨h.row, h.wi, h1, h2, h3, h.few, h.az⟩
theorem Scn.congr (h : Scn w X b aW n cW vE vV F nx hd) {F' : Nat → WrF} {nx' : Nat → Nat} {hd' : Nat → Bool} (e : ∀ l, l < n → F l = F' l) (e1 : ∀ p, p < 4 → nx p = nx' p) (e2 : ∀ p, p < 4 → hd p = hd' p) : Scn w X b aW n cW vE vV F' nx' hd' := by
  refine ⟨h.row.congr fun i hi => ?_, fun hp => ?_, h.xb, h.xg, h.xl, h.few, h.az⟩
  · match i, hi with
    | 0, _ => rfl
    | 1, _ => rfl
    | 2, _ => rfl
    | i + 3, hi =>
      show (if i % 2 = 0 then _ else _) = (if i % 2 = 0 then _ else _)
      rw [e1 (i / 2) (by omega), e2 (i / 2) (by omega)]
  · obtain ⟨g, e3, h1, h2⟩ := h.wi hp
    exact ⟨g, e3, h1.congr e, h2⟩
theorem Scn.setW (h : Scn w X b aW n cW vE vV F nx hd) {F' : Nat → WrF} {g l j : Nat} (hg : aW = some ⟨g, 0, none⟩) (hl : l < n) (hj : j < 6) (v : Value) (hF : ∀ l', l' < n → ∀ j', j' < 6 → (F' l').cell j' = if l' = l ∧ j' = j then v else (F l').cell j') :
    Scn (w.setCell ⟨g, l * 6 + j, none⟩ v) X b aW n cW vE vV F' nx hd := by
  obtain ⟨g', e, h1, h2⟩ := h.wi (by omega)
  have eg : g' = g := by rw [hg] at e; cases e; rfl
  subst eg
  exact ⟨h.row.setOther (a := ⟨g', l * 6 + j, none⟩) h2 v, fun _ => ⟨g', e, h1.set hj v hF, h2⟩, h.xb, h.xg, fun k hk => by simpa using h.xl k hk, h.few, h.az⟩
theorem Scn.setN (h : Scn w X b aW n cW vE vV F nx hd) {p : Nat} (hp : p < 4) (x : Nat) : Scn (w.setCell ⟨b, 3 + p * 2, none⟩ (.int .i64 (x : Int))) X b aW n cW vE vV F (fun q => if q = p then x else nx q) hd := by
  refine ⟨(h.row.set (3 + p * 2) _).congr fun i hi => ?_, fun hq => ?_, h.xb, h.xg, fun k hk => by simpa using h.xl k hk, h.few, h.az⟩
  · match i, hi with
    | 0, _ => rw [if_neg (by omega)]; rfl
    | 1, _ => rw [if_neg (by omega)]; rfl
    | 2, _ => rw [if_neg (by omega)]; rfl
    | i + 3, hi =>
      show _ = if i % 2 = 0 then Value.int .i64 (((if i / 2 = p then x else nx (i / 2)) : Nat) : Int) else _
      by_cases e : i + 3 = 3 + p * 2
      · rw [if_pos e, if_pos (by omega), if_pos (by omega)]
      · rw [if_neg e]
        show (if i % 2 = 0 then _ else _) = _
        by_cases e2 : i % 2 = 0
        · rw [if_pos e2, if_pos e2, if_neg (by omega)]
        · rw [if_neg e2, if_neg e2]
  · obtain ⟨g, e, h1, h2⟩ := h.wi hq
    exact ⟨g, e, h1.of_block (heap_setCell_other w ⟨b, _, none⟩ g _ (Ne.symm h2)), h2⟩
theorem Scn.setH (h : Scn w X b aW n cW vE vV F nx hd) {p : Nat} (hp : p < 4) (x : Bool) : Scn (w.setCell ⟨b, 3 + p * 2 + 1, none⟩ (.bool x)) X b aW n cW vE vV F nx (fun q => if q = p then x else hd q) := by
  refine ⟨(h.row.set (3 + p * 2 + 1) _).congr fun i hi => ?_, fun hq => ?_, h.xb, h.xg, fun k hk => by simpa using h.xl k hk, h.few, h.az⟩
  · match i, hi with
    | 0, _ => rw [if_neg (by omega)]; rfl
    | 1, _ => rw [if_neg (by omega)]; rfl
    | 2, _ => rw [if_neg (by omega)]; rfl
    | i + 3, hi =>
      show _ = if i % 2 = 0 then _ else Value.bool (if i / 2 = p then x else hd (i / 2))
      by_cases e : i + 3 = 3 + p * 2 + 1
      · rw [if_pos e, if_neg (by omega), if_pos (by omega)]
      · rw [if_neg e]
        show (if i % 2 = 0 then _ else _) = _
        by_cases e2 : i % 2 = 0
        · rw [if_pos e2, if_pos e2]
        · rw [if_neg e2, if_neg e2, if_neg (by omega)]
  · obtain ⟨g, e, h1, h2⟩ := h.wi hq
    exact ⟨g, e, h1.of_block (heap_setCell_other w ⟨b, _, none⟩ g _ (Ne.symm h2)), h2⟩
end
def ActAt (w : World) (A : Nat) (o : OpF) : Prop := w.rowIs A 43 4 (fun i => if i = 0 then .int .i64 o.k else if i = 1 then .int .i64 o.a else if i = 2 then .int .i64 o.b else .int .i64 o.c)
theorem ActAt.cells {w : World} {A : Nat} {o : OpF} (h : ActAt w A o) : w.cell? ⟨A, 0, none⟩ = some (.int .i64 o.k) ∧ w.cell? ⟨A, 1, none⟩ = some (.int .i64 o.a) ∧ w.cell? ⟨A, 2, none⟩ = some (.int .i64 o.b) ∧ w.cell? ⟨A, 3, none⟩ = some (.int .i64 o.c) :=
  ⟨h.cell (i := 0) (by omega), h.cell (i := 1) (by omega), h.cell (i := 2) (by omega), h.cell (i := 3) (by omega)⟩
theorem ActAt.boxed (w : World) (o : OpF) : ActAt (w.alloc (.cells #[.int .i64 o.k, .int .i64 o.a, .int .i64 o.b, .int .i64 o.c] 43)) w.heap.size o :=
  World.rowIs_alloc w #[.int .i64 o.k, .int .i64 o.a, .int .i64 o.b, .int .i64 o.c] _ _ (fun i hi => by
    have : i < 4 := hi
    have : i = 0 ∨ i = 1 ∨ i = 2 ∨ i = 3 := by omega
    rcases this with rfl | rfl | rfl | rfl <;> rfl)
end Go.Proofs.Ytmndgoapkmhglab
namespace Go.Proofs.Ytmndgoapkmhglab
theorem sp_uniq {ts : List Tk} (hF : ∀ i, TkF (tkAt ts i)) : ∀ (t t' : Ast) (i : Nat), Sp ts t i → Sp ts t' i → t = t' := by
  intro t
  induction t with
  | leaf =>
    intro t' i h h'
    cases t' with
    | leaf => rfl
    | neg a => exact absurd h'.1 h.2
    | ite a b c => exact absurd h'.1 h.2
    | dly b => exact absurd h'.1 h.2
    | bin a b => exact absurd h'.1 h.2
  | neg a iha =>
    intro t' i h h'
    cases t' with
    | leaf => exact absurd h.1 h'.2
    | neg a' => rw [iha a' _ h.2.2.1 h'.2.2.1]
    | ite a' b' c' => have e := h.2.1.symm.trans h'.2.1; exact absurd e (by decide)
    | dly b' => exact absurd h.2.1 (leaf_ne2 hF (by unfold leafT; rw [h'.2.1]; rfl)).1
    | bin a' b' => exact absurd h.2.1 (sp_first hF h'.2.1).1
  | ite a b c iha ihb ihc =>
    intro t' i h h'
    cases t' with
    | leaf => exact absurd h.1 h'.2
    | neg a' => have e := h.2.1.symm.trans h'.2.1; exact absurd e (by decide)
    | ite a' b' c' =>
      have e1 := iha a' _ h.2.2.1 h'.2.2.1
      subst e1
      have e2 := ihb b' _ h.2.2.2.1 h'.2.2.2.1
      subst e2
      rw [ihc c' _ h.2.2.2.2.1 h'.2.2.2.2.1]
    | dly b' => exact absurd h.2.1 (leaf_ne2 hF (by unfold leafT; rw [h'.2.1]; rfl)).2.1
    | bin a' b' => exact absurd h.2.1 (sp_first hF h'.2.1).2
  | dly b ihb =>
    intro t' i h h'
    have hlf : leafT (tkAt ts (i + 1)) = true := by unfold leafT; rw [h.2.1]; rfl
    cases t' with
    | leaf => exact absurd h.1 h'.2
    | neg a' => exact absurd h'.2.1 (leaf_ne2 hF hlf).1
    | ite a' b' c' => exact absurd h'.2.1 (leaf_ne2 hF hlf).2.1
    | dly b' => rw [ihb b' _ h.2.2.2.1 h'.2.2.2.1]
    | bin a' b' =>
      have hs := h'.2.1
      cases a' with
      | leaf => exact absurd h.2.2.1 (op_ne h'.2.2.1).2.2.2
      | neg x => exact absurd hs.1 (leaf_ne2 hF hlf).2.2.1
      | ite x y z => exact absurd hs.1 (leaf_ne2 hF hlf).2.2.1
      | dly x => exact absurd hs.1 (leaf_ne2 hF hlf).2.2.1
      | bin x y => exact absurd hs.1 (leaf_ne2 hF hlf).2.2.1
  | bin a b iha ihb =>
    intro t' i h h'
    cases t' with
    | leaf => exact absurd h.1 h'.2
    | neg a' => exact absurd h'.2.1 (sp_first hF h.2.1).1
    | ite a' b' c' => exact absurd h'.2.1 (sp_first hF h.2.1).2
    | dly b' =>
      have hlf : leafT (tkAt ts (i + 1)) = true := by unfold leafT; rw [h'.2.1]; rfl
      have hs := h.2.1
      cases a with
      | leaf => exact absurd h'.2.2.1 (op_ne h.2.2.1).2.2.2
      | neg x => exact absurd hs.1 (leaf_ne2 hF hlf).2.2.1
      | ite x y z => exact absurd hs.1 (leaf_ne2 hF hlf).2.2.1
      | dly x => exact absurd hs.1 (leaf_ne2 hF hlf).2.2.1
      | bin x y => exact absurd hs.1 (leaf_ne2 hF hlf).2.2.1
    | bin a' b' =>
      have e1 := iha a' _ h.2.1 h'.2.1
      subst e1
      rw [ihb b' _ h.2.2.2.1 h'.2.2.2.1]
def nrm (x : Dl) : Dl := if x.kind = 0 then ⟨0, x.i, .leaf⟩ else x
theorem dl_uniq {ts : List Tk} (hF : ∀ i, TkF (tkAt ts i)) {x y : Dl} (hi : x.i = y.i) (hx : DlOk ts x) (hy : DlOk ts y) : nrm x = nrm y := by
  obtain ⟨kx, ix, tx⟩ := x
  obtain ⟨ky, iy, ty⟩ := y
  simp only at hi
  subst hi
  unfold DlOk at hx hy
  simp only at hx hy
  rcases hx with ⟨h1, h2, _⟩ | ⟨h1, _, _, _, _, hs, _⟩ <;> rcases hy with ⟨g1, g2, _⟩ | ⟨g1, _, _, _, _, gs, _⟩
  · subst h1 g1; rfl
  · rcases g1 with ⟨_, g⟩ | ⟨_, g⟩
    · have e := h2.symm.trans g; exact absurd e (by decide)
    · have e := h2.symm.trans g; exact absurd e (by decide)
  · rcases h1 with ⟨_, h⟩ | ⟨_, h⟩
    · have e := g2.symm.trans h; exact absurd e (by decide)
    · have e := g2.symm.trans h; exact absurd e (by decide)
  · have e := sp_uniq hF tx ty _ hs gs
    subst e
    rcases h1 with ⟨rfl, h⟩ | ⟨rfl, h⟩ <;> rcases g1 with ⟨rfl, g⟩ | ⟨rfl, g⟩
    · rfl
    · have e := h.symm.trans g; exact absurd e (by decide)
    · have e := h.symm.trans g; exact absurd e (by decide)
    · rfl
theorem nrm_len {x y : Dl} (h : nrm x = nrm y) : x.len = y.len := by
  unfold nrm at h
  unfold Dl.len
  by_cases hx : x.kind = 0 <;> by_cases hy : y.kind = 0
  · rw [if_pos hx, if_pos hy]
  · rw [if_pos hx, if_neg hy] at h; rw [← h] at hy; exact absurd rfl hy
  · rw [if_neg hx, if_pos hy] at h; rw [h] at hx; exact absurd rfl hx
  · rw [if_neg hx, if_neg hy] at h; rw [h]
theorem spell_uniq {ts : List Tk} (hF : ∀ i, TkF (tkAt ts i)) : ∀ (L L' : List Dl) (i : Nat), Spell ts L i → Spell ts L' i → L.map nrm = L'.map nrm := by
  have hend : ∀ {x : Dl} {i : Nat}, x.i = i → DlOk ts x → (tkAt ts i).kind = 0 → False := fun {x i} hi hx hk => by
    subst hi
    have h0 := (hF x.i).k0 hk
    unfold DlOk at hx
    rcases hx with ⟨_, h, _⟩ | ⟨⟨_, h⟩ | ⟨_, h⟩, _⟩
    all_goals
      rw [show (tkAt ts x.i).l = _ from h] at h0
      revert h0
      decide
  intro L
  induction L with
  | nil =>
    intro L' i h h'
    cases L' with
    | nil => rfl
    | cons y r => exact (hend h'.1 h'.2.2.1 h.2).elim
  | cons x r ih =>
    intro L' i h h'
    cases L' with
    | nil => exact (hend h.1 h.2.2.1 h'.2).elim
    | cons y r' =>
      obtain ⟨h1, h2, h3, h4⟩ := h
      obtain ⟨g1, g2, g3, g4⟩ := h'
      have e := dl_uniq hF (h1.trans g1.symm) h3 g3
      rw [List.map_cons, List.map_cons, e, ih r' (i + x.len) h4 (by rw [nrm_len e]; exact g4)]
theorem eqL_nrm : ∀ (L : List Dl), eqL (L.map nrm) = eqL L := by
  intro L
  induction L with
  | nil => rfl
  | cons x r ih =>
    unfold eqL at *
    rw [List.map_cons, List.filter_cons, List.filter_cons, ih]
    unfold nrm
    by_cases h : x.kind = 0
    · simp [h]
    · simp [h]
theorem inL_nrm : ∀ (L : List Dl), (inL (L.map nrm)).map Dl.i = (inL L).map Dl.i := by
  intro L
  induction L with
  | nil => rfl
  | cons x r ih =>
    unfold inL at *
    rw [List.map_cons, List.filter_cons, List.filter_cons]
    unfold nrm at *
    by_cases h : x.kind = 0
    · simp [h, ih]
    · simp [h, ih]
theorem spell_same {ts : List Tk} (hF : ∀ i, TkF (tkAt ts i)) {L L' : List Dl} {i : Nat} (h : Spell ts L i) (h' : Spell ts L' i) : eqL L = eqL L' ∧ (inL L).map Dl.i = (inL L').map Dl.i := by
  have e := spell_uniq hF L L' i h h'
  exact ⟨by rw [← eqL_nrm L, e, eqL_nrm], by rw [← inL_nrm L, e, inL_nrm]⟩
theorem ix_nm (ts : List Tk) {l : List Dl} {w : List UInt8} : l.findIdx? (nmIs ts w) = (l.map (nameD ts)).findIdx? (fun b => b.data.toList == w) := by
  rw [List.findIdx?_map]; rfl
theorem sol_same {ts : List Tk} {L L' : List Dl} (he : eqL L = eqL L') (hi : (inL L).map Dl.i = (inL L').map Dl.i) (ins : List (List Int)) : sol ts L ins = sol ts L' ins := by
  have hV : ∀ R w n, valV ts L ins R w n = valV ts L' ins R w n := fun R w n => by
    unfold valV
    have e1 : inIx ts L w = inIx ts L' w := by
      unfold inIx
      rw [ix_nm, ix_nm]
      congr 1
      have e : ∀ l : List Dl, l.map (nameD ts) = (l.map Dl.i).map fun k => (tkAt ts (k + 1)).text := fun l => by rw [List.map_map]; rfl
      rw [e, e, hi]
    have e2 : eqIx ts L w = eqIx ts L' w := by unfold eqIx; rw [he]
    rw [e1, e2]
  have key : ∀ f j n, solF ts L ins f j n = solF ts L' ins f j n := by
    intro f
    induction f with
    | zero => intro j n; rfl
    | succ f ih =>
      intro j n
      have e : solF ts L ins f = solF ts L' ins f := by funext j n; exact ih j n
      simp only [solF, he]
      have : valV ts L ins (solF ts L ins f) = valV ts L' ins (solF ts L' ins f) := by funext w n; rw [hV, e]
      rw [this]
  funext j n
  unfold sol
  rw [he]
  exact key _ j n
end Go.Proofs.Ytmndgoapkmhglab
namespace Go.Proofs.Ytmndgoapkmhglab
open Go.RowKit
attribute [local go_sem ↓] Go.wp_at_zero Go.wp_at_succ

end Go.Proofs.Ytmndgoapkmhglab
