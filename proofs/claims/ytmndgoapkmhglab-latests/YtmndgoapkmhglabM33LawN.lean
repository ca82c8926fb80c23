import Derived.Test.YtmndgoapkmhglabM00Base
import Derived.Test.YtmndgoapkmhglabM15JudA
import Derived.Test.YtmndgoapkmhglabM30AstN
/- Plain mathematics: a circle-free relation has ranks. -/
namespace Go.Proofs.Ytmndgoapkmhglab

theorem warsh_up (M : Mx) (i j : Nat) (h : M i j = true) : ∀ n, warsh M n i j = true := by
  intro n
  induction n with
  | zero => exact h
  | succ n ih => show phase (warsh M n) n i j = true; unfold phase; rw [ih]; rfl

theorem warsh_trans (M : Mx) : ∀ n k i j, k < n → warsh M n i k = true → warsh M n k j = true → warsh M n i j = true := by
  intro n
  induction n with
  | zero => intro k i j h; omega
  | succ n ih =>
    intro k i j hk h1 h2
    change phase (warsh M n) n i k = true at h1
    change phase (warsh M n) n k j = true at h2
    show phase (warsh M n) n i j = true
    unfold phase at *
    simp only [Bool.or_eq_true, Bool.and_eq_true] at *
    by_cases e : k = n
    · subst e
      have a1 : warsh M k i k = true := h1.elim id And.left
      have a2 : warsh M k k j = true := h2.elim id And.right
      exact .inr ⟨a1, a2⟩
    · have hk' : k < n := by omega
      rcases h1 with a | ⟨a1, a2⟩ <;> rcases h2 with b | ⟨b1, b2⟩
      · exact .inl (ih k i j hk' a b)
      · exact .inr ⟨ih k i n hk' a b1, b2⟩
      · exact .inr ⟨a1, ih k n j hk' a2 b⟩
      · exact .inr ⟨a1, b2⟩

theorem filter_lt {p q : Nat → Bool} : ∀ (l : List Nat), (∀ x ∈ l, p x = true → q x = true) → (∃ x ∈ l, q x = true ∧ p x = false) → (l.filter p).length < (l.filter q).length := by
  have le : ∀ (l : List Nat), (∀ x ∈ l, p x = true → q x = true) → (l.filter p).length ≤ (l.filter q).length := by
    intro l
    induction l with
    | nil => intro _; exact Nat.le_refl _
    | cons a r ih =>
      intro h
      have ih' := ih fun x hx => h x (List.mem_cons_of_mem _ hx)
      have ha := h a (by simp)
      simp only [List.filter_cons]
      cases hp : p a <;> cases hq : q a
      · simpa using ih'
      · simp; omega
      · rw [ha hp] at hq; cases hq
      · simp; omega
  intro l
  induction l with
  | nil => rintro _ ⟨x, hx, _⟩; simp at hx
  | cons a r ih =>
    rintro h ⟨x, hx, hqx, hpx⟩
    have h' := fun x hx => h x (List.mem_cons_of_mem a hx)
    have ha := h a (by simp)
    have hle := le r h'
    simp only [List.filter_cons]
    rcases List.mem_cons.1 hx with rfl | hx
    · rw [hqx, hpx]; simp; omega
    · have := ih h' ⟨x, hx, hqx, hpx⟩
      cases hp : p a <;> cases hq : q a
      · simpa using this
      · simp; omega
      · rw [ha hp] at hq; cases hq
      · simp; omega

/-- how many it leads to. -/
def rankM (M : Mx) (m i : Nat) : Nat := ((List.range m).filter (warsh M m i)).length

theorem rank_lt {M : Mx} {m i : Nat} (hc : warsh M m i i = false) (hi : i < m) : rankM M m i < m := by
  have h := filter_lt (p := warsh M m i) (q := fun _ => true) (List.range m) (fun _ _ _ => rfl) ⟨i, by simpa using hi, rfl, hc⟩
  have e : ((List.range m).filter fun _ => true).length = m := by rw [List.filter_eq_self.2 (fun _ _ => rfl), List.length_range]
  unfold rankM
  omega

theorem rank_less {M : Mx} {m i j : Nat} (hj : j < m) (hc : warsh M m j j = false) (h : M i j = true) : rankM M m j < rankM M m i := by
  have hij := warsh_up M i j h m
  exact filter_lt (List.range m) (fun x _ hx => warsh_trans M m j i x hj hij hx) ⟨j, by simpa using hj, hij, hc⟩

theorem firstC_none {ts : List Tk} {W : Mx} : ∀ (l : List Dl) (i : Nat), firstC ts W i l = none → ∀ k, k < l.length → W (i + k) (i + k) = false := by
  intro l
  induction l with
  | nil => intro i _ k hk; simp at hk
  | cons x r ih =>
    intro i h k hk
    unfold firstC at h
    cases hw : W i i with
    | true => rw [if_pos hw] at h; cases h
    | false =>
      rw [if_neg (by rw [hw]; decide)] at h
      cases k with
      | zero => exact hw
      | succ k => have := ih (i + 1) h k (by simpa using hk); rwa [show i + 1 + k = i + (k + 1) by omega] at this

/-- the rank of an equation of a text without a circle. -/
def rk (ts : List Tk) (L : List Dl) (i : Nat) : Nat := rankM (relR ts L) (eqL L).length i
theorem rk_lt {ts : List Tk} {L : List Dl} (h : cycR ts L = none) {i : Nat} (hi : i < (eqL L).length) : rk ts L i < (eqL L).length :=
  rank_lt (by have := firstC_none _ _ h i hi; rwa [Nat.zero_add] at this) hi
theorem rk_less {ts : List Tk} {L : List Dl} (h : cycR ts L = none) {i j : Nat} (hj : j < (eqL L).length) (hr : relR ts L i j = true) : rk ts L j < rk ts L i :=
  rank_less hj (by have := firstC_none _ _ h j hj; rwa [Nat.zero_add] at this) hr

end Go.Proofs.Ytmndgoapkmhglab

/- Plain mathematics: the streams of a text without a circle. -/
namespace Go.Proofs.Ytmndgoapkmhglab

def w64 (x : Int) : Int := Go.RowKit.wrap64 x
def b2i (b : Bool) : Int := if b then 1 else 0
/-- an operator. -/
def apF (o : List UInt8) (a b : Int) : Int :=
  if o = [43] then w64 (a + b) else if o = [45] then w64 (a - b) else if o = [42] then w64 (a * b)
  else if o = [47] then (if b = 0 then 0 else w64 (a.tdiv b)) else if o = [60] then b2i (decide (a < b)) else if o = [61] then b2i (decide (a = b))
  else if o = [38] then b2i (decide (a = 1) && decide (b = 1)) else b2i (decide (a = 1) || decide (b = 1))
def litV (t : Tk) : Int := if t.kind = 3 then (valOf t.l : Int) else b2i (decide (t.l = kTrue))

/-- the value of an expression at token i at the instant n, by the values of names. -/
def evT (ts : List Tk) (V : List UInt8 → Nat → Int) : Ast → Nat → Nat → Int
  | .leaf, i, n => if (tkAt ts i).kind = 1 then V (lAt ts i) n else litV (tkAt ts i)
  | .neg a, i, n => w64 (1 - evT ts V a (i + 2) n)
  | .ite a b c, i, n => if evT ts V a (i + 2) n = 1 then evT ts V b (i + 2 + a.len) n else evT ts V c (i + 2 + a.len + b.len) n
  | .dly _, i, 0 => litV (tkAt ts (i + 1))
  | .dly b, i, n + 1 => evT ts V b (i + 3) n
  | .bin a b, i, n => apF (lAt ts (i + 1 + a.len)) (evT ts V a (i + 1) n) (evT ts V b (i + 2 + a.len) n)

/-- where the names of an expression stand that are not behind a delay. -/
def und (ts : List Tk) : Ast → Nat → List Nat
  | .leaf, i => if (tkAt ts i).kind = 1 then [i] else []
  | .neg a, i => und ts a (i + 2)
  | .ite a b c, i => und ts a (i + 2) ++ (und ts b (i + 2 + a.len) ++ und ts c (i + 2 + a.len + b.len))
  | .dly _, _ => []
  | .bin a b, i => und ts a (i + 1) ++ und ts b (i + 2 + a.len)
/-- where its names stand. -/
def nms (ts : List Tk) : Ast → Nat → List Nat
  | .leaf, i => if (tkAt ts i).kind = 1 then [i] else []
  | .neg a, i => nms ts a (i + 2)
  | .ite a b c, i => nms ts a (i + 2) ++ (nms ts b (i + 2 + a.len) ++ nms ts c (i + 2 + a.len + b.len))
  | .dly b, i => nms ts b (i + 3)
  | .bin a b, i => nms ts a (i + 1) ++ nms ts b (i + 2 + a.len)

theorem und_nms (ts : List Tk) : ∀ (t : Ast) (i : Nat), ∀ j ∈ und ts t i, j ∈ nms ts t i := by
  intro t
  induction t with
  | leaf => intro i j h; exact h
  | neg a iha => intro i j h; exact iha _ j h
  | ite a b c iha ihb ihc =>
    intro i j h
    simp only [und, nms, List.mem_append] at *
    exact h.imp (iha _ j) (Or.imp (ihb _ j) (ihc _ j))
  | dly b ihb => intro i j h; simp [und] at h
  | bin a b iha ihb =>
    intro i j h
    simp only [und, nms, List.mem_append] at *
    exact h.imp (iha _ j) (ihb _ j)

theorem nms_nmD (ts : List Tk) : ∀ (t : Ast) (i : Nat) (dl : Bool), nms ts t i = (nmD ts t i dl).map Prod.fst := by
  intro t
  induction t with
  | leaf => intro i dl; simp only [nms, nmD]; split <;> rfl
  | neg a iha => intro i dl; exact iha _ dl
  | ite a b c iha ihb ihc => intro i dl; simp only [nms, nmD, List.map_append]; rw [iha _ dl, ihb _ dl, ihc _ dl]
  | dly b ihb => intro i dl; exact ihb _ true
  | bin a b iha ihb => intro i dl; simp only [nms, nmD, List.map_append]; rw [iha _ dl, ihb _ dl]

theorem und_nmD (ts : List Tk) : ∀ (t : Ast) (i : Nat), ∀ j ∈ und ts t i, (j, false) ∈ nmD ts t i false := by
  intro t
  induction t with
  | leaf => intro i j h; simp only [und, nmD] at *; split at h <;> simp_all
  | neg a iha => intro i j h; exact iha _ j h
  | ite a b c iha ihb ihc =>
    intro i j h
    simp only [und, nmD, List.mem_append] at *
    exact h.imp (iha _ j) (Or.imp (ihb _ j) (ihc _ j))
  | dly b ihb => intro i j h; simp [und] at h
  | bin a b iha ihb =>
    intro i j h
    simp only [und, nmD, List.mem_append] at *
    exact h.imp (iha _ j) (ihb _ j)

/-- the value hangs on the names alone: on those behind a delay at earlier instants. -/
theorem evT_congr (ts : List Tk) {V V' : List UInt8 → Nat → Int} : ∀ (t : Ast) (i n : Nat), (∀ j ∈ und ts t i, V (lAt ts j) n = V' (lAt ts j) n) → (∀ w n', n' < n → V w n' = V' w n') → evT ts V t i n = evT ts V' t i n := by
  intro t
  induction t with
  | leaf =>
    intro i n h _
    unfold evT
    by_cases hk : (tkAt ts i).kind = 1
    · rw [if_pos hk, if_pos hk]; exact h i (by unfold und; rw [if_pos hk]; simp)
    · rw [if_neg hk, if_neg hk]
  | neg a iha => intro i n h h2; simp only [evT]; rw [iha _ n h h2]
  | ite a b c iha ihb ihc =>
    intro i n h h2
    simp only [und, List.mem_append] at h
    simp only [evT]
    rw [iha _ n (fun j hj => h j (.inl hj)) h2, ihb _ n (fun j hj => h j (.inr (.inl hj))) h2, ihc _ n (fun j hj => h j (.inr (.inr hj))) h2]
  | dly b ihb =>
    intro i n h h2
    cases n with
    | zero => rfl
    | succ n => simp only [evT]; exact ihb _ n (fun j _ => h2 _ n (by omega)) (fun w n' hn => h2 w n' (by omega))
  | bin a b iha ihb =>
    intro i n h h2
    simp only [und, List.mem_append] at h
    simp only [evT]
    rw [iha _ n (fun j hj => h j (.inl hj)) h2, ihb _ n (fun j hj => h j (.inr hj)) h2]

/-- the same, as far as it is known. -/
def evR (ts : List Tk) (V : List UInt8 → Nat → Int × Bool) : Ast → Nat → Nat → Int × Bool
  | .leaf, i, n => if (tkAt ts i).kind = 1 then V (lAt ts i) n else (litV (tkAt ts i), true)
  | .neg a, i, n => (w64 (1 - (evR ts V a (i + 2) n).1), (evR ts V a (i + 2) n).2)
  | .ite a b c, i, n => (if (evR ts V a (i + 2) n).1 = 1 then (evR ts V b (i + 2 + a.len) n).1 else (evR ts V c (i + 2 + a.len + b.len) n).1, (evR ts V a (i + 2) n).2 && ((evR ts V b (i + 2 + a.len) n).2 && (evR ts V c (i + 2 + a.len + b.len) n).2))
  | .dly _, i, 0 => (litV (tkAt ts (i + 1)), true)
  | .dly b, i, n + 1 => evR ts V b (i + 3) n
  | .bin a b, i, n => (apF (lAt ts (i + 1 + a.len)) (evR ts V a (i + 1) n).1 (evR ts V b (i + 2 + a.len) n).1, (evR ts V a (i + 1) n).2 && (evR ts V b (i + 2 + a.len) n).2)

theorem evR_val (ts : List Tk) {V : List UInt8 → Nat → Int × Bool} {U : List UInt8 → Nat → Int} : ∀ (t : Ast) (i n : Nat), (∀ w n', n' ≤ n → (V w n').2 = true → (V w n').1 = U w n') → (evR ts V t i n).2 = true → (evR ts V t i n).1 = evT ts U t i n := by
  intro t
  induction t with
  | leaf =>
    intro i n h hk
    unfold evR evT at *
    split at hk
    · rename_i h1; rw [if_pos h1, if_pos h1]; exact h _ n (Nat.le_refl _) hk
    · rename_i h1; rw [if_neg h1, if_neg h1]
  | neg a iha => intro i n h hk; simp only [evR, evT] at *; rw [iha _ n h hk]
  | ite a b c iha ihb ihc =>
    intro i n h hk
    simp only [evR, evT, Bool.and_eq_true] at *
    rw [iha _ n h hk.1, ihb _ n h hk.2.1, ihc _ n h hk.2.2]
  | dly b ihb =>
    intro i n h hk
    cases n with
    | zero => rfl
    | succ n => simp only [evR, evT] at *; exact ihb _ n (fun w n' hn => h w n' (by omega)) hk
  | bin a b iha ihb =>
    intro i n h hk
    simp only [evR, evT, Bool.and_eq_true] at *
    rw [iha _ n h hk.1, ihb _ n h hk.2]

theorem evR_known (ts : List Tk) {V : List UInt8 → Nat → Int × Bool} : ∀ (t : Ast) (i n : Nat), (∀ j ∈ und ts t i, (V (lAt ts j) n).2 = true) → (∀ j ∈ nms ts t i, ∀ n', n' < n → (V (lAt ts j) n').2 = true) → (evR ts V t i n).2 = true := by
  intro t
  induction t with
  | leaf =>
    intro i n h _
    unfold evR
    by_cases hk : (tkAt ts i).kind = 1
    · rw [if_pos hk]; exact h i (by unfold und; rw [if_pos hk]; simp)
    · rw [if_neg hk]
  | neg a iha => intro i n h h2; simp only [evR]; exact iha _ n h h2
  | ite a b c iha ihb ihc =>
    intro i n h h2
    simp only [und, nms, List.mem_append] at h h2
    simp only [evR, Bool.and_eq_true]
    exact ⟨iha _ n (fun j hj => h j (.inl hj)) (fun j hj => h2 j (.inl hj)), ihb _ n (fun j hj => h j (.inr (.inl hj))) (fun j hj => h2 j (.inr (.inl hj))), ihc _ n (fun j hj => h j (.inr (.inr hj))) (fun j hj => h2 j (.inr (.inr hj)))⟩
  | dly b ihb =>
    intro i n h h2
    cases n with
    | zero => rfl
    | succ n => simp only [evR]; exact ihb _ n (fun j hj => h2 j (und_nms ts b _ j hj) n (by omega)) (fun j hj n' hn => h2 j hj n' (by omega))
  | bin a b iha ihb =>
    intro i n h h2
    simp only [und, nms, List.mem_append] at h h2
    simp only [evR, Bool.and_eq_true]
    exact ⟨iha _ n (fun j hj => h j (.inl hj)) (fun j hj => h2 j (.inl hj)), ihb _ n (fun j hj => h j (.inr hj)) (fun j hj => h2 j (.inr hj))⟩

def nmIs (ts : List Tk) (w : List UInt8) (x : Dl) : Bool := (nameD ts x).data.toList == w
def inIx (ts : List Tk) (L : List Dl) (w : List UInt8) : Option Nat := (inL L).findIdx? (nmIs ts w)
def eqIx (ts : List Tk) (L : List Dl) (w : List UInt8) : Option Nat := (eqL L).findIdx? (nmIs ts w)
def elemF (ins : List (List Int)) (i k : Nat) : Int := (ins.getD i []).getD k 0
/-- the value of a name, by the rows of the equations. -/
def valV (ts : List Tk) (L : List Dl) (ins : List (List Int)) (R : Nat → Nat → Int) (w : List UInt8) (n : Nat) : Int :=
  match inIx ts L w with
  | some i => elemF ins i n
  | none => match eqIx ts L w with
    | some j => R j n
    | none => 0
def bodyV (ts : List Tk) (E : List Dl) (V : List UInt8 → Nat → Int) (j n : Nat) : Int :=
  match E[j]? with
  | some x => evT ts V x.t (x.i + 5) n
  | none => 0
def solF (ts : List Tk) (L : List Dl) (ins : List (List Int)) : Nat → Nat → Nat → Int
  | 0, _, _ => 0
  | f + 1, j, n => bodyV ts (eqL L) (valV ts L ins (solF ts L ins f)) j n
/-- THE STREAMS: the value of equation j at the instant n. -/
def sol (ts : List Tk) (L : List Dl) (ins : List (List Int)) (j n : Nat) : Int := solF ts L ins (n * ((eqL L).length + 1) + (eqL L).length + 1) j n

theorem valV_congr {ts : List Tk} {L : List Dl} {ins : List (List Int)} {R R' : Nat → Nat → Int} {w : List UInt8} {n : Nat} (h : ∀ j, eqIx ts L w = some j → R j n = R' j n) : valV ts L ins R w n = valV ts L ins R' w n := by
  unfold valV
  cases inIx ts L w with
  | some i => rfl
  | none =>
    cases he : eqIx ts L w with
    | none => rfl
    | some j => exact h j he

theorem eqIx_some {ts : List Tk} {L : List Dl} {w : List UInt8} {j : Nat} (h : eqIx ts L w = some j) : ∃ x, (eqL L)[j]? = some x ∧ (nameD ts x).data.toList = w := by
  obtain ⟨hj, hp, _⟩ := List.findIdx?_eq_some_iff_getElem.1 h
  exact ⟨(eqL L)[j], List.getElem?_eq_getElem hj, by simpa [nmIs] using hp⟩

theorem rel_und {ts : List Tk} (hF : ∀ i, TkF (tkAt ts i)) {L : List Dl} {i l j : Nat} {x : Dl} (hx : (eqL L)[i]? = some x) (hs : Sp ts x.t (x.i + 5)) (hl : x.i + 5 + x.t.len ≤ ts.length) (hj : j ∈ und ts x.t (x.i + 5)) (he : eqIx ts L (lAt ts j) = some l) : relR ts L i l = true := by
  obtain ⟨z, hz, hn⟩ := eqIx_some he
  unfold relR
  rw [hx, hz]
  show hangsR ts x (nameD ts z).data.toList = true
  rw [hangs_nm hF x hs hl, List.any_eq_true]
  exact ⟨(j, false), und_nmD ts _ _ j hj, by simp [hn]⟩

/-- what is known of the text's equations. -/
structure Eqs (ts : List Tk) (L : List Dl) : Prop where
  F : ∀ i, TkF (tkAt ts i)
  sp : ∀ x ∈ eqL L, Sp ts x.t (x.i + 5) ∧ x.i + 5 + x.t.len ≤ ts.length
  cyc : cycR ts L = none

section
variable {ts : List Tk} {L : List Dl} {ins : List (List Int)} (H : Eqs ts L)
include H

theorem sol_stable : ∀ m f f' j n, j < (eqL L).length → n * ((eqL L).length + 1) + rk ts L j ≤ m → m < f → m < f' → solF ts L ins f j n = solF ts L ins f' j n := by
  intro m
  induction m using Nat.strongRecOn with
  | ind m ih =>
    intro f f' j n hj hm hf hf'
    obtain ⟨f, rfl⟩ : ∃ g, f = g + 1 := ⟨f - 1, by omega⟩
    obtain ⟨f', rfl⟩ : ∃ g, f' = g + 1 := ⟨f' - 1, by omega⟩
    have hx : (eqL L)[j]? = some (eqL L)[j] := List.getElem?_eq_getElem hj
    obtain ⟨hs, hl⟩ := H.sp (eqL L)[j] (List.getElem_mem hj)
    simp only [solF, bodyV, hx]
    refine evT_congr ts _ _ _ (fun k hk => valV_congr fun l hl' => ?_) (fun w n' hn => valV_congr fun l hl' => ?_)
    · have hr := rel_und H.F hx hs hl hk hl'
      obtain ⟨z, hz, _⟩ := eqIx_some hl'
      have hlt : l < (eqL L).length := (List.getElem?_eq_some_iff.1 hz).1
      have hrk := rk_less H.cyc hlt hr
      exact ih (n * ((eqL L).length + 1) + rk ts L l) (by omega) f f' l n hlt (Nat.le_refl _) (by omega) (by omega)
    · obtain ⟨z, hz, _⟩ := eqIx_some hl'
      have hlt : l < (eqL L).length := (List.getElem?_eq_some_iff.1 hz).1
      have hrk := rk_lt H.cyc hlt
      have hmul : (n' + 1) * ((eqL L).length + 1) ≤ n * ((eqL L).length + 1) := Nat.mul_le_mul_right _ (by omega)
      rw [Nat.succ_mul] at hmul
      exact ih (n' * ((eqL L).length + 1) + rk ts L l) (by omega) f f' l n' hlt (Nat.le_refl _) (by omega) (by omega)

/-- the streams keep to their equations. -/
theorem sol_eq (j n : Nat) (hj : j < (eqL L).length) : sol ts L ins j n = evT ts (valV ts L ins (sol ts L ins)) (eqL L)[j].t ((eqL L)[j].i + 5) n := by
  have hx : (eqL L)[j]? = some (eqL L)[j] := List.getElem?_eq_getElem hj
  obtain ⟨hs, hl⟩ := H.sp (eqL L)[j] (List.getElem_mem hj)
  have hjr := rk_lt H.cyc hj
  show bodyV ts (eqL L) (valV ts L ins (solF ts L ins (n * ((eqL L).length + 1) + (eqL L).length))) j n = _
  simp only [bodyV, hx]
  refine evT_congr ts _ _ _ (fun k hk => valV_congr fun l hl' => ?_) (fun w n' hn => valV_congr fun l hl' => ?_)
  · have hr := rel_und H.F hx hs hl hk hl'
    obtain ⟨z, hz, _⟩ := eqIx_some hl'
    have hlt : l < (eqL L).length := (List.getElem?_eq_some_iff.1 hz).1
    have hrk := rk_less H.cyc hlt hr
    exact sol_stable H (n * ((eqL L).length + 1) + rk ts L l) _ _ l n hlt (Nat.le_refl _) (by omega) (by omega)
  · obtain ⟨z, hz, _⟩ := eqIx_some hl'
    have hlt : l < (eqL L).length := (List.getElem?_eq_some_iff.1 hz).1
    have hrk := rk_lt H.cyc hlt
    have hmul : (n' + 1) * ((eqL L).length + 1) ≤ n * ((eqL L).length + 1) := Nat.mul_le_mul_right _ (by omega)
    rw [Nat.succ_mul] at hmul
    exact sol_stable H (n' * ((eqL L).length + 1) + rk ts L l) _ _ l n' hlt (Nat.le_refl _) (by omega) (by omega)

end
end Go.Proofs.Ytmndgoapkmhglab

/- Plain mathematics: the machine. -/
namespace Go.Proofs.Ytmndgoapkmhglab

/-- an operation. -/
structure OpF where
  k : Int
  a : Int
  b : Int
  c : Int
/-- code. -/
structure CdF where
  ops : List OpF
  cells : List Int
  next : List Int
  out : List Int

/-- entry i of a list; 0 if there is none. -/
def atF (l : List Int) (i : Int) : Int := if i < 0 then 0 else l.getD i.toNat 0
/-- how many registers an operation reads. -/
def readsF (k : Int) : Nat := if k < 5 then 0 else if k = 13 then 1 else if k = 14 then 3 else 2
def regOk (i : Nat) (r : Int) : Bool := decide (0 ≤ r) && decide (r < (i : Int))
def opArgs (o : OpF) : List Int := [o.a, o.b, o.c]
/-- may operation i be this one? -/
def opOk (nc i : Nat) (o : OpF) : Bool :=
  decide (0 ≤ o.k) && decide (o.k ≤ 14) && (decide (o.k ≠ 3) || regOk nc o.a) && ((opArgs o).take (readsF o.k)).all (regOk i)
def opsOk (nc : Nat) : Nat → List OpF → Bool
  | _, [] => true
  | i, o :: r => opOk nc i o && opsOk nc (i + 1) r
/-- is code well formed? -/
def formedF (c : CdF) : Bool :=
  decide (c.ops.length ≤ 1500) && decide (c.next.length ≤ 1500) && decide (c.out.length ≤ 1500) && decide (c.cells.length = c.next.length) && opsOk c.cells.length 0 c.ops && c.next.all (regOk c.ops.length) && c.out.all (regOk c.ops.length)

/-- what an operation lays into its register. -/
def laysF (o : OpF) (n : Int) (regs cells ins links : List Int) : Int :=
  if o.k = 0 then o.a else if o.k = 1 then atF ins o.a else if o.k = 2 then atF links o.a else if o.k = 3 then atF cells o.a else if o.k = 4 then b2i (decide (n = 0))
  else if o.k = 5 then w64 (atF regs o.a + atF regs o.b) else if o.k = 6 then w64 (atF regs o.a - atF regs o.b) else if o.k = 7 then w64 (atF regs o.a * atF regs o.b)
  else if o.k = 8 then apF [47] (atF regs o.a) (atF regs o.b) else if o.k = 9 then b2i (decide (atF regs o.a < atF regs o.b)) else if o.k = 10 then b2i (decide (atF regs o.a = atF regs o.b))
  else if o.k = 11 then b2i (decide (atF regs o.a ≠ 0) && decide (atF regs o.b ≠ 0)) else if o.k = 12 then b2i (decide (atF regs o.a ≠ 0) || decide (atF regs o.b ≠ 0))
  else if o.k = 13 then b2i (decide (atF regs o.a = 0)) else if atF regs o.a = 0 then atF regs o.c else atF regs o.b
/-- the registers behind operations. -/
def regsF (n : Int) (cells ins links : List Int) (regs : List Int) : List OpF → List Int
  | [] => regs
  | o :: r => regsF n cells ins links (regs ++ [laysF o n regs cells ins links]) r

theorem regsF_snoc (n : Int) (cells ins links : List Int) : ∀ (l : List OpF) (regs : List Int) (o : OpF), regsF n cells ins links regs (l ++ [o]) = regsF n cells ins links regs l ++ [laysF o n (regsF n cells ins links regs l) cells ins links] := by
  intro l
  induction l with
  | nil => intro regs o; rfl
  | cons a r ih => intro regs o; exact ih _ o
theorem regsF_len (n : Int) (cells ins links : List Int) : ∀ (l : List OpF) (regs : List Int), (regsF n cells ins links regs l).length = regs.length + l.length := by
  intro l
  induction l with
  | nil => intro regs; rfl
  | cons a r ih => intro regs; show (regsF _ _ _ _ _ r).length = _; rw [ih]; simp; omega

/-- the machine: an error, or what comes out and the cells' next. -/
def execF (c : CdF) (n : Int) (cells ins links : List Int) : Nat × List Int × List Int :=
  if formedF c = false then (9, [], []) else if n < 0 ∨ cells.length ≠ c.cells.length then (10, [], [])
  else (0, c.out.map (atF (regsF n cells ins links [] c.ops)), c.next.map (atF (regsF n cells ins links [] c.ops)))

end Go.Proofs.Ytmndgoapkmhglab

/- Plain mathematics: a right text, by both readers. -/
namespace Go.Proofs.Ytmndgoapkmhglab

/-- the text's answer, and its parts. -/
theorem text_read (s : ByteArray) (hs : s.size ≤ 1500) :
    (∃ k, k < (toks s).length ∧ textF s = (2, (tkAt (toks s) k).pos) ∧ ∃ n, Ans (toks s) n [80] 0 0 ((tkAt (toks s) k).pos : Int)) ∨
    (∃ L, Spell (toks s) L 0 ∧ (∃ n, Ans (toks s) n [80] 0 0 (-1)) ∧ textF s = readR (toks s) L ∧ ∃ p, parseF s = .ok p ∧ p.decls = declsD (toks s) L 0 0 0 ∧ p.nodes = nodesD (toks s) L 0) := by
  obtain ⟨hok, hbad⟩ := parseA s hs
  unfold textF
  rw [if_neg (by omega)]
  cases hp : parseF s with
  | error k =>
    obtain ⟨h1, h2⟩ := hbad k hp
    exact .inl ⟨k, h1, rfl, h2⟩
  | ok p =>
    obtain ⟨L, h1, h2, h3, h4⟩ := hok p hp
    refine .inr ⟨L, h1, h4, ?_, p, rfl, h2, h3⟩
    show meaningF p.decls (boundN p) = _
    unfold boundN
    rw [h2, h3]
    exact meaning_ref (toks_F s) (toks_pos s) (toks_end s) L h1 (toks_ok s hs).pos

/-- a right text: its parts, and that nothing is wrong with them. -/
structure RGood (s : ByteArray) (L : List Dl) : Prop where
  many : manyR (toks s) L = none
  names : namesR (toks s) L = none
  types : typesR (toks s) L = none
  cyc : cycR (toks s) L = none
  lp : lpR (toks s) L = none
  sp : Spell (toks s) L 0
  parse : ∃ p, parseF s = .ok p ∧ p.decls = declsD (toks s) L 0 0 0 ∧ p.nodes = nodesD (toks s) L 0

theorem spell_lt {ts : List Tk} : ∀ (L : List Dl) (i : Nat), Spell ts L i → L.Pairwise (fun x y => x.i + x.len ≤ y.i) := by
  intro L
  induction L with
  | nil => intro i _; exact List.Pairwise.nil
  | cons x r ih =>
    intro i h
    obtain ⟨_, h2, _, _, _, h6⟩ := spell_mid (L2 := r) [] i h
    exact List.Pairwise.cons h2 (ih _ h6)

end Go.Proofs.Ytmndgoapkmhglab

/- Plain mathematics: scripts. An act is four numbers: its place k, its time a, its delays b and c. -/
namespace Go.Proofs.Ytmndgoapkmhglab
open Go.RowKit

/-- act i of a script. -/
def actF (sc : List OpF) (i : Nat) : OpF := (sc[i]?).getD ⟨0, 0, 0, 0⟩
theorem actF_get {sc : List OpF} {i : Nat} (h : i < sc.length) : sc[i] = actF sc i := by simp [actF, h]
/-- the next act of the same place from act k on, or -1. -/
def laterG (sc : List OpF) (i : Nat) : Nat → Nat → Int
  | 0, _ => -1
  | f + 1, k => if (actF sc k).k = (actF sc i).k then (k : Int) else laterG sc i f (k + 1)
def laterF (sc : List OpF) (i : Nat) : Int := laterG sc i (sc.length - (i + 1)) (i + 1)
/-- is none of the first k acts of the same place? -/
def firstG (sc : List OpF) (i k : Nat) : Bool := (List.range k).all fun k => (actF sc k).k != (actF sc i).k
def firstF (sc : List OpF) (i : Nat) : Bool := firstG sc i i
theorem later_step {sc : List OpF} {i k : Nat} (h : k < sc.length) : laterG sc i (sc.length - k) k = if (actF sc k).k = (actF sc i).k then (k : Int) else laterG sc i (sc.length - (k + 1)) (k + 1) := by
  rw [show sc.length - k = (sc.length - (k + 1)) + 1 by omega]
  rfl
theorem all_step {m : Nat} {p : Nat → Bool} (h : (List.range m).all p = true) (hp : p m = true) : (List.range (m + 1)).all p = true := by
  rw [List.range_succ, List.all_append, h, List.all_cons, hp]; rfl
theorem all_fail {m n : Nat} {p : Nat → Bool} (hm : m < n) (hp : p m = false) : (List.range n).all p = false := by
  rw [List.all_eq_false]
  exact ⟨m, List.mem_range.2 hm, by rw [hp]; simp⟩

theorem later_range (sc : List OpF) (i : Nat) : ∀ (f k : Nat), i < k → k + f = sc.length → laterG sc i f k = -1 ∨ ∃ j : Nat, laterG sc i f k = (j : Int) ∧ i < j ∧ j < sc.length := by
  intro f
  induction f with
  | zero => intro k _ _; exact .inl rfl
  | succ f ih =>
    intro k hk hl
    unfold laterG
    split
    · exact .inr ⟨k, rfl, hk, by omega⟩
    · exact ih (k + 1) (by omega) (by omega)

/-- the first m equations that lie at a place, by their numbers. -/
def atG (ts : List Tk) (L : List Dl) (pl : Int) (m : Nat) : List Nat := (List.range m).filter fun i => (((eqL L)[i]?).map fun x => ((placeD ts x : Nat) : Int) == pl) == some true
def atR (ts : List Tk) (L : List Dl) (pl : Int) : List Nat := atG ts L pl (eqL L).length
theorem atG_len (ts : List Tk) (L : List Dl) (pl : Int) (m : Nat) : (atG ts L pl m).length ≤ m := by
  have := List.length_filter_le (fun i => (((eqL L)[i]?).map fun x => ((placeD ts x : Nat) : Int) == pl) == some true) (List.range m)
  rwa [List.length_range] at this
theorem atG_hit {ts : List Tk} {L : List Dl} {pl : Int} {m : Nat} (hm : m < (eqL L).length) (h : ((placeD ts ((eqL L)[m]) : Nat) : Int) = pl) : atG ts L pl (m + 1) = atG ts L pl m ++ [m] := by
  unfold atG
  rw [List.range_succ, List.filter_append]
  congr 1
  simp [hm, h]
theorem atG_miss {ts : List Tk} {L : List Dl} {pl : Int} {m : Nat} (hm : m < (eqL L).length) (h : ((placeD ts ((eqL L)[m]) : Nat) : Int) ≠ pl) : atG ts L pl (m + 1) = atG ts L pl m := by
  unfold atG
  rw [List.range_succ, List.filter_append]
  simp [hm, h]

/-- is an act ahead of the one before it? -/
def backA (sc : List OpF) : Nat → Bool
  | 0 => false
  | i + 1 => decide ((actF sc (i + 1)).a < (actF sc i).a)
/-- does a delay reach the next act of the place? -/
def overA (sc : List OpF) (i : Nat) : Bool :=
  decide (0 ≤ laterF sc i) && (decide (IntKind.i64.wrap ((actF sc (laterF sc i).toNat).a - (actF sc i).a) ≤ (actF sc i).b) || decide (IntKind.i64.wrap ((actF sc (laterF sc i).toNat).a - (actF sc i).a) ≤ (actF sc i).c))
def badA (ts : List Tk) (L : List Dl) (sc : List OpF) (i : Nat) : Bool :=
  (atR ts L (actF sc i).k).isEmpty || decide ((actF sc i).a < 0) || decide (1099511627776 < (actF sc i).a) || backA sc i || decide ((actF sc i).b < 0) || decide (1099511627776 < (actF sc i).b) || decide ((actF sc i).c < 0) || decide (1099511627776 < (actF sc i).c) || overA sc i
def playF (ts : List Tk) (L : List Dl) (sc : List OpF) : Bool := decide (sc.length ≤ 400) && (List.range sc.length).all fun i => !badA ts L sc i

/-- is there a chain of n waits that begins here? -/
def aheadF (M : Mx) : Nat → Nat → Bool
  | _, 0 => true
  | i, n + 1 => (List.range 4).any fun q => M i q && aheadF M q n

/-- the longest chain of waits, up to one of n. -/
def dUp (M : Mx) : Nat → Nat
  | 0 => 0
  | n + 1 => if (List.range 4).any (fun q => aheadF M q (n + 1)) then n + 1 else dUp M n
theorem dUp_le (M : Mx) (n : Nat) : dUp M n ≤ n := by
  induction n with
  | zero => exact Nat.le_refl _
  | succ n ih => unfold dUp; split <;> omega

/-- bounds. -/
structure BdF where
  tmin : Int
  tmax : Int
  dmin : Int
  dmax : Int
abbrev BdF.val (b : BdF) : Value := .agg #[.int .i64 b.tmin, .int .i64 b.tmax, .int .i64 b.dmin, .int .i64 b.dmax]
def fitF (b : BdF) : Bool := !decide (b.tmin < 1) && !decide (b.tmax < b.tmin) && !decide (1000000 < b.tmax) && decide (0 ≤ b.dmin) && decide (b.dmin ≤ b.dmax) && decide (b.dmax < b.tmin)


end Go.Proofs.Ytmndgoapkmhglab

/- Plain mathematics: of a right text every name is known, and known once; the passes of the document's own answer. -/
namespace Go.Proofs.Ytmndgoapkmhglab

theorem names_at {ts : List Tk} {L : List Dl} (h : namesR ts L = none) {k : Nat} (hk : k < ts.length) (hn : isNm ts k = true) : (hereR L k = true → aheadR ts L k = false) ∧ someR ts L k = true := by
  unfold namesR at h
  rw [Option.map_eq_none_iff, List.find?_eq_none] at h
  have := h k (by rw [List.mem_range'_1]; omega)
  unfold badNm qNm at this
  rw [hn] at this
  simp at this
  exact this

/-- what is known of a right text. -/
structure Right (ts : List Tk) (L : List Dl) : Prop extends Eqs ts L where
  own : ∀ x ∈ L, ∀ y ∈ L, (nameD ts x).data.toList = (nameD ts y).data.toList → x.i = y.i
  decl : ∀ k, k < ts.length → isNm ts k = true → ∃ x ∈ L, (nameD ts x).data.toList = lAt ts k
  pw : L.Pairwise (fun x y => x.i + x.len ≤ y.i)
  few : (eqL L).length ≤ 12 ∧ (inL L).length ≤ 4

theorem less_none {a b : Option Nat} (h : less a b = none) : a = none ∧ b = none := by
  cases a <;> cases b <;> simp_all [less]

theorem right_of {ts : List Tk} {L : List Dl} (hF : ∀ i, TkF (tkAt ts i)) (hs : Spell ts L 0) (hm : manyR ts L = none) (hn : namesR ts L = none) (hc : cycR ts L = none) : Right ts L := by
  have hmem := fun x hx => (spell_mem L 0 hs x hx).2
  have hnm : ∀ x ∈ L, x.i + 1 < ts.length ∧ isNm ts (x.i + 1) = true := fun x hx => by
    obtain ⟨h1, h2⟩ := hmem x hx
    have := x.len_pos
    refine ⟨by omega, ?_⟩
    unfold isNm
    rcases h2 with ⟨_, _, h, _⟩ | ⟨_, h, _⟩ <;> rw [h] <;> rfl
  have hown : ∀ x ∈ L, ∀ y ∈ L, (nameD ts x).data.toList = (nameD ts y).data.toList → ¬ x.i < y.i := fun x hx y hy he hlt => by
    obtain ⟨h1, h2⟩ := hnm y hy
    have h3 := (names_at hn h1 h2).1 (by unfold hereR; rw [List.any_eq_true]; exact ⟨y, hy, by simp⟩)
    unfold aheadR at h3
    rw [List.any_eq_false] at h3
    refine h3 x hx ?_
    simp only [Bool.and_eq_true, beq_iff_eq, decide_eq_true_eq]
    exact ⟨he, by omega⟩
  have hmany := less_none hm
  refine { F := hF, sp := fun x hx => ?_, cyc := hc, own := fun x hx y hy he => ?_, decl := fun k hk h => ?_, pw := spell_lt L 0 hs, few := ⟨?_, ?_⟩ }
  · have hm' := List.mem_filter.1 hx
    have hk : x.kind ≠ 0 := by simpa using hm'.2
    obtain ⟨h1, h2⟩ := hmem x hm'.1
    have hl : x.len = x.t.len + 6 := by unfold Dl.len; rw [if_neg hk]
    rcases h2 with ⟨h, _⟩ | ⟨_, _, _, _, _, h, _⟩
    · exact absurd h hk
    · exact ⟨h, by omega⟩
  · have a := hown x hx y hy he
    have b := hown y hy x hx he.symm
    omega
  · have h3 := (names_at hn hk h).2
    unfold someR at h3
    rw [List.any_eq_true] at h3
    obtain ⟨x, hx, he⟩ := h3
    exact ⟨x, hx, by simpa using he⟩
  · have := hmany.1
    rw [Option.map_eq_none_iff, List.getElem?_eq_none_iff] at this
    exact this
  · have := hmany.2
    rw [Option.map_eq_none_iff, List.getElem?_eq_none_iff] at this
    exact this

theorem nms_lt {ts : List Tk} (t : Ast) (i : Nat) : ∀ j ∈ nms ts t i, i ≤ j ∧ j < i + t.len := by
  intro j hj
  rw [nms_nmD ts t i false] at hj
  obtain ⟨x, hx, rfl⟩ := List.mem_map.1 hj
  exact nm_in t i false x hx

theorem nms_nm {ts : List Tk} : ∀ (t : Ast) (i : Nat), ∀ j ∈ nms ts t i, isNm ts j = true := by
  intro t
  induction t with
  | leaf =>
    intro i j h
    unfold nms at h
    split at h
    · rename_i hk; simp at h; rw [h]; unfold isNm; rw [hk]; rfl
    · simp at h
  | neg a iha => intro i j h; exact iha _ j h
  | ite a b c iha ihb ihc =>
    intro i j h
    simp only [nms, List.mem_append] at h
    exact h.elim (iha _ j) (fun h => h.elim (ihb _ j) (ihc _ j))
  | dly b ihb => intro i j h; exact ihb _ j h
  | bin a b iha ihb =>
    intro i j h
    simp only [nms, List.mem_append] at h
    exact h.elim (iha _ j) (ihb _ j)

theorem ix_some {l : List Dl} {p : Dl → Bool} {x : Dl} (hx : x ∈ l) (hp : p x = true) : ∃ j, l.findIdx? p = some j := by
  cases h : l.findIdx? p with
  | some j => exact ⟨j, rfl⟩
  | none => rw [List.findIdx?_eq_none_iff] at h; rw [h x hx] at hp; cases hp

theorem Right.find {ts : List Tk} {L : List Dl} (H : Right ts L) {k : Nat} (hk : k < ts.length) (hn : isNm ts k = true) : (∃ i, inIx ts L (lAt ts k) = some i) ∨ (∃ j, eqIx ts L (lAt ts k) = some j) := by
  obtain ⟨x, hx, he⟩ := H.decl k hk hn
  have hp : nmIs ts (lAt ts k) x = true := by unfold nmIs; rw [he]; simp
  by_cases h0 : x.kind = 0
  · exact .inl (ix_some (List.mem_filter.2 ⟨hx, by rw [h0]; rfl⟩) hp)
  · exact .inr (ix_some (List.mem_filter.2 ⟨hx, by simpa using h0⟩) hp)

/-- two equations of one name are one. -/
theorem Right.same {ts : List Tk} {L : List Dl} (H : Right ts L) {i j : Nat} {x y : Dl} (hx : (eqL L)[i]? = some x) (hy : (eqL L)[j]? = some y) (he : (nameD ts x).data.toList = (nameD ts y).data.toList) : i = j := by
  have mx : x ∈ L := (List.mem_filter.1 (List.mem_of_getElem? hx)).1
  have my : y ∈ L := (List.mem_filter.1 (List.mem_of_getElem? hy)).1
  have hi := H.own x mx y my he
  obtain ⟨h1, rfl⟩ := List.getElem?_eq_some_iff.1 hx
  obtain ⟨h2, rfl⟩ := List.getElem?_eq_some_iff.1 hy
  have hp : (eqL L).Pairwise (fun x y => x.i + x.len ≤ y.i) := H.pw.filter _
  rw [List.pairwise_iff_getElem] at hp
  rcases Nat.lt_trichotomy i j with h | h | h
  · have := hp i j h1 h2 h; have := (eqL L)[i].len_pos; omega
  · exact h
  · have := hp j i h2 h1 h; have := (eqL L)[j].len_pos; omega

/-- a name's value, as far as it is known. -/
def knR (ts : List Tk) (L : List Dl) (ins : List (List Int)) (R : Nat → Nat → Int) (D : Nat → Bool) (now : Nat) (w : List UInt8) (n : Nat) : Int × Bool :=
  match inIx ts L w with
  | some i => (elemF ins i n, true)
  | none => match eqIx ts L w with
    | some j => if decide (n < now) || D j then (R j n, true) else (0, false)
    | none => (0, false)

/-- how far the rows have come. -/
structure UpTo (ts : List Tk) (L : List Dl) (ins : List (List Int)) (R : Nat → Nat → Int) (D : Nat → Bool) (now : Nat) : Prop where
  old : ∀ j k, j < (eqL L).length → k < now → R j k = sol ts L ins j k
  new : ∀ j, j < (eqL L).length → D j = true → R j now = sol ts L ins j now

theorem inst_val {ts : List Tk} {L : List Dl} {ins : List (List Int)} {R : Nat → Nat → Int} {D : Nat → Bool} {now : Nat} (H : Right ts L) (h : UpTo ts L ins R D now) (j : Nat) (hj : j < (eqL L).length)
    (hk : (evR ts (knR ts L ins R D now) (eqL L)[j].t ((eqL L)[j].i + 5) now).2 = true) : (evR ts (knR ts L ins R D now) (eqL L)[j].t ((eqL L)[j].i + 5) now).1 = sol ts L ins j now := by
  rw [sol_eq H.toEqs j now hj]
  refine evR_val ts _ _ _ (fun w n' hn hw => ?_) hk
  unfold knR at hw ⊢
  unfold valV
  cases hi : inIx ts L w with
  | some i => rfl
  | none =>
    simp only [hi] at hw ⊢
    cases he : eqIx ts L w with
    | none => simp only [he] at hw; cases hw
    | some l =>
      simp only [he] at hw ⊢
      obtain ⟨z, hz, _⟩ := eqIx_some he
      have hlt : l < (eqL L).length := (List.getElem?_eq_some_iff.1 hz).1
      split at hw
      · rename_i hc
        rw [if_pos hc]
        show R l n' = _
        by_cases h1 : n' < now
        · exact h.old l n' hlt h1
        · have e : n' = now := by omega
          subst e
          have hd : D l = true := by simpa using hc
          exact h.new l hlt hd
      · cases hw

theorem inst_known {ts : List Tk} {L : List Dl} {ins : List (List Int)} {R : Nat → Nat → Int} {D : Nat → Bool} {now : Nat} (H : Right ts L) (j : Nat) (hj : j < (eqL L).length)
    (hd : ∀ l, l < (eqL L).length → relR ts L j l = true → D l = true) : (evR ts (knR ts L ins R D now) (eqL L)[j].t ((eqL L)[j].i + 5) now).2 = true := by
  have hx : (eqL L)[j]? = some (eqL L)[j] := List.getElem?_eq_getElem hj
  obtain ⟨hs, hl⟩ := H.sp (eqL L)[j] (List.getElem_mem hj)
  have hex : ∀ k ∈ nms ts (eqL L)[j].t ((eqL L)[j].i + 5), (∃ i, inIx ts L (lAt ts k) = some i) ∨ (∃ l, eqIx ts L (lAt ts k) = some l) := fun k hk => by
    have := nms_lt _ _ k hk
    exact H.find (by omega) (nms_nm _ _ k hk)
  refine evR_known ts _ _ _ (fun k hk => ?_) (fun k hk n' hn => ?_)
  · unfold knR
    cases hi : inIx ts L (lAt ts k) with
    | some i => rfl
    | none =>
      rcases hex k (und_nms ts _ _ k hk) with ⟨i, h⟩ | ⟨l, h⟩
      · rw [hi] at h; cases h
      · simp only [h]
        obtain ⟨z, hz, _⟩ := eqIx_some h
        rw [hd l (List.getElem?_eq_some_iff.1 hz).1 (rel_und H.F hx hs hl hk h)]
        simp
  · unfold knR
    cases hi : inIx ts L (lAt ts k) with
    | some i => rfl
    | none =>
      rcases hex k hk with ⟨i, h⟩ | ⟨l, h⟩
      · rw [hi] at h; cases h
      · simp only [h]
        rw [decide_eq_true hn]
        simp

/-- where the passes over an instant stand: behind so many passes, and so many equations of this one. -/
structure Pass (ts : List Tk) (L : List Dl) (ins : List (List Int)) (R : Nat → Nat → Int) (D : Nat → Bool) (now p i : Nat) : Prop where
  up : UpTo ts L ins R D now
  done : ∀ j, j < (eqL L).length → rk ts L j < p → D j = true
  here : ∀ j, j < i → j < (eqL L).length → rk ts L j ≤ p → D j = true

def setR (R : Nat → Nat → Int) (a b : Nat) (v : Int) : Nat → Nat → Int := fun i k => if i = a ∧ k = b then v else R i k
def setD (D : Nat → Bool) (a : Nat) (v : Bool) : Nat → Bool := fun i => if i = a then v else D i

theorem Pass.skip {ts : List Tk} {L : List Dl} {ins : List (List Int)} {R : Nat → Nat → Int} {D : Nat → Bool} {now p i : Nat} (h : Pass ts L ins R D now p i) (hd : D i = true) : Pass ts L ins R D now p (i + 1) :=
  ⟨h.up, h.done, fun j hj hj' hr => by
    by_cases e : j = i
    · rw [e]; exact hd
    · exact h.here j (by omega) hj' hr⟩

theorem Pass.next {ts : List Tk} {L : List Dl} {ins : List (List Int)} {R : Nat → Nat → Int} {D : Nat → Bool} {now p i : Nat} (H : Right ts L) (h : Pass ts L ins R D now p i) (hi : i < (eqL L).length) (hd : D i = false) :
    Pass ts L ins (setR R i now (evR ts (knR ts L ins R D now) (eqL L)[i].t ((eqL L)[i].i + 5) now).1) (setD D i (evR ts (knR ts L ins R D now) (eqL L)[i].t ((eqL L)[i].i + 5) now).2) now p (i + 1) := by
  refine ⟨⟨fun j k hj hk => ?_, fun j hj hD => ?_⟩, fun j hj hr => ?_, fun j hj hj' hr => ?_⟩
  · unfold setR; rw [if_neg (by omega)]; exact h.up.old j k hj hk
  · unfold setD at hD
    by_cases e : j = i
    · subst e
      rw [if_pos rfl] at hD
      unfold setR
      rw [if_pos ⟨rfl, rfl⟩]
      exact inst_val H h.up j hj hD
    · rw [if_neg e] at hD
      unfold setR
      rw [if_neg (by omega)]
      exact h.up.new j hj hD
  · unfold setD
    by_cases e : j = i
    · subst e; rw [h.done j hj hr] at hd; cases hd
    · rw [if_neg e]; exact h.done j hj hr
  · unfold setD
    by_cases e : j = i
    · subst e
      rw [if_pos rfl]
      refine inst_known H j hj' (fun l hl hrel => h.done l hl ?_)
      have := rk_less H.cyc hl hrel
      omega
    · rw [if_neg e]; exact h.here j (by omega) hj' hr

theorem Pass.over {ts : List Tk} {L : List Dl} {ins : List (List Int)} {R : Nat → Nat → Int} {D : Nat → Bool} {now p : Nat} (h : Pass ts L ins R D now p (eqL L).length) : Pass ts L ins R D now (p + 1) 0 :=
  ⟨h.up, fun j hj hr => h.here j hj hj (by omega), fun j hj => by omega⟩

theorem Pass.first {ts : List Tk} {L : List Dl} {ins : List (List Int)} {R : Nat → Nat → Int} {now : Nat} (h : ∀ j k, j < (eqL L).length → k < now → R j k = sol ts L ins j k) : Pass ts L ins R (fun _ => false) now 0 0 :=
  ⟨⟨h, fun j _ hd => by cases hd⟩, fun j _ hr => by omega, fun j hj => by omega⟩

theorem Pass.last {ts : List Tk} {L : List Dl} {ins : List (List Int)} {R : Nat → Nat → Int} {D : Nat → Bool} {now : Nat} (H : Right ts L) (h : Pass ts L ins R D now (eqL L).length 0) : ∀ j k, j < (eqL L).length → k < now + 1 → R j k = sol ts L ins j k := by
  intro j k hj hk
  by_cases h1 : k < now
  · exact h.up.old j k hj h1
  · have e : k = now := by omega
    subst e
    exact h.up.new j hj (h.done j hj (rk_lt H.cyc hj))

end Go.Proofs.Ytmndgoapkmhglab

/- Plain mathematics: places that wake. An act is four numbers: its place k, its time a, its delays b (acknowledged) and c (published). -/
namespace Go.Proofs.Ytmndgoapkmhglab

/-- an event. -/
structure EvF where
  k : Int
  a : Int
  did : Int
  n : Int
  took : List Nat
  vals : List Int
/-- a link: from a place to a place. -/
structure LnF where
  src : Int
  dst : Int
  late : Bool
abbrev PastF := List (OpF × EvF)

def isD (pl what : Int) (x : OpF × EvF) : Bool := decide (x.2.k = pl) && decide (x.2.did = what)
/-- how often a place has done something, as far as it is there at a time. -/
def didF (P : PastF) (pl what now : Int) (data : Bool) : Nat := (P.filter fun x => isD pl what x && decide (x.2.a + (if data then x.1.c else 0) ≤ now)).length
/-- how many values have been taken from a link, as far as it is there at a time. -/
def takenF (now : Int) (l : Nat) (ack : Bool) : PastF → Nat
  | [] => 0
  | x :: P => (if x.2.a + (if ack then x.1.b else 0) ≤ now then x.2.took.count l else 0) + takenF now l ack P
def lnAt (N : List LnF) (l : Nat) : LnF := N.getD l ⟨-1, -1, false⟩
def lateN (N : List LnF) (l : Nat) : Nat := if (lnAt N l).late then 1 else 0

def slotF (N : List LnF) (P : PastF) (a : OpF) (l : Nat) : Int := (takenF a.a l false P : Int) + lateN N l - didF P a.k 1 a.a false
def canF (N : List LnF) (P : PastF) (a : OpF) (l : Nat) : Bool := decide ((lnAt N l).dst = a.k) && (decide (slotF N P a l = 0) && decide (takenF a.a l false P < didF P (lnAt N l).src 2 a.a true))
def tookF (N : List LnF) (P : PastF) (a : OpF) : List Nat := (List.range N.length).filter (canF N P a)
def readyF (N : List LnF) (P : PastF) (a : OpF) : Bool :=
  decide (didF P a.k 1 a.a false = didF P a.k 2 a.a false) && (List.range N.length).all fun l => !decide ((lnAt N l).dst = a.k) || decide ((if canF N P a l then 1 else slotF N P a l) = 1)
def freeF (N : List LnF) (P : PastF) (a : OpF) : Bool :=
  decide (didF P a.k 2 a.a false < didF P a.k 1 a.a false) && (List.range N.length).all fun l => !decide ((lnAt N l).src = a.k) || decide (takenF a.a l true P = didF P a.k 2 a.a false)
/-- what happens when a place wakes. -/
def wakeF (N : List LnF) (V : Int → Nat → List Int) (P : PastF) (a : OpF) : EvF :=
  ⟨a.k, a.a, if readyF N P a then 1 else if freeF N P a then 2 else 0, if readyF N P a then (didF P a.k 1 a.a false : Int) else if freeF N P a then (didF P a.k 2 a.a false : Int) else 0, tookF N P a, if readyF N P a then [] else if freeF N P a then V a.k (didF P a.k 2 a.a false) else []⟩
/-- a script played behind a past. -/
def runG (N : List LnF) (V : Int → Nat → List Int) : PastF → List OpF → PastF
  | P, [] => P
  | P, a :: r => runG N V (P ++ [(a, wakeF N V P a)]) r

/-- counts of all that has been done. -/
def cntF (P : PastF) (pl what : Int) : Nat := (P.filter (isD pl what)).length
def tkF (l : Nat) : PastF → Nat
  | [] => 0
  | x :: P => x.2.took.count l + tkF l P
/-- when what a place published last comes; when it is known that the last value of a link was taken. -/
def comesF (pl : Int) : PastF → Int → Int
  | [], z => z
  | x :: P, z => comesF pl P (if isD pl 2 x then x.2.a + x.1.c else z)
def knownF (l : Nat) : PastF → Int → Int
  | [], z => z
  | x :: P, z => knownF l P (if l ∈ x.2.took then x.2.a + x.1.b else z)

theorem takenF_app (now : Int) (l : Nat) (ack : Bool) : ∀ (P Q : PastF), takenF now l ack (P ++ Q) = takenF now l ack P + takenF now l ack Q := by
  intro P
  induction P with
  | nil => intro Q; simp [takenF]
  | cons x P ih => intro Q; simp only [List.cons_append, takenF, ih]; omega
theorem tkF_app (l : Nat) : ∀ (P Q : PastF), tkF l (P ++ Q) = tkF l P + tkF l Q := by
  intro P
  induction P with
  | nil => intro Q; simp [tkF]
  | cons x P ih => intro Q; simp only [List.cons_append, tkF, ih]; omega
theorem comesF_app (pl : Int) : ∀ (P Q : PastF) (z : Int), comesF pl (P ++ Q) z = comesF pl Q (comesF pl P z) := by
  intro P
  induction P with
  | nil => intro Q z; rfl
  | cons x P ih => intro Q z; exact ih Q _
theorem knownF_app (l : Nat) : ∀ (P Q : PastF) (z : Int), knownF l (P ++ Q) z = knownF l Q (knownF l P z) := by
  intro P
  induction P with
  | nil => intro Q z; rfl
  | cons x P ih => intro Q z; exact ih Q _
theorem cntF_snoc (P : PastF) (x : OpF × EvF) (pl what : Int) : cntF (P ++ [x]) pl what = cntF P pl what + (if isD pl what x then 1 else 0) := by
  unfold cntF
  rw [List.filter_append, List.length_append]
  cases h : isD pl what x <;> simp [h]
theorem didF_snoc (P : PastF) (x : OpF × EvF) (pl what now : Int) (data : Bool) : didF (P ++ [x]) pl what now data = didF P pl what now data + (if isD pl what x && decide (x.2.a + (if data then x.1.c else 0) ≤ now) then 1 else 0) := by
  unfold didF
  rw [List.filter_append, List.length_append]
  cases h : (isD pl what x && decide (x.2.a + (if data then x.1.c else 0) ≤ now)) <;> simp [h]

/-- what is known of a past, up to a time. -/
structure PastOk (N : List LnF) (P : PastF) (now : Int) : Prop where
  same : ∀ x ∈ P, x.2.k = x.1.k ∧ x.2.a = x.1.a
  le : ∀ x ∈ P, x.1.a ≤ now
  gap : P.Pairwise fun x y => x.1.a ≤ y.1.a ∧ (x.1.k = y.1.k → x.1.a + x.1.b < y.1.a ∧ x.1.a + x.1.c < y.1.a)
  took : ∀ x ∈ P, x.2.took.Nodup ∧ ∀ l ∈ x.2.took, l < N.length ∧ (lnAt N l).dst = x.2.k

theorem PastOk.init {N : List LnF} {P : PastF} {x : OpF × EvF} {now : Int} (h : PastOk N (P ++ [x]) now) : PastOk N P now ∧ PastOk N P x.1.a ∧ x.1.a ≤ now ∧ x.2.k = x.1.k ∧ x.2.a = x.1.a ∧ (∀ y ∈ P, y.1.k = x.1.k → y.1.a + y.1.b < x.1.a ∧ y.1.a + y.1.c < x.1.a) := by
  have hp := List.pairwise_append.1 h.gap
  have hx : x ∈ P ++ [x] := by simp
  have hy : ∀ y ∈ P, y ∈ P ++ [x] := fun y hy => List.mem_append_left _ hy
  refine ⟨⟨fun y m => h.same y (hy y m), fun y m => h.le y (hy y m), hp.1, fun y m => h.took y (hy y m)⟩, ⟨fun y m => h.same y (hy y m), fun y m => (hp.2.2 y m x (by simp)).1, hp.1, fun y m => h.took y (hy y m)⟩, h.le x hx, (h.same x hx).1, (h.same x hx).2, fun y m => (hp.2.2 y m x (by simp)).2⟩

/-- an induction from behind. -/
theorem past_ind {p : PastF → Prop} (h0 : p []) (h1 : ∀ P x, p P → p (P ++ [x])) : ∀ P, p P := by
  have : ∀ n (P : PastF), P.length = n → p P := by
    intro n
    induction n with
    | zero => intro P hP; rw [List.length_eq_zero_iff.1 hP]; exact h0
    | succ n ih =>
      intro P hP
      have hne : P ≠ [] := fun e => by rw [e] at hP; cases hP
      rw [← List.dropLast_concat_getLast hne]
      exact h1 _ _ (ih _ (by simp [hP]))
  exact fun P => this P.length P rfl

theorem did_all {N : List LnF} {P : PastF} {now : Int} (h : PastOk N P now) (pl what : Int) : didF P pl what now false = cntF P pl what := by
  unfold didF cntF
  congr 1
  apply List.filter_congr
  intro x hx
  have h1 := h.le x hx
  have h2 := (h.same x hx).2
  have : decide (x.2.a + (if false = true then x.1.c else 0) ≤ now) = true := by simp; omega
  rw [this, Bool.and_true]
theorem taken_all {N : List LnF} {now : Int} (l : Nat) : ∀ {P : PastF}, PastOk N P now → takenF now l false P = tkF l P := by
  intro P
  induction P with
  | nil => intro _; rfl
  | cons x P ih =>
    intro h
    have h1 := h.le x (by simp)
    have h2 := (h.same x (by simp)).2
    simp only [takenF, tkF]
    rw [if_pos (by simp; omega), ih ⟨fun y m => h.same y (List.mem_cons_of_mem _ m), fun y m => h.le y (List.mem_cons_of_mem _ m), (List.pairwise_cons.1 h.gap).2, fun y m => h.took y (List.mem_cons_of_mem _ m)⟩]

theorem if_le (b : Bool) (n : Nat) : (if b = true then n else 0) ≤ n := by cases b <;> simp
theorem did_le (P : PastF) (pl what now : Int) (data : Bool) : didF P pl what now data ≤ cntF P pl what := by
  refine past_ind (p := fun P => didF P pl what now data ≤ cntF P pl what) (by simp [didF, cntF]) (fun P x ih => ?_) P
  rw [didF_snoc, cntF_snoc]
  have : (if (isD pl what x && decide (x.2.a + (if data then x.1.c else 0) ≤ now)) = true then 1 else 0) ≤ if isD pl what x = true then 1 else 0 := by
    cases isD pl what x with
    | false => simp
    | true => exact if_le _ 1
  omega

/-- what a place published: all but the last have come. -/
theorem did_come {N : List LnF} {now : Int} (pl : Int) : ∀ P : PastF, PastOk N P now → didF P pl 2 now true = if comesF pl P 0 ≤ now then cntF P pl 2 else cntF P pl 2 - 1 := by
  refine past_ind (fun _ => by simp [didF, cntF]) (fun P x ih h => ?_)
  obtain ⟨i1, i2, i3, i4, i5, i6⟩ := h.init
  rw [didF_snoc, cntF_snoc, comesF_app]
  rcases Bool.eq_false_or_eq_true (isD pl 2 x) with hx | hx
  rotate_left
  · have e : comesF pl [x] (comesF pl P 0) = comesF pl P 0 := by simp only [comesF]; rw [hx]; rfl
    rw [e, hx]
    simp only [Bool.false_and, Bool.false_eq_true, if_false, Nat.add_zero]
    exact ih i1
  · have e : comesF pl [x] (comesF pl P 0) = x.2.a + x.1.c := by simp only [comesF]; rw [hx]; rfl
    rw [e, hx]
    have hk : x.2.k = pl := by unfold isD at hx; simp at hx; exact hx.1
    have hall : didF P pl 2 now true = cntF P pl 2 := by
      unfold didF cntF
      congr 1
      apply List.filter_congr
      intro y hy
      cases hyd : isD pl 2 y with
      | false => rfl
      | true =>
        have hky : y.2.k = pl := by unfold isD at hyd; simp at hyd; exact hyd.1
        have h1 := i1.same y hy
        have h2 := (i6 y hy (by rw [← h1.1, ← i4, hky, hk])).2
        rw [Bool.true_and, decide_eq_true_iff, if_pos rfl]
        omega
    rw [hall]
    by_cases hc : x.2.a + x.1.c ≤ now
    · simp [hc]
    · simp [hc]

theorem taken_le (now : Int) (l : Nat) (ack : Bool) : ∀ P : PastF, takenF now l ack P ≤ tkF l P := by
  intro P
  induction P with
  | nil => simp [takenF, tkF]
  | cons x P ih =>
    simp only [takenF, tkF]
    have h1 := if_le (decide (x.2.a + (if ack = true then x.1.b else 0) ≤ now)) (x.2.took.count l)
    simp only [decide_eq_true_eq] at h1
    omega

theorem count_one {t : List Nat} (h : t.Nodup) (l : Nat) : t.count l = if l ∈ t then 1 else 0 := h.count

/-- what was taken: all but the last is known. -/
theorem taken_known {N : List LnF} {now : Int} (l : Nat) : ∀ P : PastF, PastOk N P now → takenF now l true P = if knownF l P 0 ≤ now then tkF l P else tkF l P - 1 := by
  refine past_ind (fun _ => by simp [takenF, tkF, knownF]) (fun P x ih h => ?_)
  obtain ⟨i1, i2, i3, i4, i5, i6⟩ := h.init
  rw [takenF_app, tkF_app, knownF_app]
  obtain ⟨hnd, htk⟩ := h.took x (by simp)
  simp only [takenF, tkF, knownF, Nat.add_zero]
  rw [count_one hnd l]
  by_cases hm : l ∈ x.2.took
  · have hall : takenF now l true P = tkF l P := by
      have key : ∀ Q : PastF, (∀ y ∈ Q, y ∈ P) → takenF now l true Q = tkF l Q := by
        intro Q
        induction Q with
        | nil => intro _; rfl
        | cons y Q ihQ =>
          intro hQ
          have hyP := hQ y (by simp)
          simp only [takenF, tkF]
          rw [ihQ (fun z hz => hQ z (List.mem_cons_of_mem _ hz))]
          obtain ⟨nd, tk⟩ := i1.took y hyP
          rw [count_one nd l]
          by_cases hl : l ∈ y.2.took
          · have e1 := (tk l hl).2
            have e2 := (htk l hm).2
            have h1 := i1.same y hyP
            have h2 := (i6 y hyP (by rw [← h1.1, ← i4, ← e1, ← e2])).1
            rw [if_pos (by simp; omega)]
          · simp [hl]
      exact key P (fun y hy => hy)
    rw [hall]
    simp only [hm, if_true]
    by_cases hc : x.2.a + x.1.b ≤ now
    · simp [hc]
    · simp [hc]
  · simp only [hm, if_false, Nat.add_zero]
    rw [ih i1]
    split <;> simp

end Go.Proofs.Ytmndgoapkmhglab

/- Plain mathematics: what always holds of places that wake; what a place knows is how it is. -/
namespace Go.Proofs.Ytmndgoapkmhglab

/-- what always holds. -/
structure RunInv (N : List LnF) (P : PastF) : Prop where
  turn : ∀ pl, cntF P pl 2 ≤ cntF P pl 1 ∧ cntF P pl 1 ≤ cntF P pl 2 + 1
  sent : ∀ l, l < N.length → tkF l P ≤ cntF P (lnAt N l).src 2 ∧ cntF P (lnAt N l).src 2 ≤ tkF l P + 1
  slot : ∀ l, l < N.length → cntF P (lnAt N l).dst 1 ≤ tkF l P + lateN N l ∧ tkF l P + lateN N l ≤ cntF P (lnAt N l).dst 1 + 1

/-- links go to other places. -/
def Apart (N : List LnF) : Prop := ∀ l, l < N.length → (lnAt N l).src ≠ (lnAt N l).dst

theorem lateN_le (N : List LnF) (l : Nat) : lateN N l ≤ 1 := by unfold lateN; split <;> omega

section
variable {N : List LnF} {P : PastF} {a : OpF} (hO : PastOk N P a.a) (hI : RunInv N P)
include hO

theorem slot_eq (l : Nat) : slotF N P a l = (tkF l P : Int) + lateN N l - cntF P a.k 1 := by
  unfold slotF; rw [taken_all l hO, did_all hO]
include hI

/-- what can be taken: it was published, has come, was not taken, and the slot is empty. -/
theorem can_iff {l : Nat} (hl : l < N.length) : canF N P a l = true ↔ (lnAt N l).dst = a.k ∧ tkF l P < cntF P (lnAt N l).src 2 ∧ comesF (lnAt N l).src P 0 ≤ a.a ∧ tkF l P + lateN N l = cntF P a.k 1 := by
  have hs := hI.sent l hl
  unfold canF
  rw [slot_eq hO, taken_all l hO, did_come (lnAt N l).src P hO]
  simp only [Bool.and_eq_true, decide_eq_true_eq]
  constructor
  · rintro ⟨h1, h2, h3⟩
    split at h3
    · rename_i hc; exact ⟨h1, h3, hc, by omega⟩
    · omega
  · rintro ⟨h1, h2, h3, h4⟩
    refine ⟨h1, by omega, ?_⟩
    rw [if_pos h3]; exact h2

omit hO hI in
theorem took_mem {l : Nat} : l ∈ tookF N P a ↔ l < N.length ∧ canF N P a l = true := by
  unfold tookF
  rw [List.mem_filter, List.mem_range]

/-- it can step just if it holds nothing, and of each link to it one value is there that no step used. -/
theorem ready_iff : readyF N P a = true ↔ cntF P a.k 1 = cntF P a.k 2 ∧ ∀ l, l < N.length → (lnAt N l).dst = a.k → tkF l P + (if canF N P a l = true then 1 else 0) + lateN N l = cntF P a.k 1 + 1 := by
  unfold readyF
  rw [did_all hO, did_all hO, Bool.and_eq_true, decide_eq_true_iff, List.all_eq_true]
  refine and_congr Iff.rfl ⟨fun h l hl hd => ?_, fun h l hl => ?_⟩
  · have := h l (List.mem_range.2 hl)
    rw [hd] at this
    simp only [decide_true, Bool.not_true, Bool.false_or, decide_eq_true_eq] at this
    by_cases hc : canF N P a l = true
    · have := ((can_iff hO hI hl).1 hc).2.2.2
      rw [if_pos hc]; omega
    · rw [if_neg hc] at this ⊢
      rw [slot_eq hO] at this
      omega
  · by_cases hd : (lnAt N l).dst = a.k
    · have := h l (List.mem_range.1 hl) hd
      rw [hd]
      simp only [decide_true, Bool.not_true, Bool.false_or, decide_eq_true_eq]
      by_cases hc : canF N P a l = true
      · rw [if_pos hc]
      · rw [if_neg hc] at this ⊢
        rw [slot_eq hO]; omega
    · simp [hd]

/-- it can publish just if it holds values, and on each link from it the value ahead was taken, and that is known. -/
theorem free_iff : freeF N P a = true ↔ cntF P a.k 1 = cntF P a.k 2 + 1 ∧ ∀ l, l < N.length → (lnAt N l).src = a.k → tkF l P = cntF P a.k 2 ∧ (knownF l P 0 ≤ a.a ∨ tkF l P = 0) := by
  have ht := hI.turn a.k
  unfold freeF
  rw [did_all hO, did_all hO, Bool.and_eq_true, decide_eq_true_iff, List.all_eq_true]
  refine and_congr (by omega) ⟨fun h l hl hd => ?_, fun h l hl => ?_⟩
  · have := h l (List.mem_range.2 hl)
    rw [hd] at this
    simp only [decide_true, Bool.not_true, Bool.false_or, decide_eq_true_eq] at this
    rw [taken_known l P hO] at this
    have hs := hI.sent l hl
    rw [hd] at hs
    split at this
    · rename_i hc; exact ⟨this, .inl hc⟩
    · exact ⟨by omega, .inr (by omega)⟩
  · by_cases hd : (lnAt N l).src = a.k
    · obtain ⟨h1, h2⟩ := h l (List.mem_range.1 hl) hd
      rw [hd]
      simp only [decide_true, Bool.not_true, Bool.false_or, decide_eq_true_eq]
      rw [taken_known l P hO]
      split
      · exact h1
      · rcases h2 with h2 | h2
        · omega
        · omega
    · simp [hd]

end

theorem known_zero (l : Nat) : ∀ P : PastF, (∀ x ∈ P, x.2.took.Nodup) → tkF l P = 0 → ∀ z, knownF l P z = z := by
  intro P
  induction P with
  | nil => intro _ _ z; rfl
  | cons x P ih =>
    intro hn h z
    simp only [tkF] at h
    have hm : l ∉ x.2.took := fun hm => by
      have := List.count_pos_iff.2 hm
      omega
    simp only [knownF]
    rw [if_neg hm]
    exact ih (fun y hy => hn y (List.mem_cons_of_mem _ hy)) (by omega) z

/-- the acts of a script that is played. -/
structure ActsOk (sc : List OpF) : Prop where
  nn : ∀ x ∈ sc, 0 ≤ x.a
  gap : sc.Pairwise fun x y => x.a ≤ y.a ∧ (x.k = y.k → x.a + x.b < y.a ∧ x.a + x.c < y.a)

theorem tookF_nodup (N : List LnF) (P : PastF) (a : OpF) : (tookF N P a).Nodup := List.Pairwise.filter _ List.nodup_range
theorem tookF_in (N : List LnF) (P : PastF) (a : OpF) : ∀ l ∈ tookF N P a, l < N.length ∧ (lnAt N l).dst = a.k := by
  intro l hl
  unfold tookF at hl
  rw [List.mem_filter, List.mem_range] at hl
  refine ⟨hl.1, ?_⟩
  have := hl.2
  unfold canF at this
  simp only [Bool.and_eq_true, decide_eq_true_eq] at this
  exact this.1

theorem past_next {N : List LnF} {V : Int → Nat → List Int} {P : PastF} {a : OpF} (hO : PastOk N P a.a) (hg : ∀ x ∈ P, x.1.a ≤ a.a ∧ (x.1.k = a.k → x.1.a + x.1.b < a.a ∧ x.1.a + x.1.c < a.a)) : PastOk N (P ++ [(a, wakeF N V P a)]) a.a := by
  refine ⟨fun x hx => ?_, fun x hx => ?_, ?_, fun x hx => ?_⟩
  · rcases List.mem_append.1 hx with hx | hx
    · exact hO.same x hx
    · rw [List.mem_singleton] at hx; subst hx; exact ⟨rfl, rfl⟩
  · rcases List.mem_append.1 hx with hx | hx
    · exact hO.le x hx
    · rw [List.mem_singleton] at hx; subst hx; exact Int.le_refl _
  · rw [List.pairwise_append]
    exact ⟨hO.gap, List.pairwise_singleton _ _, fun x hx y hy => by rw [List.mem_singleton] at hy; subst hy; exact hg x hx⟩
  · rcases List.mem_append.1 hx with hx | hx
    · exact hO.took x hx
    · rw [List.mem_singleton] at hx; subst hx; exact ⟨tookF_nodup N P a, tookF_in N P a⟩

theorem PastOk.mono {N : List LnF} {P : PastF} {t u : Int} (h : PastOk N P t) (htu : t ≤ u) : PastOk N P u := ⟨h.same, fun x hx => Int.le_trans (h.le x hx) htu, h.gap, h.took⟩

/-- what the next event adds. -/
theorem cnt_next (N : List LnF) (V : Int → Nat → List Int) (P : PastF) (a : OpF) (pl what : Int) : cntF (P ++ [(a, wakeF N V P a)]) pl what = cntF P pl what + (if a.k = pl ∧ (wakeF N V P a).did = what then 1 else 0) := by
  rw [cntF_snoc]
  congr 1
  have e : isD pl what (a, wakeF N V P a) = decide (a.k = pl ∧ (wakeF N V P a).did = what) := by
    unfold isD
    show (decide (a.k = pl) && decide ((wakeF N V P a).did = what)) = _
    rw [Bool.decide_and]
  rw [e]
  simp only [decide_eq_true_eq]
theorem tk_next (N : List LnF) (V : Int → Nat → List Int) (P : PastF) (a : OpF) {l : Nat} (hl : l < N.length) : tkF l (P ++ [(a, wakeF N V P a)]) = tkF l P + (if canF N P a l = true then 1 else 0) := by
  rw [tkF_app]
  congr 1
  simp only [tkF, Nat.add_zero]
  show (tookF N P a).count l = _
  rw [count_one (tookF_nodup N P a) l]
  by_cases hc : canF N P a l = true
  · rw [if_pos hc, if_pos (by unfold tookF; rw [List.mem_filter, List.mem_range]; exact ⟨hl, hc⟩)]
  · rw [if_neg hc, if_neg (by unfold tookF; rw [List.mem_filter]; exact fun e => hc e.2)]
theorem did_cases (N : List LnF) (V : Int → Nat → List Int) (P : PastF) (a : OpF) : (readyF N P a = true ∧ (wakeF N V P a).did = 1) ∨ (readyF N P a = false ∧ freeF N P a = true ∧ (wakeF N V P a).did = 2) ∨ (readyF N P a = false ∧ freeF N P a = false ∧ (wakeF N V P a).did = 0) := by
  unfold wakeF
  cases readyF N P a <;> cases freeF N P a <;> simp

theorem inv_next {N : List LnF} {V : Int → Nat → List Int} {P : PastF} {a : OpF} (hA : Apart N) (hO : PastOk N P a.a) (hI : RunInv N P) : RunInv N (P ++ [(a, wakeF N V P a)]) := by
  have hcan : ∀ l, l < N.length → canF N P a l = true → (lnAt N l).dst = a.k ∧ tkF l P < cntF P (lnAt N l).src 2 ∧ tkF l P + lateN N l = cntF P a.k 1 := fun l hl h => by
    obtain ⟨h1, h2, _, h4⟩ := (can_iff hO hI hl).1 h
    exact ⟨h1, h2, h4⟩
  rcases did_cases N V P a with ⟨hr, hd⟩ | ⟨_, hf, hd⟩ | ⟨_, _, hd⟩
  · obtain ⟨e1, e2⟩ := (ready_iff hO hI).1 hr
    refine ⟨fun pl => ?_, fun l hl => ?_, fun l hl => ?_⟩
    · rw [cnt_next, cnt_next, hd]
      have := hI.turn pl
      by_cases h : a.k = pl
      · subst h; simp; omega
      · simp [h]; exact this
    · rw [cnt_next, tk_next N V P a hl, hd]
      have := hI.sent l hl
      by_cases hc : canF N P a l = true
      · have h := hcan l hl hc; rw [if_pos hc]; simp; omega
      · rw [if_neg hc]; simpa using this
    · rw [cnt_next, tk_next N V P a hl, hd]
      have := hI.slot l hl
      by_cases h : a.k = (lnAt N l).dst
      · have h3 := e2 l hl h.symm
        rw [← h, if_pos ⟨rfl, rfl⟩]; omega
      · have hc : ¬ canF N P a l = true := fun hc => h (hcan l hl hc).1.symm
        rw [if_neg hc, if_neg (fun e => h e.1)]; exact this
  · obtain ⟨e1, e2⟩ := (free_iff hO hI).1 hf
    refine ⟨fun pl => ?_, fun l hl => ?_, fun l hl => ?_⟩
    · rw [cnt_next, cnt_next, hd]
      have := hI.turn pl
      by_cases h : a.k = pl
      · subst h; simp; omega
      · simp [h]; exact this
    · rw [cnt_next, tk_next N V P a hl, hd]
      have := hI.sent l hl
      by_cases h : a.k = (lnAt N l).src
      · have hc : ¬ canF N P a l = true := fun hc => hA l hl (h.symm.trans (hcan l hl hc).1.symm)
        have := (e2 l hl h.symm).1
        rw [if_neg hc, if_pos ⟨h, rfl⟩, ← h]; omega
      · have hz : (if a.k = (lnAt N l).src ∧ (2 : Int) = 2 then 1 else 0) = 0 := if_neg (fun e => h e.1)
        rw [hz]
        by_cases hc : canF N P a l = true
        · have := hcan l hl hc; rw [if_pos hc]; omega
        · rw [if_neg hc]; exact this
    · rw [cnt_next, tk_next N V P a hl, hd]
      have := hI.slot l hl
      have hz : (if a.k = (lnAt N l).dst ∧ (2 : Int) = 1 then 1 else 0) = 0 := if_neg (fun e => by have := e.2; revert this; decide)
      rw [hz]
      by_cases hc : canF N P a l = true
      · have h := hcan l hl hc; rw [if_pos hc, h.1]; rw [h.1] at this; omega
      · rw [if_neg hc]; exact this
  · refine ⟨fun pl => ?_, fun l hl => ?_, fun l hl => ?_⟩
    · rw [cnt_next, cnt_next, hd]
      simpa using hI.turn pl
    · rw [cnt_next, tk_next N V P a hl, hd]
      have := hI.sent l hl
      have hz : (if a.k = (lnAt N l).src ∧ (0 : Int) = 2 then 1 else 0) = 0 := if_neg (fun e => by have := e.2; revert this; decide)
      rw [hz]
      by_cases hc : canF N P a l = true
      · have := hcan l hl hc; rw [if_pos hc]; omega
      · rw [if_neg hc]; exact this
    · rw [cnt_next, tk_next N V P a hl, hd]
      have := hI.slot l hl
      have hz : (if a.k = (lnAt N l).dst ∧ (0 : Int) = 1 then 1 else 0) = 0 := if_neg (fun e => by have := e.2; revert this; decide)
      rw [hz]
      by_cases hc : canF N P a l = true
      · have h := hcan l hl hc; rw [if_pos hc, h.1]; rw [h.1] at this; omega
      · rw [if_neg hc]; exact this

theorem inv_start (N : List LnF) : RunInv N [] := ⟨fun _ => by simp [cntF], fun l _ => by simp [cntF, tkF], fun l _ => by simp only [cntF, tkF, List.filter_nil, List.length_nil, Nat.zero_add]; have := lateN_le N l; omega⟩
theorem past_start (N : List LnF) (t : Int) : PastOk N [] t := ⟨fun x hx => by simp at hx, fun x hx => by simp at hx, List.Pairwise.nil, fun x hx => by simp at hx⟩

/-- a script played: what holds behind each of its acts. -/
theorem run_ind {N : List LnF} (hA : Apart N) (V : Int → Nat → List Int) {p : PastF → Prop} (h1 : ∀ P a, PastOk N P a.a → RunInv N P → 0 ≤ a.a → p P → p (P ++ [(a, wakeF N V P a)])) :
    ∀ (sc : List OpF) (P : PastF), (∀ x ∈ sc, 0 ≤ x.a) → (P.map Prod.fst ++ sc).Pairwise (fun x y => x.a ≤ y.a ∧ (x.k = y.k → x.a + x.b < y.a ∧ x.a + x.c < y.a)) → (∀ t, (∀ x ∈ P, x.1.a ≤ t) → PastOk N P t) → RunInv N P → p P → p (runG N V P sc) ∧ RunInv N (runG N V P sc) ∧ ∀ t, (∀ x ∈ runG N V P sc, x.1.a ≤ t) → PastOk N (runG N V P sc) t := by
  intro sc
  induction sc with
  | nil => intro P _ _ hO hI hp; exact ⟨hp, hI, hO⟩
  | cons a r ih =>
    intro P hn hg hO hI hp
    have hga := List.pairwise_append.1 hg
    have hx : ∀ x ∈ P, x.1.a ≤ a.a ∧ (x.1.k = a.k → x.1.a + x.1.b < a.a ∧ x.1.a + x.1.c < a.a) := fun x hx => hga.2.2 x.1 (List.mem_map.2 ⟨x, hx, rfl⟩) a (by simp)
    have hOa : PastOk N P a.a := hO a.a (fun x m => (hx x m).1)
    have hOn := past_next (V := V) hOa hx
    refine ih (P ++ [(a, wakeF N V P a)]) (fun x m => hn x (List.mem_cons_of_mem _ m)) (by simpa using hg) (fun t ht => ?_) (inv_next hA hOa hI) (h1 P a hOa hI (hn a (by simp)) hp)
    exact hOn.mono (ht (a, wakeF N V P a) (by simp))

end Go.Proofs.Ytmndgoapkmhglab

/- num. -/
namespace Go.Proofs.Ytmndgoapkmhglab
open Go.RowKit
attribute [local go_sem ↓] Go.wp_at_zero Go.wp_at_succ

theorem num_of (n : Int) (w : World) :
    Calls Try.prog 10 #[.int .i64 n] w fun e w' => e = .returned (.int .i64 n) ∧ w = w' := by
  go_enter Try.func10, Try.ntmps10
  go_wp2
  go_ret
  exact ⟨rfl, rfl⟩

end Go.Proofs.Ytmndgoapkmhglab
