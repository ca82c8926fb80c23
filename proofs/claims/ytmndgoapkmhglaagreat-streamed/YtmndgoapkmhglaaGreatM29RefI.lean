import Derived.Deep.LoopGhost
import Derived.Test.YtmndgoapkmhglaaGreatM00Base
import Derived.Test.YtmndgoapkmhglaaGreatM03Bytes
import Derived.Test.YtmndgoapkmhglaaGreatM28RefF
/- Plain mathematics: the streams of a text without a circle. -/
namespace Go.Proofs.YtmndgoapkmhglaaGreat

def w64 (x : Int) : Int := Go.RowKit.wrap64 x
def b2i (b : Bool) : Int := if b then 1 else 0
/-- an operator. -/
def apF (o : List UInt8) (a b : Int) : Int :=
  if o = [43] then w64 (a + b) else if o = [45] then w64 (a - b) else if o = [42] then w64 (a * b)
  else if o = [47] then (if b = 0 then 0 else w64 (a.tdiv b)) else if o = [60] then b2i (decide (a < b)) else if o = [61] then b2i (decide (a = b))
  else if o = [38] then b2i (decide (a = 1) && decide (b = 1)) else b2i (decide (a = 1) || decide (b = 1))
def litV (t : Tk) : Int := if t.kind = 3 then (valOf t.l : Int) else b2i (decide (t.l = kTrue))

/-- the value of an expression at token i at the instant n, by the values of names. -/
def evT (ts : List Tk) (V : List UInt8 → Nat → Int) : Ast → Nat → Nat → Int
  | .leaf, i, n => if (tkAt ts i).kind = 1 then V (lAt ts i) n else litV (tkAt ts i)
  | .neg a, i, n => w64 (1 - evT ts V a (i + 2) n)
  | .ite a b c, i, n => if evT ts V a (i + 2) n = 1 then evT ts V b (i + 2 + a.len) n else evT ts V c (i + 2 + a.len + b.len) n
  | .dly _, i, 0 => litV (tkAt ts (i + 1))
  | .dly b, i, n + 1 => evT ts V b (i + 3) n
  | .bin a b, i, n => apF (lAt ts (i + 1 + a.len)) (evT ts V a (i + 1) n) (evT ts V b (i + 2 + a.len) n)

/-- where the names of an expression stand that are not behind a delay. -/
def und (ts : List Tk) : Ast → Nat → List Nat
  | .leaf, i => if (tkAt ts i).kind = 1 then [i] else []
  | .neg a, i => und ts a (i + 2)
  | .ite a b c, i => und ts a (i + 2) ++ (und ts b (i + 2 + a.len) ++ und ts c (i + 2 + a.len + b.len))
  | .dly _, _ => []
  | .bin a b, i => und ts a (i + 1) ++ und ts b (i + 2 + a.len)
/-- where its names stand. -/
def nms (ts : List Tk) : Ast → Nat → List Nat
  | .leaf, i => if (tkAt ts i).kind = 1 then [i] else []
  | .neg a, i => nms ts a (i + 2)
  | .ite a b c, i => nms ts a (i + 2) ++ (nms ts b (i + 2 + a.len) ++ nms ts c (i + 2 + a.len + b.len))
  | .dly b, i => nms ts b (i + 3)
  | .bin a b, i => nms ts a (i + 1) ++ nms ts b (i + 2 + a.len)

theorem und_nms (ts : List Tk) : ∀ (t : Ast) (i : Nat), ∀ j ∈ und ts t i, j ∈ nms ts t i := by
  intro t
  induction t with
  | leaf => intro i j h; exact h
  | neg a iha => intro i j h; exact iha _ j h
  | ite a b c iha ihb ihc =>
    intro i j h
    simp only [und, nms, List.mem_append] at *
    exact h.imp (iha _ j) (Or.imp (ihb _ j) (ihc _ j))
  | dly b ihb => intro i j h; simp [und] at h
  | bin a b iha ihb =>
    intro i j h
    simp only [und, nms, List.mem_append] at *
    exact h.imp (iha _ j) (ihb _ j)

theorem nms_nmD (ts : List Tk) : ∀ (t : Ast) (i : Nat) (dl : Bool), nms ts t i = (nmD ts t i dl).map Prod.fst := by
  intro t
  induction t with
  | leaf => intro i dl; simp only [nms, nmD]; split <;> rfl
  | neg a iha => intro i dl; exact iha _ dl
  | ite a b c iha ihb ihc => intro i dl; simp only [nms, nmD, List.map_append]; rw [iha _ dl, ihb _ dl, ihc _ dl]
  | dly b ihb => intro i dl; exact ihb _ true
  | bin a b iha ihb => intro i dl; simp only [nms, nmD, List.map_append]; rw [iha _ dl, ihb _ dl]

theorem und_nmD (ts : List Tk) : ∀ (t : Ast) (i : Nat), ∀ j ∈ und ts t i, (j, false) ∈ nmD ts t i false := by
  intro t
  induction t with
  | leaf => intro i j h; simp only [und, nmD] at *; split at h <;> simp_all
  | neg a iha => intro i j h; exact iha _ j h
  | ite a b c iha ihb ihc =>
    intro i j h
    simp only [und, nmD, List.mem_append] at *
    exact h.imp (iha _ j) (Or.imp (ihb _ j) (ihc _ j))
  | dly b ihb => intro i j h; simp [und] at h
  | bin a b iha ihb =>
    intro i j h
    simp only [und, nmD, List.mem_append] at *
    exact h.imp (iha _ j) (ihb _ j)

/-- the value hangs on the names alone: on those behind a delay at earlier instants. -/
theorem evT_congr (ts : List Tk) {V V' : List UInt8 → Nat → Int} : ∀ (t : Ast) (i n : Nat), (∀ j ∈ und ts t i, V (lAt ts j) n = V' (lAt ts j) n) → (∀ w n', n' < n → V w n' = V' w n') → evT ts V t i n = evT ts V' t i n := by
  intro t
  induction t with
  | leaf =>
    intro i n h _
    unfold evT
    by_cases hk : (tkAt ts i).kind = 1
    · rw [if_pos hk, if_pos hk]; exact h i (by unfold und; rw [if_pos hk]; simp)
    · rw [if_neg hk, if_neg hk]
  | neg a iha => intro i n h h2; simp only [evT]; rw [iha _ n h h2]
  | ite a b c iha ihb ihc =>
    intro i n h h2
    simp only [und, List.mem_append] at h
    simp only [evT]
    rw [iha _ n (fun j hj => h j (.inl hj)) h2, ihb _ n (fun j hj => h j (.inr (.inl hj))) h2, ihc _ n (fun j hj => h j (.inr (.inr hj))) h2]
  | dly b ihb =>
    intro i n h h2
    cases n with
    | zero => rfl
    | succ n => simp only [evT]; exact ihb _ n (fun j _ => h2 _ n (by omega)) (fun w n' hn => h2 w n' (by omega))
  | bin a b iha ihb =>
    intro i n h h2
    simp only [und, List.mem_append] at h
    simp only [evT]
    rw [iha _ n (fun j hj => h j (.inl hj)) h2, ihb _ n (fun j hj => h j (.inr hj)) h2]

/-- the same, as far as it is known. -/
def evR (ts : List Tk) (V : List UInt8 → Nat → Int × Bool) : Ast → Nat → Nat → Int × Bool
  | .leaf, i, n => if (tkAt ts i).kind = 1 then V (lAt ts i) n else (litV (tkAt ts i), true)
  | .neg a, i, n => (w64 (1 - (evR ts V a (i + 2) n).1), (evR ts V a (i + 2) n).2)
  | .ite a b c, i, n => (if (evR ts V a (i + 2) n).1 = 1 then (evR ts V b (i + 2 + a.len) n).1 else (evR ts V c (i + 2 + a.len + b.len) n).1, (evR ts V a (i + 2) n).2 && ((evR ts V b (i + 2 + a.len) n).2 && (evR ts V c (i + 2 + a.len + b.len) n).2))
  | .dly _, i, 0 => (litV (tkAt ts (i + 1)), true)
  | .dly b, i, n + 1 => evR ts V b (i + 3) n
  | .bin a b, i, n => (apF (lAt ts (i + 1 + a.len)) (evR ts V a (i + 1) n).1 (evR ts V b (i + 2 + a.len) n).1, (evR ts V a (i + 1) n).2 && (evR ts V b (i + 2 + a.len) n).2)

theorem evR_val (ts : List Tk) {V : List UInt8 → Nat → Int × Bool} {U : List UInt8 → Nat → Int} : ∀ (t : Ast) (i n : Nat), (∀ w n', n' ≤ n → (V w n').2 = true → (V w n').1 = U w n') → (evR ts V t i n).2 = true → (evR ts V t i n).1 = evT ts U t i n := by
  intro t
  induction t with
  | leaf =>
    intro i n h hk
    unfold evR evT at *
    split at hk
    · rename_i h1; rw [if_pos h1, if_pos h1]; exact h _ n (Nat.le_refl _) hk
    · rename_i h1; rw [if_neg h1, if_neg h1]
  | neg a iha => intro i n h hk; simp only [evR, evT] at *; rw [iha _ n h hk]
  | ite a b c iha ihb ihc =>
    intro i n h hk
    simp only [evR, evT, Bool.and_eq_true] at *
    rw [iha _ n h hk.1, ihb _ n h hk.2.1, ihc _ n h hk.2.2]
  | dly b ihb =>
    intro i n h hk
    cases n with
    | zero => rfl
    | succ n => simp only [evR, evT] at *; exact ihb _ n (fun w n' hn => h w n' (by omega)) hk
  | bin a b iha ihb =>
    intro i n h hk
    simp only [evR, evT, Bool.and_eq_true] at *
    rw [iha _ n h hk.1, ihb _ n h hk.2]

theorem evR_known (ts : List Tk) {V : List UInt8 → Nat → Int × Bool} : ∀ (t : Ast) (i n : Nat), (∀ j ∈ und ts t i, (V (lAt ts j) n).2 = true) → (∀ j ∈ nms ts t i, ∀ n', n' < n → (V (lAt ts j) n').2 = true) → (evR ts V t i n).2 = true := by
  intro t
  induction t with
  | leaf =>
    intro i n h _
    unfold evR
    by_cases hk : (tkAt ts i).kind = 1
    · rw [if_pos hk]; exact h i (by unfold und; rw [if_pos hk]; simp)
    · rw [if_neg hk]
  | neg a iha => intro i n h h2; simp only [evR]; exact iha _ n h h2
  | ite a b c iha ihb ihc =>
    intro i n h h2
    simp only [und, nms, List.mem_append] at h h2
    simp only [evR, Bool.and_eq_true]
    exact ⟨iha _ n (fun j hj => h j (.inl hj)) (fun j hj => h2 j (.inl hj)), ihb _ n (fun j hj => h j (.inr (.inl hj))) (fun j hj => h2 j (.inr (.inl hj))), ihc _ n (fun j hj => h j (.inr (.inr hj))) (fun j hj => h2 j (.inr (.inr hj)))⟩
  | dly b ihb =>
    intro i n h h2
    cases n with
    | zero => rfl
    | succ n => simp only [evR]; exact ihb _ n (fun j hj => h2 j (und_nms ts b _ j hj) n (by omega)) (fun j hj n' hn => h2 j hj n' (by omega))
  | bin a b iha ihb =>
    intro i n h h2
    simp only [und, nms, List.mem_append] at h h2
    simp only [evR, Bool.and_eq_true]
    exact ⟨iha _ n (fun j hj => h j (.inl hj)) (fun j hj => h2 j (.inl hj)), ihb _ n (fun j hj => h j (.inr hj)) (fun j hj => h2 j (.inr hj))⟩

def nmIs (ts : List Tk) (w : List UInt8) (x : Dl) : Bool := (nameD ts x).data.toList == w
def inIx (ts : List Tk) (L : List Dl) (w : List UInt8) : Option Nat := (inL L).findIdx? (nmIs ts w)
def eqIx (ts : List Tk) (L : List Dl) (w : List UInt8) : Option Nat := (eqL L).findIdx? (nmIs ts w)
def elemF (ins : List (List Int)) (i k : Nat) : Int := (ins.getD i []).getD k 0
/-- the value of a name, by the rows of the equations. -/
def valV (ts : List Tk) (L : List Dl) (ins : List (List Int)) (R : Nat → Nat → Int) (w : List UInt8) (n : Nat) : Int :=
  match inIx ts L w with
  | some i => elemF ins i n
  | none => match eqIx ts L w with
    | some j => R j n
    | none => 0
def bodyV (ts : List Tk) (E : List Dl) (V : List UInt8 → Nat → Int) (j n : Nat) : Int :=
  match E[j]? with
  | some x => evT ts V x.t (x.i + 5) n
  | none => 0
def solF (ts : List Tk) (L : List Dl) (ins : List (List Int)) : Nat → Nat → Nat → Int
  | 0, _, _ => 0
  | f + 1, j, n => bodyV ts (eqL L) (valV ts L ins (solF ts L ins f)) j n
/-- THE STREAMS: the value of equation j at the instant n. -/
def sol (ts : List Tk) (L : List Dl) (ins : List (List Int)) (j n : Nat) : Int := solF ts L ins (n * ((eqL L).length + 1) + (eqL L).length + 1) j n

theorem valV_congr {ts : List Tk} {L : List Dl} {ins : List (List Int)} {R R' : Nat → Nat → Int} {w : List UInt8} {n : Nat} (h : ∀ j, eqIx ts L w = some j → R j n = R' j n) : valV ts L ins R w n = valV ts L ins R' w n := by
  unfold valV
  cases inIx ts L w with
  | some i => rfl
  | none =>
    cases he : eqIx ts L w with
    | none => rfl
    | some j => exact h j he

theorem eqIx_some {ts : List Tk} {L : List Dl} {w : List UInt8} {j : Nat} (h : eqIx ts L w = some j) : ∃ x, (eqL L)[j]? = some x ∧ (nameD ts x).data.toList = w := by
  obtain ⟨hj, hp, _⟩ := List.findIdx?_eq_some_iff_getElem.1 h
  exact ⟨(eqL L)[j], List.getElem?_eq_getElem hj, by simpa [nmIs] using hp⟩

theorem rel_und {ts : List Tk} (hF : ∀ i, TkF (tkAt ts i)) {L : List Dl} {i l j : Nat} {x : Dl} (hx : (eqL L)[i]? = some x) (hs : Sp ts x.t (x.i + 5)) (hl : x.i + 5 + x.t.len ≤ ts.length) (hj : j ∈ und ts x.t (x.i + 5)) (he : eqIx ts L (lAt ts j) = some l) : relR ts L i l = true := by
  obtain ⟨z, hz, hn⟩ := eqIx_some he
  unfold relR
  rw [hx, hz]
  show hangsR ts x (nameD ts z).data.toList = true
  rw [hangs_nm hF x hs hl, List.any_eq_true]
  exact ⟨(j, false), und_nmD ts _ _ j hj, by simp [hn]⟩

/-- what is known of the text's equations. -/
structure Eqs (ts : List Tk) (L : List Dl) : Prop where
  F : ∀ i, TkF (tkAt ts i)
  sp : ∀ x ∈ eqL L, Sp ts x.t (x.i + 5) ∧ x.i + 5 + x.t.len ≤ ts.length
  cyc : cycR ts L = none

section
variable {ts : List Tk} {L : List Dl} {ins : List (List Int)} (H : Eqs ts L)
include H

theorem sol_stable : ∀ m f f' j n, j < (eqL L).length → n * ((eqL L).length + 1) + rk ts L j ≤ m → m < f → m < f' → solF ts L ins f j n = solF ts L ins f' j n := by
  intro m
  induction m using Nat.strongRecOn with
  | ind m ih =>
    intro f f' j n hj hm hf hf'
    obtain ⟨f, rfl⟩ : ∃ g, f = g + 1 := ⟨f - 1, by omega⟩
    obtain ⟨f', rfl⟩ : ∃ g, f' = g + 1 := ⟨f' - 1, by omega⟩
    have hx : (eqL L)[j]? = some (eqL L)[j] := List.getElem?_eq_getElem hj
    obtain ⟨hs, hl⟩ := H.sp (eqL L)[j] (List.getElem_mem hj)
    simp only [solF, bodyV, hx]
    refine evT_congr ts _ _ _ (fun k hk => valV_congr fun l hl' => ?_) (fun w n' hn => valV_congr fun l hl' => ?_)
    · have hr := rel_und H.F hx hs hl hk hl'
      obtain ⟨z, hz, _⟩ := eqIx_some hl'
      have hlt : l < (eqL L).length := (List.getElem?_eq_some_iff.1 hz).1
      have hrk := rk_less H.cyc hlt hr
      exact ih (n * ((eqL L).length + 1) + rk ts L l) (by omega) f f' l n hlt (Nat.le_refl _) (by omega) (by omega)
    · obtain ⟨z, hz, _⟩ := eqIx_some hl'
      have hlt : l < (eqL L).length := (List.getElem?_eq_some_iff.1 hz).1
      have hrk := rk_lt H.cyc hlt
      have hmul : (n' + 1) * ((eqL L).length + 1) ≤ n * ((eqL L).length + 1) := Nat.mul_le_mul_right _ (by omega)
      rw [Nat.succ_mul] at hmul
      exact ih (n' * ((eqL L).length + 1) + rk ts L l) (by omega) f f' l n' hlt (Nat.le_refl _) (by omega) (by omega)

/-- the streams keep to their equations. -/
theorem sol_eq (j n : Nat) (hj : j < (eqL L).length) : sol ts L ins j n = evT ts (valV ts L ins (sol ts L ins)) (eqL L)[j].t ((eqL L)[j].i + 5) n := by
  have hx : (eqL L)[j]? = some (eqL L)[j] := List.getElem?_eq_getElem hj
  obtain ⟨hs, hl⟩ := H.sp (eqL L)[j] (List.getElem_mem hj)
  have hjr := rk_lt H.cyc hj
  show bodyV ts (eqL L) (valV ts L ins (solF ts L ins (n * ((eqL L).length + 1) + (eqL L).length))) j n = _
  simp only [bodyV, hx]
  refine evT_congr ts _ _ _ (fun k hk => valV_congr fun l hl' => ?_) (fun w n' hn => valV_congr fun l hl' => ?_)
  · have hr := rel_und H.F hx hs hl hk hl'
    obtain ⟨z, hz, _⟩ := eqIx_some hl'
    have hlt : l < (eqL L).length := (List.getElem?_eq_some_iff.1 hz).1
    have hrk := rk_less H.cyc hlt hr
    exact sol_stable H (n * ((eqL L).length + 1) + rk ts L l) _ _ l n hlt (Nat.le_refl _) (by omega) (by omega)
  · obtain ⟨z, hz, _⟩ := eqIx_some hl'
    have hlt : l < (eqL L).length := (List.getElem?_eq_some_iff.1 hz).1
    have hrk := rk_lt H.cyc hlt
    have hmul : (n' + 1) * ((eqL L).length + 1) ≤ n * ((eqL L).length + 1) := Nat.mul_le_mul_right _ (by omega)
    rw [Nat.succ_mul] at hmul
    exact sol_stable H (n' * ((eqL L).length + 1) + rk ts L l) _ _ l n' hlt (Nat.le_refl _) (by omega) (by omega)

end
end Go.Proofs.YtmndgoapkmhglaaGreat

namespace Go.Proofs.YtmndgoapkmhglaaGreat
open Go.RowKit
attribute [local go_sem ↓] Go.wp_at_zero Go.wp_at_succ

theorem Ans.len {ts : List Tk} {n : Nat} {T : List UInt8} {d : Int} {i : Nat} {r : Int} (h : Ans ts n T d i r) : T.length ≤ 100 ∧ i < ts.length := by
  cases h <;> exact ⟨by simp only [List.length_cons]; omega, by assumption⟩

theorem Ans.inv {ts : List Tk} {n : Nat} {T : List UInt8} {d : Int} {i : Nat} {r : Int} (h : Ans ts n T d i r) : ∃ (x : UInt8) (X : List UInt8), T = x :: X ∧ X.length ≤ 99 ∧
    ((x = 80 ∧ (tkAt ts i).kind = 0 ∧ r = -1) ∨ (¬ (x = 80 ∧ (tkAt ts i).kind = 0) ∧ (ruleF x.toNat (rtok (tkAt ts i)) d).2.2 = false ∧ r = ((tkAt ts i).pos : Int)) ∨
     ∃ (k : Nat) (m : List UInt8) (u : Bool), n = k + 1 ∧ ¬ (x = 80 ∧ (tkAt ts i).kind = 0) ∧ ruleF x.toNat (rtok (tkAt ts i)) d = (m, u, true) ∧
       Ans ts k (m ++ X) (if u = true ∧ lAt ts i = [40] then d + 1 else if u = true ∧ lAt ts i = [41] then d - 1 else d) (if u = true then i + 1 else i) r) := by
  cases h with
  | done _ X _ _ hi hX hk => exact ⟨80, X, rfl, hX, .inl ⟨rfl, hk, rfl⟩⟩
  | fail _ x X _ _ hi hX h80 hr => exact ⟨x, X, rfl, hX, .inr (.inl ⟨h80, hr, rfl⟩)⟩
  | step k x X _ _ _ m u hi hX h80 hr hn => exact ⟨x, X, rfl, hX, .inr (.inr ⟨k, m, u, rfl, h80, hr, hn⟩)⟩

set_option maxHeartbeats 2000000 in
set_option maxRecDepth 100000 in
theorem stands_any (ts : List Tk) (n0 : Nat) (r : Int) (w : World) (g cap : Nat) (h : TokAt w g cap ts) (hF : ∀ i, TkF (tkAt ts i)) (hl : ts.length ≤ 1501) (hA : Ans ts n0 [80] 0 0 r) :
    Calls Tryz.prog 40 #[.slice (some ⟨g, 0, none⟩) ts.length cap] w fun e w' => e = .returned (.int .i64 r) ∧ Below w.heap.size w w' := by
  obtain ⟨i0, hi0, hz0, hz1, hz2⟩ := info_parts Tryz.infoU8
  have HT := hide h
  have HF := hide hF
  have HA := hide hA
  clear h hF hA
  go_enter Tryz.func40, Tryz.ntmps40
  go_wp2
  go_loopg [3, 4, 5] n0 (fun n v d i wr => ∃ (T : List UInt8) (e : Int) (k : Nat), d = .int .i64 e ∧ i = .int .i64 k ∧ e ≤ (k : Int) ∧ -(k : Int) ≤ e ∧ Ans ts n T e k r ∧ wr.ownsRow w.heap.size 5 1 v T.length (bCells T.reverse) ∧ Below w.heap.size w wr)
  case atStart =>
    refine ⟨[80], 0, 0, rfl, rfl, by omega, by omega, HA.out, ?_, (Below.refl _ _).alloc (Nat.le_refl _) _⟩
    exact World.ownsRow_lit w #[.int .u8 80] 1 (Nat.le_refl _) (by unfold maxLen; omega) rfl
  case round =>
    obtain ⟨T, e, k, rfl, rfl, he1, he2, hans, hown, hbel⟩ := hrel
    obtain ⟨hTl, hk⟩ := hans.len
    obtain ⟨a, ha⟩ : ∃ a, a = rtok (tkAt ts k) := ⟨_, rfl⟩
    obtain ⟨x0, x1, x2, x3⟩ := HT.out.cells hbel hk a ha
    have hbs := hbel.size
    have j1 : (0 : Int) ≤ (k : Int) := by omega
    have j2 : (k : Int) < (ts.length : Int) := by omega
    obtain ⟨x, X, rfl, hX, hcase⟩ := hans.inv
    obtain ⟨g2, cap2, rfl, hg2, hg3⟩ := hown.form (by simp)
    have hcx : wr.cell? ⟨g2, X.length, none⟩ = some (.int .u8 (x.toNat : Int)) := by
      have := hown.cellAt X.length (by simp)
      rw [this]
      simp [bCells]
    have hcap : X.length + 1 ≤ cap2 := by
      rcases hown.2 with ⟨h0, _⟩ | ⟨_, c', _, h1, _, _, h2, _⟩
      · cases h0
      · cases h1; simpa using h2
    have HOWN := hide hown
    simp only [List.length_cons] at hTl ⊢
    have i1 : (0 : Int) < ((X.length + 1 : Nat) : Int) := by omega
    have i2 : ((X.length + 1 : Nat) : Int) - 1 = (X.length : Int) := by omega
    have i3 : (X.length : Int) < ((X.length + 1 : Nat) : Int) := by omega
    have i4 : (0 : Int) ≤ (X.length : Int) := by omega
    have i5 : (X.length : Int) ≤ (cap2 : Int) := by omega
    have hts : a.c = 115 → 0 < a.word.size := fun h => by
      have hc := c115 (tkAt ts k)
      rw [← ha, h] at hc
      have h4 : (tkAt ts k).kind = 4 := by simpa using hc.symm
      have hw : a.word = (tkAt ts k).text := by rw [ha]; unfold rtok; simp [h4]
      have hne := (HF.out k).pos (by omega)
      rw [hw]
      rw [← size_len]
      exact List.length_pos_iff.2 hne
    have HSTEP := hide (tok_step a wr)
    clear hown hans
    rcases hcase with ⟨rfl, hk0, hr⟩ | ⟨h80, hr0, hr⟩ | ⟨n', m, u, hgk, h80, hrule, hnext⟩
    · have q1 : ((a.c : Int) == 101) = true := by
        have := c101 (tkAt ts k)
        rw [← ha, hk0] at this
        rw [show (101 : Int) = ((101 : Nat) : Int) from rfl, beq_cast, this]; rfl
      have HR := hide hr
      clear hr hk0 ha
      go_wp2
      go_ret
      exact ⟨by rw [HR.out]; rfl, hbel.alloc hbel.size _⟩
    · have hq : (((x.toNat : Int) == 80) = true ∧ ((a.c : Int) == 101) = false) ∨ ((x.toNat : Int) == 80) = false := by
        by_cases hx : x = 80
        · left
          refine ⟨by rw [hx]; rfl, ?_⟩
          have := c101 (tkAt ts k)
          rw [← ha, beq_eq_false_iff_ne.2 (fun hz => h80 ⟨hx, hz⟩)] at this
          rw [show (101 : Int) = ((101 : Nat) : Int) from rfl, beq_cast, this]
        · right
          rw [beq_eq_false_iff_ne]
          intro h
          exact hx (UInt8.toNat_inj.1 (show x.toNat = 80 by omega))
      have hp : (tkAt ts k).pos = a.pos := by rw [ha]; rfl
      rw [← ha] at hr0
      rw [hp] at hr
      have HR := hide hr
      have HR0 := hide hr0
      clear hr hr0 ha hp h80
      rcases hq with ⟨q1, q2⟩ | q1
      all_goals
        go_wp2_with fail
        refine (rule_any x.toNat a e _ hts).mono ?_
        rintro e1 w1 ⟨rfl, hb1⟩
        obtain ⟨m, u, ok, hm⟩ : ∃ m u ok, ruleF x.toNat a e = (m, u, ok) := ⟨_, _, _, rfl⟩
        have hok := HR0.out
        rw [hm] at hok ⊢
        simp only at hok
        subst hok
        obtain ⟨d0, d1, d2, d3, hbw⟩ := HSTEP.out w1 hb1
        clear hb1 hm
        go_wp2_with fail
        go_ret
        exact ⟨by rw [HR.out]; rfl, hbel.trans (hbw.mono hbel.size)⟩
    · have hq : (((x.toNat : Int) == 80) = true ∧ ((a.c : Int) == 101) = false) ∨ ((x.toNat : Int) == 80) = false := by
        by_cases hx : x = 80
        · left
          refine ⟨by rw [hx]; rfl, ?_⟩
          have := c101 (tkAt ts k)
          rw [← ha, beq_eq_false_iff_ne.2 (fun hz => h80 ⟨hx, hz⟩)] at this
          rw [show (101 : Int) = ((101 : Nat) : Int) from rfl, beq_cast, this]
        · right
          rw [beq_eq_false_iff_ne]
          intro h
          exact hx (UInt8.toNat_inj.1 (show x.toNat = 80 by omega))
      have hk1 := (HF.out k).kw [40] (by decide)
      have hk2 := (HF.out k).kw [41] (by decide)
      rw [← ha] at hrule hk1 hk2
      have hml := hnext.len.1
      rw [List.length_append] at hml
      have HRU := hide hrule
      have HNX := hide hnext
      have HGK := hide hgk
      have HK := hide (And.intro hk1 hk2)
      clear hrule hnext hgk ha h80 hk1 hk2
      rcases hq with ⟨q1, q2⟩ | q1
      all_goals
        go_wp2_with fail
        refine (rule_any x.toNat a e _ hts).mono ?_
        rintro e1 w1 ⟨rfl, hb1⟩
        obtain ⟨M, hM1, hM2⟩ : ∃ M : ByteArray, M.data.toList = m ∧ tri (m, u, true) = .tuple #[.string M, .bool u, .bool true] := ⟨⟨m.toArray⟩, by simp, rfl⟩
        rw [HRU.out, hM2]
        have hMs : M.size = m.length := by rw [← hM1, size_len]
        have hown1 := bel_own (HOWN.out.alloc (.cells #[.int .u8 (a.c : Int), .string a.word, .int .i64 (a.pos : Int), .int .i64 (a.n : Int)] 108)) hb1
        rw [List.reverse_cons, bCells_app] at hown1
        have hown2 := ownsRow_pop (by simp [bCells]) hown1
        have hbx1 : wr.heap.size < w1.heap.size := by have := hb1.size; simp at this; omega
        obtain ⟨d0, d1, d2, d3, hbw⟩ := HSTEP.out w1 hb1
        have hbel1 : Below w.heap.size w w1 := hbel.trans (hbw.mono hbel.size)
        have HO2 := hide hown2
        have HM := hide (And.intro hM1 hMs)
        have k1 : (M.size : Int) ≤ 100 := by omega
        clear hb1 hown1 hown2 d0 d2 d3 hbw x0 x1 x2 x3 hcx hM1 hM2 hMs HRU hts HSTEP HOWN
        go_wp2_with fail
        generalize wr.heap.size = B at hg3 hbs d1 hbx1 ⊢
        go_loopw [3, 11] (fun v kk wx => ∃ j : Nat, j ≤ m.length ∧ kk = .int .i64 ((j : Int) - 1) ∧ wx.ownsRow w.heap.size 5 1 v (X.length + (m.length - j)) (bCells (X.reverse ++ (m.drop j).reverse)) ∧ Below w.heap.size w wx ∧ wx.cell? ⟨B, 1, none⟩ = some (.string a.word) ∧ v.ownBlock ≠ some B ∧ B < wx.heap.size) (fun _ kk _ => ((intOf kk) + 1).toNat)
        case atStart =>
          refine ⟨m.length, Nat.le_refl _, by rw [HM.out.2], ?_, hbel1, d1, ?_, hbx1⟩
          · rw [Nat.sub_self, Nat.add_zero, List.drop_length, List.reverse_nil, List.append_nil]
            exact HO2.out
          · intro h
            have : g2 = B := by simpa [Value.ownBlock] using h
            omega
        case round =>
          clear hbel hbel1 d1 HO2 hbx1
          obtain ⟨j, hj, rfl, hownx, hbelx, hcx, hne, hBlt⟩ := hrel
          have hbsx := hbelx.size
          cases j with
          | zero =>
            rw [List.drop_zero, Nat.sub_zero] at hownx
            have hlast : (bCells (X.reverse ++ m.reverse)) = bCells (m ++ X).reverse := by rw [List.reverse_append]
            have hlen : X.length + m.length = (m ++ X).length := by rw [List.length_append]; omega
            rw [hlast, hlen] at hownx
            have HO := hide hownx
            clear hownx hlast hlen
            have z1 : ¬ (0 : Int) ≤ ((0 : Nat) : Int) - 1 := by omega
            cases u with
            | false =>
              have hnx := HNX.out
              rw [if_neg (by simp), if_neg (by simp), if_neg (by simp)] at hnx
              have HN2 := hide hnx
              clear hnx
              go_wp2
              go_roundg n'
              case measure => have := HGK.out; omega
              case rel => exact ⟨m ++ X, e, k, rfl, rfl, he1, he2, HN2.out, HO.out, hbelx⟩
            | true =>
              have hnx := HNX.out
              by_cases h1 : a.l = [40]
              · have s1 := str_yes (t := a.word) h1
                rw [if_pos ⟨rfl, HK.out.1.1 h1⟩, if_pos rfl] at hnx
                have HN2 := hide hnx
                clear hnx h1
                go_wp2
                go_roundg n'
                case measure => have := HGK.out; omega
                case rel => exact ⟨m ++ X, e + 1, k + 1, by go_num, by go_num, by omega, by omega, HN2.out, HO.out, hbelx⟩
              · have s1 := str_no (t := a.word) h1
                by_cases h2 : a.l = [41]
                · have s2 := str_yes (t := a.word) h2
                  rw [if_neg (fun h => h1 (HK.out.1.2 h.2)), if_pos ⟨rfl, HK.out.2.1 h2⟩, if_pos rfl] at hnx
                  have HN2 := hide hnx
                  clear hnx h1 h2 s1
                  go_wp2
                  go_roundg n'
                  case measure => have := HGK.out; omega
                  case rel => exact ⟨m ++ X, e - 1, k + 1, by go_num, by go_num, by omega, by omega, HN2.out, HO.out, hbelx⟩
                · have s2 := str_no (t := a.word) h2
                  rw [if_neg (fun h => h1 (HK.out.1.2 h.2)), if_neg (fun h => h2 (HK.out.2.2 h.2)), if_pos rfl] at hnx
                  have HN2 := hide hnx
                  clear hnx h1 h2
                  go_wp2
                  go_roundg n'
                  case measure => have := HGK.out; omega
                  case rel => exact ⟨m ++ X, e, k + 1, rfl, by go_num, by omega, by omega, HN2.out, HO.out, hbelx⟩
          | succ j =>
            have hMs := HM.out.2
            have hjm : j < M.size := by omega
            have eb := byt_eq M j hjm
            have z1 : ((j + 1 : Nat) : Int) - 1 = (j : Int) := by omega
            have z2 : (0 : Int) ≤ (j : Int) := by omega
            have z3 : (j : Int) < (M.size : Int) := by omega
            have HOX := hide hownx
            have hnl : X.length + (m.length - (j + 1)) ≤ 200 := by omega
            clear hMs
            rw [z1]
            go_wp2_with (at_builtin; refine wpList_append_lies _ rfl _ _ _ rfl w.heap.size 5 i0 _ 1 1 Tryz.underlying131 hi0 hz0 hz1 hz2 rfl (by omega) _ (X.length + (m.length - (j + 1))) (bCells (X.reverse ++ (m.drop (j + 1)).reverse)) rfl (HOX.out.alloc _) ⟨wr.heap.size, 0, none⟩ 1 1 [.int .u8 (byt M j : Int)] rfl rfl (World.news_of_block (cs := #[.int .u8 (byt M j : Int)]) (t := 5) (fr := (0, 0)) (heap_alloc_new wr _)) (by simp [Value.oneCell']) (by omega) (by unfold maxLen; omega) (by omega) (by simp; omega) (wr.heap.size + 1) (by simp) ?_; intro g3 cap3 w3 hown3 hgrow hat hlt3)
            go_roundw
            case rel =>
              have hml2 : j < m.length := by omega
              have hb2 : byt M j = (m[j]'hml2).toNat := by
                unfold byt; rw [HM.out.1, List.getD_eq_getElem?_getD, List.getElem?_eq_getElem hml2]; rfl
              have hsz3 := hgrow.size
              simp at hsz3
              refine ⟨j, by omega, by go_num, ?_, ?_, ?_, ?_, by omega⟩
              · rw [List.drop_eq_getElem_cons hml2, List.reverse_cons, ← List.append_assoc, bCells_app, show X.length + (m.length - j) = X.length + (m.length - (j + 1)) + 1 by omega]
                have e1 : bCells [m[j]'hml2] = [.int .u8 (byt M j : Int)] := by rw [hb2]; rfl
                rw [e1]
                exact hown3
              · exact (hbelx.alloc hbelx.size _).grown hgrow (by simp; omega) (fun j hj => ownBlock_ge HOX.out j hj)
              · exact hgrow.cell (by rw [World.cell?_alloc_past _ _ _ hBlt]; exact hcx) (fun h => hne h.symm)
              · intro h
                have h' : g3 = B := by simpa [Value.ownBlock] using h
                rcases hat with hat | hat
                · rw [h'] at hat; exact hne hat
                · omega
            case measure => simp [intOf]

end Go.Proofs.YtmndgoapkmhglaaGreat

namespace Go.Proofs.YtmndgoapkmhglaaGreat
open Go.RowKit
attribute [local go_sem ↓] Go.wp_at_zero Go.wp_at_succ

/-- a declaration as the document's own reader has it. -/
structure RDc where
  name : ByteArray
  tok : Nat
  input : Bool
  truth : Bool
  place : Nat
  body : Nat

def rdc (ts : List Tk) (x : Dl) : RDc := if x.kind = 0 then ⟨nameD ts x, x.i + 1, true, false, 0, 0⟩ else ⟨nameD ts x, x.i + 1, false, x.kind == 2, placeD ts x, x.i + 5⟩
def RDc.cells (d : RDc) : List Value := [.string d.name, .int .i64 (d.tok : Int), .bool d.input, .bool d.truth, .int .i64 (d.place : Int), .int .i64 (d.body : Int)]
def rdCells (l : List RDc) : List Value := l.flatMap RDc.cells
theorem rdCells_snoc (l : List RDc) (t : RDc) : rdCells (l ++ [t]) = rdCells l ++ t.cells := by simp [rdCells]
theorem rd_len (t : RDc) : t.cells.length = 6 := rfl

theorem Tryz.infoRDecl : (Tryz.prog.info? 105).map (fun i => (i.zero, i.size, i.bytes)) = some (some (.agg #[.string ⟨#[]⟩, .int .i64 0, .bool false, .bool false, .int .i64 0, .int .i64 0]), 6, 48) := by kernel_rfl

/-- a row in a program that is being laid. -/
structure Rw where
  v : Value
  e : Nat
  sz : Nat
  n : Nat
  xs : List Value

/-- a program that is being laid: its block, and its rows, each its own. -/
structure RPV (w : World) (B q : Nat) (vT : Value) (R : Nat → Rw) : Prop where
  lt : q < w.heap.size
  blk : w.heap[q]? = some (.cells #[vT, (R 1).v, (R 2).v, (R 3).v, (R 4).v] 73)
  own : ∀ f, w.ownsRow B (R f).e (R f).sz (R f).v (R f).n (R f).xs
  nq : ∀ f, (R f).v.ownBlock ≠ some q
  dis : ∀ f f' k, f ≠ f' → (R f).v.ownBlock = some k → (R f').v.ownBlock ≠ some k

theorem RPV.below {w w' : World} {B q : Nat} {vT : Value} {R : Nat → Rw} (h : RPV w B q vT R) (hb : Below w.heap.size w w') : RPV w' B q vT R :=
  ⟨Nat.lt_of_lt_of_le h.lt hb.size, (hb.block q h.lt).trans h.blk, fun f => bel_own (h.own f) hb, h.nq, h.dis⟩

def putR (R : Nat → Rw) (f : Nat) (r : Rw) : Nat → Rw := fun k => if k = f then r else R k

theorem putR_at (R : Nat → Rw) (f : Nat) (r : Rw) : putR R f r f = r := by unfold putR; rw [if_pos rfl]
theorem putR_ne (R : Nat → Rw) (f k : Nat) (r : Rw) (h : k ≠ f) : putR R f r k = R k := by unfold putR; rw [if_neg h]
theorem putR_put (R : Nat → Rw) (f : Nat) (r r' : Rw) : putR (putR R f r) f r' = putR R f r' := by funext k; unfold putR; split <;> rfl

theorem RPV.push {w w1 : World} {B q : Nat} {vT : Value} {R : Nat → Rw} (h : RPV w B q vT R) (f : Nat) (r : Rw) (hr : R f = r) (hf : 1 ≤ f ∧ f ≤ 4) {g cap n : Nat} {xs : List Value} (hgrow : w.grownBy w1 r.v.ownBlock)
    (hown : w1.ownsRow B r.e r.sz (.slice (some ⟨g, 0, none⟩) n cap) n xs) (hat : r.v.ownBlock = some g ∨ w.heap.size ≤ g) :
    RPV (w1.setCell ⟨q, f, none⟩ (.slice (some ⟨g, 0, none⟩) n cap)) B q vT (putR R f ⟨.slice (some ⟨g, 0, none⟩) n cap, r.e, r.sz, n, xs⟩) := by
  subst hr
  have gq : g ≠ q := by
    rcases hat with hg | hg
    · rintro rfl; exact h.nq f hg
    · have := h.lt; omega
  have hg2 : w1.grownBy (w1.setCell ⟨q, f, none⟩ (.slice (some ⟨g, 0, none⟩) n cap)) (some q) := ⟨rfl, rfl, rfl, by simp, fun k _ hk => heap_setCell_other w1 ⟨q, f, none⟩ k _ (fun e => hk (by simp [e]))⟩
  have hbb : w1.heap[q]? = w.heap[q]? := hgrow.block q h.lt (Ne.symm (h.nq f))
  have hnew : ∀ f', f' ≠ f → ∀ k, (R f').v.ownBlock = some k → k ≠ g := by
    intro f' hne k hk
    rcases hat with hg | hg
    · rintro rfl; exact h.dis f' f k hne hk hg
    · have := ((h.own f').lt k hk).2; omega
  refine ⟨?_, ?_, fun f' => ?_, fun f' => ?_, fun f1 f2 k hne => ?_⟩
  · have := hgrow.size; have := h.lt; simp; omega
  · rw [heap_setCell_same w1 q f _ _ _ (hbb.trans h.blk)]
    obtain ⟨h1, h4⟩ := hf
    have hc : f = 1 ∨ f = 2 ∨ f = 3 ∨ f = 4 := by omega
    rcases hc with rfl | rfl | rfl | rfl <;> rfl
  · unfold putR
    split
    · exact hown.kept hg2 (.inr (by simp [Value.ownBlock, gq]))
    · rename_i hne
      refine ((h.own f').kept hgrow ?_).kept hg2 (.inr (h.nq f'))
      cases hv : (R f').v.ownBlock with
      | none => exact .inl rfl
      | some k => exact .inr (fun e => h.dis f' f k hne hv e.symm)
  · unfold putR
    split
    · simp [Value.ownBlock, gq]
    · exact h.nq f'
  · unfold putR
    split
    · rename_i e1
      rw [if_neg (fun e2 => hne (e1.trans e2.symm))]
      intro hk h2
      have : g = k := by simpa [Value.ownBlock] using hk
      exact hnew f2 (fun e2 => hne (e1.trans e2.symm)) k h2 this.symm
    · rename_i e1
      intro hk
      split
      · intro h2
        have : g = k := by simpa [Value.ownBlock] using h2
        exact hnew f1 e1 k hk this.symm
      · exact h.dis f1 f2 k hne hk

def R0 : Nat → Rw := fun f => if f = 1 then ⟨.slice none 0 0, 3, 1, 0, []⟩ else ⟨.slice none 0 0, 105, 6, 0, []⟩

theorem R0_nil (f : Nat) : (putR R0 1 ⟨.slice none 0 0, 3, 1, 0, []⟩ f).v = .slice none 0 0 ∧ (putR R0 1 ⟨.slice none 0 0, 3, 1, 0, []⟩ f).n = 0 ∧ (putR R0 1 ⟨.slice none 0 0, 3, 1, 0, []⟩ f).xs = [] := by
  unfold putR R0
  split
  · exact ⟨rfl, rfl, rfl⟩
  · exact ⟨rfl, rfl, rfl⟩

/-- the rows of a program. -/
def RRw (n : Nat) (xs : List Value) (v vA vI vQ : Value) (A I Q : List RDc) : Nat → Rw := fun f =>
  if f = 1 then ⟨v, 3, 1, n, xs⟩ else if f = 2 then ⟨vA, 105, 6, A.length, rdCells A⟩ else if f = 3 then ⟨vI, 105, 6, I.length, rdCells I⟩
  else if f = 4 then ⟨vQ, 105, 6, Q.length, rdCells Q⟩ else ⟨.slice none 0 0, 105, 6, 0, []⟩
theorem RRw_put2 (n : Nat) (xs : List Value) (v vA vI vQ u : Value) (A I Q : List RDc) (d : RDc) : putR (RRw n xs v vA vI vQ A I Q) 2 ⟨u, 105, 6, A.length + 1, rdCells A ++ d.cells⟩ = RRw n xs v u vI vQ (A ++ [d]) I Q := by
  funext f; unfold putR RRw
  by_cases h : f = 2
  · subst h; simp [rdCells_snoc]
  · rw [if_neg h]; simp [h]
theorem RRw_put3 (n : Nat) (xs : List Value) (v vA vI vQ u : Value) (A I Q : List RDc) (d : RDc) : putR (RRw n xs v vA vI vQ A I Q) 3 ⟨u, 105, 6, I.length + 1, rdCells I ++ d.cells⟩ = RRw n xs v vA u vQ A (I ++ [d]) Q := by
  funext f; unfold putR RRw
  by_cases h : f = 3
  · subst h; simp [rdCells_snoc]
  · rw [if_neg h]; simp [h]
theorem RRw_put4 (n : Nat) (xs : List Value) (v vA vI vQ u : Value) (A I Q : List RDc) (d : RDc) : putR (RRw n xs v vA vI vQ A I Q) 4 ⟨u, 105, 6, Q.length + 1, rdCells Q ++ d.cells⟩ = RRw n xs v vA vI u A I (Q ++ [d]) := by
  funext f; unfold putR RRw
  by_cases h : f = 4
  · subst h; simp [rdCells_snoc]
  · rw [if_neg h]; simp [h]
theorem RRw_start (n : Nat) (xs : List Value) (v : Value) : putR R0 1 ⟨v, 3, 1, n, xs⟩ = RRw n xs v (.slice none 0 0) (.slice none 0 0) (.slice none 0 0) [] [] [] := by
  funext f; unfold putR R0 RRw
  by_cases h : f = 1
  · simp [h]
  · rw [if_neg h, if_neg h, if_neg h]
    by_cases h2 : f = 2
    · simp [h2, rdCells]
    · by_cases h3 : f = 3
      · simp [h3, rdCells]
      · by_cases h4 : f = 4
        · simp [h4, rdCells]
        · simp [h2, h3, h4]

/-- a program that is being laid, and a declaration in its box. -/
structure St (w0 W : World) (q N : Nat) (vT : Value) (R : Nat → Rw) (d : RDc) : Prop where
  rp : RPV W w0.heap.size q vT R
  blk : W.heap[N]? = some (.cells #[.string d.name, .int .i64 (d.tok : Int), .bool d.input, .bool d.truth, .int .i64 (d.place : Int), .int .i64 (d.body : Int)] 105)
  nq : N ≠ q
  nr : ∀ f, (R f).v.ownBlock ≠ some N
  bel : Below w0.heap.size w0 W
  q0 : w0.heap.size ≤ q

theorem St.push {w0 W w3 : World} {q N : Nat} {vT : Value} {R : Nat → Rw} {d : RDc} (h : St w0 W q N vT R d) (f : Nat) (r : Rw) (hr : R f = r) (hf : 1 ≤ f ∧ f ≤ 4) (o : Obj) {g cap n : Nat} {xs : List Value}
    (hgrow : (W.alloc o).drew.grownBy w3 r.v.ownBlock) (hown : w3.ownsRow w0.heap.size r.e r.sz (.slice (some ⟨g, 0, none⟩) n cap) n xs) (hat : r.v.ownBlock = some g ∨ g = W.heap.size + 1) :
    St w0 (w3.setCell ⟨q, f, none⟩ (.slice (some ⟨g, 0, none⟩) n cap)) q N vT (putR R f ⟨.slice (some ⟨g, 0, none⟩) n cap, r.e, r.sz, n, xs⟩) d := by
  have hlt : N < W.heap.size := by
    rcases Nat.lt_or_ge N W.heap.size with hl | hg
    · exact hl
    · have := h.blk; rw [Array.getElem?_eq_none hg] at this; cases this
  have hNr : r.v.ownBlock ≠ some N := hr ▸ h.nr f
  have hgN : g ≠ N := by
    rcases hat with hg | hg
    · rintro rfl; exact hNr hg
    · omega
  have hb : Below W.heap.size W (W.alloc o).drew := ((Below.refl _ _).alloc (Nat.le_refl _) o).drew
  have hsz : (W.alloc o).drew.heap.size = W.heap.size + 1 := by simp
  have hbe : ∀ k, r.v.ownBlock = some k → w0.heap.size ≤ k := fun k hk => ((hr ▸ h.rp.own f : W.ownsRow w0.heap.size r.e r.sz r.v r.n r.xs).lt k hk).1
  refine ⟨(h.rp.below hb).push f r hr hf hgrow hown (hat.imp id (fun e => by rw [hsz]; omega)), ?_, h.nq, fun f' => ?_, ?_, h.q0⟩
  · rw [heap_setCell_other w3 ⟨q, f, none⟩ N _ h.nq, hgrow.block N (by rw [hsz]; omega) (Ne.symm hNr)]
    rw [hb.block N hlt]; exact h.blk
  · unfold putR
    split
    · simp [Value.ownBlock, hgN]
    · exact h.nr f'
  · refine Below.setCell ?_ h.q0 _
    exact (h.bel.trans (hb.mono h.bel.size)).grown hgrow (by rw [hsz]; have := h.bel.size; omega) (fun j hj => hbe j hj)

theorem St.cells {w0 W : World} {q N : Nat} {vT : Value} {R : Nat → Rw} {d : RDc} (h : St w0 W q N vT R d) :
    N < W.heap.size ∧ q < W.heap.size ∧ (W.cell? ⟨N, 0, none⟩ = some (.string d.name) ∧ W.cell? ⟨N, 1, none⟩ = some (.int .i64 (d.tok : Int)) ∧ W.cell? ⟨N, 2, none⟩ = some (.bool d.input) ∧ W.cell? ⟨N, 3, none⟩ = some (.bool d.truth) ∧ W.cell? ⟨N, 4, none⟩ = some (.int .i64 (d.place : Int)) ∧ W.cell? ⟨N, 5, none⟩ = some (.int .i64 (d.body : Int))) := by
  have hlt : N < W.heap.size := by
    rcases Nat.lt_or_ge N W.heap.size with hl | hg
    · exact hl
    · have := h.blk; rw [Array.getElem?_eq_none hg] at this; cases this
  exact ⟨hlt, h.rp.lt, cell_of_row W N 0 _ _ _ h.blk, cell_of_row W N 1 _ _ _ h.blk, cell_of_row W N 2 _ _ _ h.blk, cell_of_row W N 3 _ _ _ h.blk, cell_of_row W N 4 _ _ _ h.blk, cell_of_row W N 5 _ _ _ h.blk⟩

theorem St.row {w0 W : World} {q N : Nat} {vT : Value} {R : Nat → Rw} {d : RDc} (h : St w0 W q N vT R d) (f : Nat) (r : Rw) (hr : R f = r) (hf : 1 ≤ f ∧ f ≤ 4) :
    (∀ o, (W.alloc o).cell? ⟨q, f, none⟩ = some r.v) ∧ (∀ o, (W.alloc o).frozen? ⟨q, f, none⟩ = false) ∧ W.cell? ⟨q, f, none⟩ = some r.v ∧ W.frozen? ⟨q, f, none⟩ = false ∧ W.ownsRow w0.heap.size r.e r.sz r.v r.n r.xs ∧ r.v.ownBlock ≠ some q := by
  subst hr
  have c : W.cell? ⟨q, f, none⟩ = some (R f).v := by
    have hc : f = 1 ∨ f = 2 ∨ f = 3 ∨ f = 4 := by omega
    rcases hc with rfl | rfl | rfl | rfl
    · exact cell_of_row W q 1 _ _ _ h.rp.blk
    · exact cell_of_row W q 2 _ _ _ h.rp.blk
    · exact cell_of_row W q 3 _ _ _ h.rp.blk
    · exact cell_of_row W q 4 _ _ _ h.rp.blk
  have fz : W.frozen? ⟨q, f, none⟩ = false := frozen_of_row W q f _ _ h.rp.blk
  exact ⟨fun o => by rw [World.cell?_alloc_past _ _ _ h.rp.lt]; exact c, fun o => by rw [World.frozen?_alloc_past _ _ _ h.rp.lt]; exact fz, c, fz, h.rp.own f, h.rp.nq f⟩

theorem St.below {w0 W W' : World} {q N : Nat} {vT : Value} {R : Nat → Rw} {d : RDc} (h : St w0 W q N vT R d) (hb : Below W.heap.size W W') : St w0 W' q N vT R d := by
  have hlt := h.cells.1
  exact ⟨h.rp.below hb, (hb.block N hlt).trans h.blk, h.nq, h.nr, h.bel.trans (hb.mono h.bel.size), h.q0⟩

theorem St.poke {w0 W : World} {q N : Nat} {vT : Value} {R : Nat → Rw} {d : RDc} (h : St w0 W q N vT R d) (hN : w0.heap.size ≤ N) (tr : Bool) (pl bo : Nat) :
    St w0 (((W.setCell ⟨N, 3, none⟩ (.bool tr)).setCell ⟨N, 4, none⟩ (.int .i64 (pl : Int))).setCell ⟨N, 5, none⟩ (.int .i64 (bo : Int))) q N vT R ⟨d.name, d.tok, d.input, tr, pl, bo⟩ := by
  have keep : ∀ (W : World) (k : Nat) (u : Value), RPV W w0.heap.size q vT R → RPV (W.setCell ⟨N, k, none⟩ u) w0.heap.size q vT R := fun W k u hr =>
    ⟨by have := hr.lt; simpa using this, (heap_setCell_other W ⟨N, k, none⟩ q _ (Ne.symm h.nq)).trans hr.blk,
     fun f => (hr.own f).kept (row := some N) ⟨rfl, rfl, rfl, by simp, fun j _ hj => heap_setCell_other W ⟨N, k, none⟩ j _ (fun e => hj (by simp [e]))⟩ (.inr (h.nr f)), hr.nq, hr.dis⟩
  refine ⟨keep _ _ _ (keep _ _ _ (keep _ _ _ h.rp)), ?_, h.nq, h.nr, ((h.bel.setCell hN _).setCell hN _).setCell hN _, h.q0⟩
  rw [heap_setCell_same _ N 5 _ _ _ (heap_setCell_same _ N 4 _ _ _ (heap_setCell_same _ N 3 _ _ _ h.blk))]
  rfl

end Go.Proofs.YtmndgoapkmhglaaGreat

namespace Go.Proofs.YtmndgoapkmhglaaGreat
open Go.RowKit
attribute [local go_sem ↓] Go.wp_at_zero Go.wp_at_succ

/-- a program as the document's own reader has laid it. -/
structure RProg (w : World) (q g cap : Nat) (ts : List Tk) (L : List Dl) (vE vA vI vQ : Value) : Prop where
  lt : q < w.heap.size
  c0 : w.cell? ⟨q, 0, none⟩ = some (.slice (some ⟨g, 0, none⟩) ts.length cap)
  c1 : w.cell? ⟨q, 1, none⟩ = some vE
  c2 : w.cell? ⟨q, 2, none⟩ = some vA
  c3 : w.cell? ⟨q, 3, none⟩ = some vI
  c4 : w.cell? ⟨q, 4, none⟩ = some vQ
  toks : TokAt w g cap ts
  ends : w.ownsRow 0 3 1 vE ts.length (pCells ((List.range ts.length).map (behindF ts)))
  all : w.ownsRow 0 105 6 vA L.length (rdCells (L.map (rdc ts)))
  ins : w.ownsRow 0 105 6 vI (inL L).length (rdCells ((inL L).map (rdc ts)))
  eqs : w.ownsRow 0 105 6 vQ (eqL L).length (rdCells ((eqL L).map (rdc ts)))

theorem RProg.below {w w' : World} {q g cap : Nat} {ts : List Tk} {L : List Dl} {vE vA vI vQ : Value} (h : RProg w q g cap ts L vE vA vI vQ) (hb : Below w.heap.size w w') : RProg w' q g cap ts L vE vA vI vQ :=
  ⟨Nat.lt_of_lt_of_le h.lt hb.size, (hb.cell h.lt).trans h.c0, (hb.cell h.lt).trans h.c1, (hb.cell h.lt).trans h.c2, (hb.cell h.lt).trans h.c3, (hb.cell h.lt).trans h.c4, h.toks.below hb, bel_own h.ends hb, bel_own h.all hb, bel_own h.ins hb, bel_own h.eqs hb⟩

abbrev RDc.val (d : RDc) : Value := .agg #[.string d.name, .int .i64 (d.tok : Int), .bool d.input, .bool d.truth, .int .i64 (d.place : Int), .int .i64 (d.body : Int)]

theorem rd_later {w wr : World} {g cap : Nat} {ts : List Tk} {l : List Dl} (h : w.ownsRow 0 105 6 (.slice (some ⟨g, 0, none⟩) l.length cap) l.length (rdCells (l.map (rdc ts)))) (hb : Below w.heap.size w wr) (hg : g < w.heap.size) {k : Nat} (hk : k < l.length) (a : RDc) (ha : a = rdc ts (l[k]'hk)) :
    wr.cell? ⟨g, k * 6, none⟩ = some (.string a.name) ∧ wr.cell? ⟨g, k * 6 + 1, none⟩ = some (.int .i64 (a.tok : Int)) ∧ wr.cell? ⟨g, k * 6 + 2, none⟩ = some (.bool a.input) ∧ wr.cell? ⟨g, k * 6 + 3, none⟩ = some (.bool a.truth) ∧
    wr.cell? ⟨g, k * 6 + 4, none⟩ = some (.int .i64 (a.place : Int)) ∧ wr.cell? ⟨g, k * 6 + 5, none⟩ = some (.int .i64 (a.body : Int)) := by
  have hcr : ∀ j, j < 6 → wr.cell? ⟨g, k * 6 + j, none⟩ = a.cells[j]? := fun j hj => by
    rw [hb.cell (p := ⟨g, k * 6 + j, none⟩) hg, h.cellAt (k * 6 + j) (by omega)]
    have e := flat_get RDc.cells 6 rd_len (l.map (rdc ts)) k j (by simpa using hk) hj
    rw [List.getElem_map, ← ha] at e
    exact e
  exact ⟨hcr 0 (by omega), hcr 1 (by omega), hcr 2 (by omega), hcr 3 (by omega), hcr 4 (by omega), hcr 5 (by omega)⟩

theorem end_later {w wr : World} {g cap : Nat} {ts : List Tk} (h : w.ownsRow 0 3 1 (.slice (some ⟨g, 0, none⟩) ts.length cap) ts.length (pCells ((List.range ts.length).map (behindF ts)))) (hb : Below w.heap.size w wr) (hg : g < w.heap.size) {k : Nat} (hk : k < ts.length) :
    wr.cell? ⟨g, k, none⟩ = some (.int .i64 (behindF ts k : Nat)) := by
  rw [hb.cell (p := ⟨g, k, none⟩) hg, h.cellAt k (by omega)]
  unfold pCells
  rw [List.getElem?_map, List.getElem?_map, List.getElem?_range hk]
  rfl

set_option maxHeartbeats 1000000 in
theorem rplace_any (w : World) (q g cap : Nat) (ts : List Tk) (L : List Dl) (vE vA vI vQ : Value) (h : RProg w q g cap ts L vE vA vI vQ) (d : RDc) (hd : d.tok < ts.length) :
    Calls Tryz.prog 72 #[.pointer (some ⟨q, 0, none⟩), d.val] w fun e w' => e = .returned (.int .i64 ((tkAt ts d.tok).pos : Nat)) ∧ Below w.heap.size w w' := by
  have c0 : ∀ o, (w.alloc o).cell? ⟨q, 0, none⟩ = some (.slice (some ⟨g, 0, none⟩) ts.length cap) := fun o => by rw [World.cell?_alloc_past _ _ _ h.lt]; exact h.c0
  obtain ⟨a, ha⟩ : ∃ a, a = rtok (tkAt ts d.tok) := ⟨_, rfl⟩
  have x2 : ∀ o, (w.alloc o).cell? ⟨g, d.tok * 4 + 2, none⟩ = some (.int .i64 (a.pos : Int)) := fun o => by
    rw [World.cell?_alloc_past _ _ _ h.toks.lt]; exact (h.toks.cells (Below.refl _ _) hd a ha).2.2.1
  have HP : Hid ((tkAt ts d.tok).pos = a.pos) := hide (by rw [ha]; rfl)
  have j1 : (0 : Int) ≤ (d.tok : Int) := by omega
  have j2 : (d.tok : Int) < (ts.length : Int) := by omega
  clear h ha
  go_enter Tryz.func72, Tryz.ntmps72
  go_wp2_with fail
  go_quiet (fail)
  go_wp2
  go_ret
  exact ⟨by rw [HP.out]; rfl, below_drewN ((Below.refl _ _).alloc (Nat.le_refl _) _) _⟩

/-- a place, or -1. -/
def optI (o : Option Nat) : Value := .int .i64 (match o with | some a => (a : Int) | none => -1)

end Go.Proofs.YtmndgoapkmhglaaGreat
