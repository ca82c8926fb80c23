import Derived.Test.YtmndgoapkmhglaaM06JudA
import Derived.Test.YtmndgoapkmhglaaM12JudN
import Derived.Test.YtmndgoapkmhglaaM17AstO
import Derived.Test.YtmndgoapkmhglaaM25OpenL
import Derived.Test.YtmndgoapkmhglaaM32StrD
/- Prefixed: cut. -/
namespace Go.Proofs.Ytmndgoapkmhglaa
open Go.RowKit
attribute [local go_sem ↓] Go.wp_at_zero Go.wp_at_succ

theorem RowAt.take {w : World} {A : Option Addr} {C : Nat} {zs : List Int} (h : RowAt w (.slice A zs.length C) zs) {n : Nat} (hn : n ≤ zs.length) : RowAt w (.slice A n C) (zs.take n) := by
  obtain ⟨A', C', he, hm, hc⟩ := h
  simp only [Value.slice.injEq, true_and] at he
  obtain ⟨rfl, rfl⟩ := he
  have hl : (zs.take n).length = n := by rw [List.length_take]; omega
  refine ⟨A, C, by rw [hl], by omega, fun hp => ?_⟩
  obtain ⟨b, o, h1, h2, h3⟩ := hc (by omega)
  exact ⟨b, o, h1, h2, fun c hc' => by rw [List.getElem_take]; exact h3 c (by omega)⟩

theorem ls_of_own {w : World} {B : Nat} {v : Value} {ins : List (List Int)} {vs : List Value} (h : w.ownsRow B 48 1 v ins.length vs) (hf : ins.length ≤ 8796093022208) (hr : ∀ r, (h : r < ins.length) → ∃ x, vs[r]? = some x ∧ RowAt w x ins[r]) : LsAt w v ins := by
  rcases h.2 with ⟨rfl, h0⟩ | ⟨g, cap, cur, rfl, hb, hg, h1, h2, h3, h4⟩
  · exact ⟨none, 0, by rw [h0], hf, fun hp => by omega⟩
  · refine ⟨_, _, rfl, hf, fun hp => ⟨g, 0, rfl, (Array.getElem?_eq_some_iff.1 hg).1, fun r hlt => ?_⟩⟩
    obtain ⟨x, hx, hrow⟩ := hr r hlt
    exact ⟨x, by rw [Nat.zero_add, h.cellAt r (by omega)]; exact hx, hrow⟩

set_option maxHeartbeats 2000000 in
set_option maxRecDepth 100000 in
theorem kcut_any (w : World) (A : Option Addr) (C : Nat) (ins : List (List Int)) (AS : Nat → Option Addr) (CS : Nat → Nat) (n : Nat) (h : ArgL w A C ins AS CS) (hn : n ≤ 1000) :
    Calls Try.prog 23 #[.slice A ins.length C, .int .i64 (n : Int)] w fun e w' => ∃ u, e = .returned u ∧ LsAt w' u (ins.map fun l => l.take n) ∧ Below w.heap.size w w' := by
  obtain ⟨i0, hi0, hz0, hz1, hz2⟩ := info_parts Try.infoIntsE
  have hf := h.few
  have HC := hide h
  clear h
  go_enter Try.func23, Try.ntmps23
  go_wp2
  go_loopw [5, 6] (fun v vi wr => ∃ (k : Nat) (vs : List Value), k ≤ ins.length ∧ vi = .int .i64 k ∧ vs.length = k ∧ wr.ownsRow w.heap.size 48 1 v k vs ∧ (∀ r, (h : r < ins.length) → r < k → ∃ x, vs[r]? = some x ∧ RowAt w x (ins[r].take n)) ∧ Below w.heap.size w wr) (fun _ vi _ => ins.length - (intOf vi).toNat)
  case atStart => exact ⟨0, [], Nat.zero_le _, rfl, rfl, World.ownsRow_nil _ _ _ _, fun r _ hr => by omega, Below.refl _ _⟩
  case round =>
    obtain ⟨k, vs, hk, rfl, hvl, hown, hrows, hbel⟩ := hrel
    have HR := hide hrows
    have HB := hide hbel
    have HVL := hide hvl
    have hbs := hbel.size
    clear hrows hvl
    by_cases hkl : k < ins.length
    · obtain ⟨b, o, rfl, hb, hcell⟩ := HC.out.out (by omega)
      have hrow := (HC.out.row k hkl).1
      have hcap := HC.out.cap k hkl
      have hlen := (HC.out.row k hkl).2.2
      have x1 := (hbel.cell (p := ⟨b, o + k, none⟩) hb).trans (hcell k hkl)
      have HRW := hide hrow
      have j3 : (0 : Int) ≤ (k : Int) := by omega
      have j4 : (k : Int) < (ins.length : Int) := by omega
      have HNX : Hid (∀ y, RowAt w y (ins[k].take n) → ∀ r, (h : r < ins.length) → r < k + 1 → ∃ x, (vs ++ [y])[r]? = some x ∧ RowAt w x (ins[r].take n)) := hide (fun y hy r hr hrk => by
        by_cases e : r = k
        · subst e
          exact ⟨y, by rw [List.getElem?_append_right (by rw [HVL.out]; omega), HVL.out]; simp, hy⟩
        · obtain ⟨x, h1, h2⟩ := HR.out r hr (by omega)
          exact ⟨x, by rw [List.getElem?_append_left (by rw [HVL.out]; omega)]; exact h1, h2⟩)
      obtain ⟨lk, hlk⟩ : ∃ lk, lk = ins[k].length := ⟨_, rfl⟩
      rw [← hlk] at x1 hcap hlen
      have HLK := hide hlk
      generalize AS k = Ak at x1 HRW
      generalize CS k = Ck at x1 HRW hcap
      clear hcell hrow hlk
      by_cases hgt : n < lk
      · have z1 : (n : Int) < (lk : Int) := by omega
        have z2 : n ≤ Ck := by omega
        have z3 : (n : Int) ≤ (Ck : Int) := by omega
        have z4 : (0 : Int) ≤ (n : Int) := by omega
        have HY : Hid (RowAt w (.slice Ak n Ck) (ins[k].take n)) := hide (HRW.out.take (by rw [← HLK.out]; omega))
        clear HLK
        go_wp2_with (at_builtin; refine wpList_append_lies _ rfl _ _ _ rfl w.heap.size 48 i0 _ 1 24 Try.underlying43 hi0 hz0 hz1 hz2 rfl (by omega) _ k vs rfl (hown.alloc _) ⟨wr.heap.size, 0, none⟩ 1 1 [.slice Ak n Ck] rfl rfl (World.news_of_block (cs := #[.slice Ak n Ck]) (t := 48) (fr := (0, 0)) (heap_alloc_new wr _)) (by simp [Value.oneCell']) (by omega) (by unfold maxLen; omega) (by omega) (by simp; omega) (wr.heap.size + 1) (by simp) ?_; intro gg cap2 w3 hown3 hgrow hat hlt3)
        go_roundw
        case rel => exact ⟨k + 1, _, by omega, by go_num, by rw [List.length_append, HVL.out]; rfl, hown3, HNX.out _ HY.out, (HB.out.alloc HB.out.size _).grown hgrow (by simp; omega) (fun j hj => ownBlock_ge hown j hj)⟩
        case measure => simp [intOf]; omega
      · have z1 : ¬ (n : Int) < (lk : Int) := by omega
        have HY : Hid (RowAt w (.slice Ak lk Ck) (ins[k].take n)) := hide (by rw [List.take_of_length_le (by rw [← HLK.out]; omega)]; rw [HLK.out]; exact HRW.out)
        clear HLK
        go_wp2_with (at_builtin; refine wpList_append_lies _ rfl _ _ _ rfl w.heap.size 48 i0 _ 1 24 Try.underlying43 hi0 hz0 hz1 hz2 rfl (by omega) _ k vs rfl (hown.alloc _) ⟨wr.heap.size, 0, none⟩ 1 1 [.slice Ak lk Ck] rfl rfl (World.news_of_block (cs := #[.slice Ak lk Ck]) (t := 48) (fr := (0, 0)) (heap_alloc_new wr _)) (by simp [Value.oneCell']) (by omega) (by unfold maxLen; omega) (by omega) (by simp; omega) (wr.heap.size + 1) (by simp) ?_; intro gg cap2 w3 hown3 hgrow hat hlt3)
        go_roundw
        case rel => exact ⟨k + 1, _, by omega, by go_num, by rw [List.length_append, HVL.out]; rfl, hown3, HNX.out _ HY.out, (HB.out.alloc HB.out.size _).grown hgrow (by simp; omega) (fun j hj => ownBlock_ge hown j hj)⟩
        case measure => simp [intOf]; omega
    · have ek : k = ins.length := by omega
      subst ek
      have z1 : ¬ (ins.length : Int) < (ins.length : Int) := by omega
      have HO := hide hown
      clear hown
      go_wp2
      go_ret
      refine ⟨_, rfl, ls_of_own (B := w.heap.size) (vs := vs) (by rw [List.length_map]; exact HO.out) (by rw [List.length_map]; omega) (fun r hr => ?_), HB.out⟩
      have hr' : r < ins.length := by simpa using hr
      obtain ⟨x, h1, h2⟩ := HR.out r hr' hr'
      exact ⟨x, h1, by rw [List.getElem_map]; exact h2.below HB.out⟩

end Go.Proofs.Ytmndgoapkmhglaa

/- Plain mathematics: where the places of a text stand. -/
namespace Go.Proofs.Ytmndgoapkmhglaa

/-- where the last digit of the first number stands in bytes from place k on. -/
def numL (k : Nat) : List UInt8 → Option Nat
  | [] => none
  | c :: r => if W 2 c then some (k + (r.takeWhile (W 2)).length) else numL (k + 1) r
def mkL : Nat → Nat → List UInt8 → List Nat
  | 0, _, _ => []
  | _ + 1, _, [] => []
  | f + 1, k, c :: r =>
    if W 1 c then (if c :: r.takeWhile (W 1) = kAt then (numL (k + 1 + (r.takeWhile (W 1)).length) (r.dropWhile (W 1))).toList else []) ++ mkL f (k + 1 + (r.takeWhile (W 1)).length) (r.dropWhile (W 1))
    else mkL f (k + 1) r
/-- the same of tokens. -/
def isDig (t : Tk) : Bool := (t.l.head?).any (W 2)
def lastD (t : Tk) : Nat := t.pos + t.l.length - 1
def numT (r : List Tk) : Option Nat := (r.find? isDig).map lastD
def marksT : List Tk → List Nat
  | [] => []
  | t :: r => (if t.l = kAt then (numT r).toList else []) ++ marksT r

theorem numL_over {cl : Nat} (hcl : cl ≠ 2) : ∀ (r : List UInt8) (k : Nat), numL (k + (r.takeWhile (W cl)).length) (r.dropWhile (W cl)) = numL k r := by
  intro r
  induction r with
  | nil => intro k; rfl
  | cons c r ih =>
    intro k
    rw [List.takeWhile_cons, List.dropWhile_cons]
    cases h : W cl c with
    | false => simp
    | true =>
      have h2 : W 2 c = false := by
        have := W_cls h
        cases h' : W 2 c with
        | false => rfl
        | true => exact absurd ((W_cls h').symm.trans this).symm hcl
      simp only [if_true, List.length_cons]
      rw [show k + ((r.takeWhile (W cl)).length + 1) = (k + 1) + (r.takeWhile (W cl)).length by omega, ih (k + 1)]
      show numL (k + 1) r = if W 2 c then _ else numL (k + 1) r
      rw [h2]; rfl

theorem mkL_fuel : ∀ f g k (l : List UInt8), l.length ≤ f → l.length ≤ g → mkL f k l = mkL g k l := by
  intro f
  induction f with
  | zero =>
    intro g k l h1 h2
    cases l with
    | nil => cases g <;> rfl
    | cons c r => simp at h1
  | succ f ih =>
    intro g k l h1 h2
    cases l with
    | nil => cases g <;> rfl
    | cons c r =>
      cases g with
      | zero => simp at h2
      | succ g =>
        simp at h1 h2
        have := drop_le (W 1) r
        simp only [mkL]
        rw [ih g (k + 1) r h1 h2, ih g _ (r.dropWhile (W 1)) (by omega) (by omega)]

theorem mkL_over {cl : Nat} (hcl : cl ≠ 1) : ∀ (r : List UInt8) (f k : Nat), r.length ≤ f → mkL f (k + (r.takeWhile (W cl)).length) (r.dropWhile (W cl)) = mkL f k r := by
  intro r
  induction r with
  | nil => intro f k _; rfl
  | cons c r ih =>
    intro f k hf
    rw [List.takeWhile_cons, List.dropWhile_cons]
    cases h : W cl c with
    | false => simp
    | true =>
      have h2 : W 1 c = false := by
        have := W_cls h
        cases h' : W 1 c with
        | false => rfl
        | true => exact absurd ((W_cls h').symm.trans this).symm hcl
      obtain ⟨f, rfl⟩ : ∃ g, f = g + 1 := ⟨f - 1, by simp at hf; omega⟩
      simp at hf
      have hd := drop_le (W cl) r
      simp only [if_true, List.length_cons]
      rw [show k + ((r.takeWhile (W cl)).length + 1) = (k + 1) + (r.takeWhile (W cl)).length by omega, mkL_fuel (f + 1) f _ _ (by omega) (by omega), ih f (k + 1) hf]
      show mkL f (k + 1) r = if W 1 c then _ else mkL f (k + 1) r
      rw [h2]; rfl

theorem tokW_l (k : Nat) (w : List UInt8) (cl : Nat) : (tokW k w cl).l = w := by simp [tokW, Tk.l]

theorem num_tk : ∀ n k (l : List UInt8), l.length = n → numL k l = numT (tk k l) := by
  intro n
  induction n using Nat.strongRecOn with
  | _ n ih =>
    intro k l hn
    cases l with
    | nil => rfl
    | cons c r =>
      simp only [List.length_cons] at hn
      by_cases h0 : cls c.toNat = 0
      · rw [tk_blank h0, ← ih r.length (by omega) (k + 1) r rfl]
        show (if W 2 c then _ else _) = _
        rw [if_neg (by unfold W; rw [h0]; decide)]
      · by_cases h2 : cls c.toNat = 2
        · rw [tk_word (.inr h2)]
          show (if W 2 c then _ else _) = _
          rw [if_pos (by unfold W; rw [h2]; rfl)]
          unfold numT
          rw [List.find?_cons_of_pos (by unfold isDig; rw [tokW_l]; unfold W; simp [h2])]
          simp only [Option.map_some, lastD, tokW_l, List.length_cons, h2]
          show _ = some (k + _ - 1)
          congr 1
        · have hne : W 2 c = false := by unfold W; simpa using h2
          have hno : ∀ (w : List UInt8) cl, isDig (tokW k (c :: w) cl) = false := fun w cl => by unfold isDig; rw [tokW_l]; simpa using hne
          by_cases h1 : cls c.toNat = 1
          · rw [tk_word (.inl h1)]
            have hl := take_drop_len (W (cls c.toNat)) r
            unfold numT
            rw [List.find?_cons_of_neg (by rw [hno]; decide)]
            rw [← numT, ← ih _ (by omega) _ _ rfl, numL_over (by omega)]
            show (if W 2 c then _ else _) = _
            rw [hne]; rfl
          · have := cls_le c.toNat
            rw [tk_one (by omega)]
            unfold numT
            rw [List.find?_cons_of_neg (by rw [hno]; decide)]
            rw [← numT, ← ih _ (by omega) _ _ rfl]
            show (if W 2 c then _ else _) = _
            rw [hne]; rfl

theorem marks_tk : ∀ n f k (l : List UInt8), l.length = n → n ≤ f → mkL f k l = marksT (tk k l) := by
  intro n
  induction n using Nat.strongRecOn with
  | _ n ih =>
    intro f k l hn hf
    cases l with
    | nil => cases f <;> rfl
    | cons c r =>
      simp only [List.length_cons] at hn
      obtain ⟨f, rfl⟩ : ∃ g, f = g + 1 := ⟨f - 1, by omega⟩
      by_cases h0 : cls c.toNat = 0
      · rw [tk_blank h0, ← ih r.length (by omega) f (k + 1) r rfl (by omega)]
        show (if W 1 c then _ else _) = _
        rw [if_neg (by unfold W; rw [h0]; decide)]
      · have hl := take_drop_len (W (cls c.toNat)) r
        by_cases h1 : cls c.toNat = 1
        · rw [tk_word (.inl h1)]
          rw [h1] at hl
          show (if W 1 c then _ else _) = _
          rw [if_pos (by unfold W; rw [h1]; rfl), h1]
          unfold marksT
          rw [tokW_l, num_tk _ _ _ rfl, ih _ (by omega) f _ _ rfl (by omega)]
        · have hne : W 1 c = false := by unfold W; simpa using h1
          have hat : ∀ w : List UInt8, c :: w ≠ kAt := fun w e => by
            have hc : c = 97 := by unfold kAt at e; simp at e; exact e.1
            rw [hc] at h1; exact h1 (by decide)
          by_cases h2 : cls c.toNat = 2
          · rw [tk_word (.inr h2)]
            unfold marksT
            rw [tokW_l, if_neg (hat _), List.nil_append, ← ih _ (by omega) f _ _ rfl (by omega), mkL_over (by omega) r f (k + 1) (by omega)]
            show (if W 1 c then _ else _) = _
            rw [hne]; rfl
          · have := cls_le c.toNat
            rw [tk_one (by omega)]
            unfold marksT
            rw [tokW_l, if_neg (hat _), List.nil_append, ← ih _ (by omega) f _ _ rfl (by omega)]
            show (if W 1 c then _ else _) = _
            rw [hne]; rfl

theorem marksT_end (e : Tk) (he : e.l = []) : ∀ r : List Tk, marksT (r ++ [e]) = marksT r := by
  have hnum : ∀ r : List Tk, numT (r ++ [e]) = numT r := by
    intro r
    unfold numT
    have hd : isDig e = false := by unfold isDig; rw [he]; rfl
    rw [List.find?_append]
    simp [hd]
  intro r
  induction r with
  | nil => show (if e.l = kAt then _ else _) ++ [] = []; rw [he]; rfl
  | cons t r ih =>
    show (if t.l = kAt then (numT (r ++ [e])).toList else []) ++ marksT (r ++ [e]) = _
    rw [hnum, ih]; rfl

theorem drop_tk {ts : List Tk} {i : Nat} (h : i < ts.length) : ts.drop i = tkAt ts i :: ts.drop (i + 1) := by
  rw [List.drop_eq_getElem_cons h]
  congr 1
  unfold tkAt
  simp [List.getD_eq_getElem?_getD, List.getElem?_eq_getElem h]

theorem marks_step {ts : List Tk} {i : Nat} (h : i < ts.length) (hn : lAt ts i ≠ kAt) : marksT (ts.drop i) = marksT (ts.drop (i + 1)) := by
  rw [drop_tk h]
  show (if (tkAt ts i).l = kAt then _ else _) ++ _ = _
  rw [if_neg hn]; rfl

section
variable {ts : List Tk} (hF : ∀ i, TkF (tkAt ts i))
include hF

theorem leaf_at {i : Nat} (h : leafT (tkAt ts i) = true) : lAt ts i ≠ kAt := leaf_ne hF h (by decide) (by decide) (by decide)

omit hF in
theorem lit_leaf {i : Nat} (h : litT (tkAt ts i) = true) : leafT (tkAt ts i) = true := by unfold leafT; rw [h]; rfl

theorem marks_sp : ∀ (t : Ast) (i : Nat), Sp ts t i → i + t.len ≤ ts.length → marksT (ts.drop i) = marksT (ts.drop (i + t.len)) := by
  have kw : ∀ {i : Nat} {l : List UInt8}, lAt ts i = l → l ≠ kAt → lAt ts i ≠ kAt := fun h hn e => hn (h.symm.trans e)
  intro t
  induction t with
  | leaf => intro i hs hl; exact marks_step (by simp [Ast.len] at hl; omega) (leaf_at hF hs.1)
  | neg a iha =>
    intro i hs hl
    obtain ⟨h1, h2, h3, h4⟩ := hs
    simp only [Ast.len] at hl ⊢
    rw [marks_step (by omega) (kw h1 (by decide)), marks_step (by omega) (kw h2 (by decide)), iha (i + 2) h3 (by omega), marks_step (by omega) (kw h4 (by decide))]
    congr 2; omega
  | ite a b c iha ihb ihc =>
    intro i hs hl
    obtain ⟨h1, h2, h3, h4, h5, h6⟩ := hs
    simp only [Ast.len] at hl ⊢
    rw [marks_step (by omega) (kw h1 (by decide)), marks_step (by omega) (kw h2 (by decide)), iha (i + 2) h3 (by omega), ihb _ h4 (by omega), ihc _ h5 (by omega), marks_step (by omega) (kw h6 (by decide))]
    congr 2; omega
  | dly b ihb =>
    intro i hs hl
    obtain ⟨h1, h2, h3, h4, h5⟩ := hs
    simp only [Ast.len] at hl ⊢
    rw [marks_step (by omega) (kw h1 (by decide)), marks_step (by omega) (leaf_at hF (lit_leaf h2)), marks_step (by omega) (kw h3 (by decide)), ihb (i + 3) h4 (by omega), marks_step (by omega) (kw h5 (by decide))]
    congr 2; omega
  | bin a b iha ihb =>
    intro i hs hl
    obtain ⟨h1, h2, h3, h4, h5⟩ := hs
    simp only [Ast.len] at hl ⊢
    have hop : lAt ts (i + 1 + a.len) ≠ kAt := fun e => by rw [e] at h3; revert h3; decide
    rw [marks_step (by omega) (kw h1 (by decide)), iha (i + 1) h2 (by omega), marks_step (by omega) hop, show i + 1 + a.len + 1 = i + 2 + a.len by omega, ihb _ h4 (by omega), marks_step (by omega) (kw h5 (by decide))]
    congr 2; omega

theorem name_at {i : Nat} (h : (tkAt ts i).kind = 1) : lAt ts i ≠ kAt := fun e => by
  have := (hF i).k1 h
  rw [show (tkAt ts i).l = kAt from e] at this
  revert this; decide

/-- the marks of a text whose tokens can all stand. -/
theorem marks_spell (hE : ∀ i, (tkAt ts i).kind = 0 → ts.length ≤ i + 1) (hD : ∀ i, (tkAt ts i).kind = 3 → isDig (tkAt ts i) = true) : ∀ (L : List Dl) (i : Nat), Spell ts L i → marksT (ts.drop i) = (eqL L).map fun x => lastD (tkAt ts (x.i + 3)) := by
  have kw : ∀ {i : Nat} {l : List UInt8}, lAt ts i = l → l ≠ kAt → lAt ts i ≠ kAt := fun h hn e => hn (h.symm.trans e)
  intro L
  induction L with
  | nil =>
    intro i h
    obtain ⟨h1, h2⟩ := h
    rw [marks_step h1 (fun e => by have := (hF i).k0 h2; rw [show (tkAt ts i).l = kAt from e] at this; revert this; decide)]
    rw [List.drop_eq_nil_of_le (hE i h2)]; rfl
  | cons x r ih =>
    intro i h
    obtain ⟨rfl, h1, h2, h3⟩ := h
    rcases h2 with ⟨hk, a1, a2, a3⟩ | ⟨hk, a2, a3, a4, a5, a6, a7⟩
    · have hl : x.len = 3 := by unfold Dl.len; rw [if_pos hk]
      rw [marks_step (by omega) (kw a1 (by decide)), marks_step (by omega) (name_at hF a2), marks_step (by omega) (kw a3 (by decide)), ← show x.i + x.len = x.i + 1 + 1 + 1 by omega, ih _ h3]
      simp [eqL, hk]
    · have hk0 : x.kind ≠ 0 := by omega
      have hl : x.len = x.t.len + 6 := by unfold Dl.len; rw [if_neg hk0]
      have h0 : lAt ts x.i ≠ kAt := by rcases hk with ⟨_, h⟩ | ⟨_, h⟩ <;> exact kw h (by decide)
      have h3k : lAt ts (x.i + 3) ≠ kAt := fun e => by
        have := (hF (x.i + 3)).k3 a4.1
        rw [show (tkAt ts (x.i + 3)).l = kAt from e] at this
        revert this; decide
      rw [marks_step (by omega) h0, marks_step (by omega) (name_at hF a2), drop_tk (by omega : x.i + 1 + 1 < ts.length)]
      show (if (tkAt ts (x.i + 2)).l = kAt then _ else _) ++ _ = _
      rw [if_pos a3, drop_tk (by omega : x.i + 1 + 1 + 1 < ts.length), numT, List.find?_cons_of_pos (hD (x.i + 3) a4.1)]
      rw [← drop_tk (by omega : x.i + 1 + 1 + 1 < ts.length), marks_step (by omega) h3k, marks_step (by omega) (kw a5 (by decide)), marks_sp hF x.t (x.i + 5) a6 (by omega), marks_step (by omega) (kw a7 (by decide)), ← show x.i + x.len = x.i + 5 + x.t.len + 1 by omega, ih _ h3]
      simp [eqL, hk0]

end
end Go.Proofs.Ytmndgoapkmhglaa

/- Plain mathematics: the marks of a text. -/
namespace Go.Proofs.Ytmndgoapkmhglaa

def marksF (s : ByteArray) : List Nat := mkL s.size 0 s.data.toList

theorem fine_dig {t : Tk} (h : Fine t) (h3 : t.kind = 3) : isDig t = true ∧ (∀ c ∈ t.l, 48 ≤ c.toNat ∧ c.toNat ≤ 57) ∧ t.l ≠ [] := by
  rcases h with ⟨cl, hcl, hne, hall, hk⟩ | ⟨c, _, h4, hk⟩
  · obtain ⟨e1, e2⟩ := kind3_cls (hk.symm.trans h3)
    subst e1
    refine ⟨?_, fun c hc => cls_two (W_cls (hall c hc)), hne⟩
    unfold isDig
    cases hl : t.l with
    | nil => exact absurd hl hne
    | cons c r => rw [hl] at hall; simpa using hall c (by simp)
  · have := (kind3_cls (hk.symm.trans h3)).1
    omega

theorem toks_fine (s : ByteArray) (i : Nat) (h : (tkAt (toks s) i).kind ≠ 0) : Fine (tkAt (toks s) i) := by
  by_cases hi : i < (tk 0 s.data.toList).length
  · rw [toks_list, tkAt_left hi]; exact tk_fine _ _ _ rfl _ (tkAt_mem hi)
  · exfalso
    rw [toks_list] at h
    by_cases e : i = (tk 0 s.data.toList).length
    · rw [e, tkAt_mid] at h; exact h rfl
    · unfold tkAt at h
      rw [List.getD_eq_getElem?_getD, List.getElem?_eq_none (by simp; omega)] at h
      exact h rfl

theorem marks_text {s : ByteArray} {L : List Dl} (h : Spell (toks s) L 0) : marksF s = (eqL L).map fun x => lastD (tkAt (toks s) (x.i + 3)) := by
  have hs := size_list s
  unfold marksF
  rw [marks_tk s.data.toList.length s.size 0 s.data.toList rfl (by omega), ← marks_spell (toks_F s) (toks_end s) (fun i h3 => (fine_dig (toks_fine s i (by omega)) h3).1) L 0 h]
  rw [List.drop_zero, toks_list, marksT_end _ rfl]

end Go.Proofs.Ytmndgoapkmhglaa

namespace Go.Proofs.Ytmndgoapkmhglaa
open Go.RowKit
attribute [local go_sem ↓] Go.wp_at_zero Go.wp_at_succ

theorem drop_byt (s : ByteArray) (k : Nat) (h : k < s.size) : ∃ c : UInt8, s.data.toList.drop k = c :: s.data.toList.drop (k + 1) ∧ c.toNat = byt s k := by
  have hl := size_list s
  refine ⟨s.data.toList[k]'(by omega), List.drop_eq_getElem_cons (by omega), ?_⟩
  unfold byt
  rw [List.getD_eq_getElem?_getD, List.getElem?_eq_getElem (by omega)]
  rfl

def numB (s : ByteArray) (k : Nat) : Int := match numL k (s.data.toList.drop k) with
  | some v => (v : Int)
  | none => -1

theorem numB_skip (s : ByteArray) (k : Nat) (h : k < s.size) (hc : ¬ (48 ≤ byt s k ∧ byt s k ≤ 57)) : numB s k = numB s (k + 1) := by
  obtain ⟨c, hd, he⟩ := drop_byt s k h
  unfold numB
  rw [hd]
  have : W 2 c = false := by
    unfold W
    cases hw : (cls c.toNat == 2) with
    | false => rfl
    | true => have := cls_two (beq_iff_eq.1 hw); omega
  simp only [numL, this]
  rfl
theorem numB_end (s : ByteArray) (k : Nat) (h : s.size ≤ k) : numB s k = -1 := by
  have hl := size_list s
  unfold numB
  rw [List.drop_eq_nil_of_le (by omega)]
  rfl
theorem numB_dig (s : ByteArray) (k : Nat) (h : k < s.size) (hc : 48 ≤ byt s k ∧ byt s k ≤ 57) : numB s k = ((k + ((s.data.toList.drop (k + 1)).takeWhile (W 2)).length : Nat) : Int) := by
  obtain ⟨c, hd, he⟩ := drop_byt s k h
  unfold numB
  rw [hd]
  have : W 2 c = true := by unfold W; rw [he, cls_2 hc.1 hc.2]; rfl
  simp only [numL, this]
  rfl
theorem dig_more (s : ByteArray) (k : Nat) (h : k < s.size) (hc : 48 ≤ byt s k ∧ byt s k ≤ 57) : ((s.data.toList.drop k).takeWhile (W 2)).length = ((s.data.toList.drop (k + 1)).takeWhile (W 2)).length + 1 := by
  obtain ⟨c, hd, he⟩ := drop_byt s k h
  rw [hd, List.takeWhile_cons, if_pos (by unfold W; rw [he, cls_2 hc.1 hc.2]; rfl)]
  rfl
theorem dig_stop (s : ByteArray) (k : Nat) (hc : s.size ≤ k ∨ ¬ (48 ≤ byt s k ∧ byt s k ≤ 57)) : ((s.data.toList.drop k).takeWhile (W 2)).length = 0 := by
  by_cases h : k < s.size
  · obtain ⟨c, hd, he⟩ := drop_byt s k h
    have : W 2 c = false := by
      unfold W
      cases hw : (cls c.toNat == 2) with
      | false => rfl
      | true => have := cls_two (beq_iff_eq.1 hw); omega
    rw [hd, List.takeWhile_cons, this]
    rfl
  · have hl := size_list s
    rw [List.drop_eq_nil_of_le (by omega)]
    rfl

set_option maxHeartbeats 1000000 in
theorem number_any (s : ByteArray) (k0 : Nat) (w : World) (hs : s.size ≤ 1048576) (hk0 : k0 ≤ s.size) :
    Calls Try.prog 86 #[.string s, .int .i64 (k0 : Int)] w fun e w' => e = .returned (.int .i64 (numB s k0)) ∧ w = w' := by
  obtain ⟨R, hR⟩ : ∃ R, R = numB s k0 := ⟨_, rfl⟩
  rw [← hR]
  have HR := hide hR
  clear hR
  go_enter Try.func86, Try.ntmps86
  go_wp2
  go_loop [5] (fun v => ∃ k : Nat, k ≤ s.size ∧ v = .int .i64 k ∧ R = numB s k) (fun v => s.size - (intOf v).toNat)
  case atStart => exact ⟨k0, hk0, rfl, HR.out⟩
  case round =>
    obtain ⟨k, hk, rfl, hrk⟩ := hrel
    have HK := hide hrk
    clear hrk
    by_cases hlt : k < s.size
    · have eb := byt_eq s k hlt
      by_cases h1 : byt s k < 48
      · have HN : Hid (R = numB s (k + 1)) := hide (by rw [HK.out, numB_skip s k hlt (by omega)])
        have z1 : (byt s k : Int) < 48 := by omega
        clear h1
        go_wp2
        go_round
        case rel => exact ⟨k + 1, by omega, by go_num, HN.out⟩
        case measure => simp [intOf]; omega
      · by_cases h2 : 57 < byt s k
        · have HN : Hid (R = numB s (k + 1)) := hide (by rw [HK.out, numB_skip s k hlt (by omega)])
          have z1 : ¬ (byt s k : Int) < 48 := by omega
          have z2 : 57 < (byt s k : Int) := by omega
          clear h1 h2
          go_wp2
          go_round
          case rel => exact ⟨k + 1, by omega, by go_num, HN.out⟩
          case measure => simp [intOf]; omega
        · have z1 : ¬ (byt s k : Int) < 48 := by omega
          have z2 : ¬ 57 < (byt s k : Int) := by omega
          have HD : Hid (R = ((k + ((s.data.toList.drop (k + 1)).takeWhile (W 2)).length : Nat) : Int)) := hide (by rw [HK.out, numB_dig s k hlt (by omega)])
          clear h1 h2
          go_wp2
          go_loop [5] (fun v => ∃ m : Nat, m < s.size ∧ v = .int .i64 m ∧ R = ((m + ((s.data.toList.drop (m + 1)).takeWhile (W 2)).length : Nat) : Int)) (fun v => s.size - (intOf v).toNat)
          case atStart => exact ⟨k, hlt, rfl, HD.out⟩
          case round =>
            obtain ⟨m, hm, rfl, hrm⟩ := hrel
            have HM := hide hrm
            clear hrm z1 z2 eb
            by_cases hlt2 : m + 1 < s.size
            · have eb := byt_eq s (m + 1) hlt2
              have z0 : (m : Int) + 1 < (s.size : Int) := by omega
              by_cases h1 : byt s (m + 1) < 48
              · have HS := hide (dig_stop s (m + 1) (.inr (by omega)))
                have z1 : ¬ 48 ≤ (byt s (m + 1) : Int) := by omega
                clear h1
                go_wp2
                go_ret
                exact ⟨by rw [HM.out, HS.out]; rfl, rfl⟩
              · by_cases h2 : 57 < byt s (m + 1)
                · have HS := hide (dig_stop s (m + 1) (.inr (by omega)))
                  have z1 : 48 ≤ (byt s (m + 1) : Int) := by omega
                  have z2 : ¬ (byt s (m + 1) : Int) ≤ 57 := by omega
                  clear h1 h2
                  go_wp2
                  go_ret
                  exact ⟨by rw [HM.out, HS.out]; rfl, rfl⟩
                · have HS := hide (dig_more s (m + 1) hlt2 (by omega))
                  have z1 : 48 ≤ (byt s (m + 1) : Int) := by omega
                  have z2 : (byt s (m + 1) : Int) ≤ 57 := by omega
                  clear h1 h2
                  go_wp2
                  go_round
                  case rel => exact ⟨m + 1, by omega, by go_num, by rw [HM.out, HS.out]; omega⟩
                  case measure => simp [intOf]; omega
            · have HS := hide (dig_stop s (m + 1) (.inl (by omega)))
              have z0 : ¬ (m : Int) + 1 < (s.size : Int) := by omega
              go_wp2
              go_ret
              exact ⟨by rw [HM.out, HS.out]; rfl, rfl⟩
    · have HN : Hid (R = -1) := hide (by rw [HK.out, numB_end s k (by omega)])
      have ek : k = s.size := by omega
      have z0 : ¬ (k : Int) < (s.size : Int) := by omega
      clear ek
      go_wp2
      go_ret
      exact ⟨by rw [HN.out]; rfl, rfl⟩

end Go.Proofs.Ytmndgoapkmhglaa
