import Derived.Lib.ItoaNum
import Derived.Test.YtmndgoapkmhglaaDoorShelf
import Derived.Lib.AppendIntMem
import Derived.Lib.ItoaMem
import Derived.Test.YtmndgoapkmhglaaDoorM06RefD
import Derived.Test.YtmndgoapkmhglaaDoorM20RePure
/- Plain mathematics: a number's own digits are those that stand there, but for noughts ahead; and the two ways to lay a text out are one. -/
namespace Go.Proofs.YtmndgoapkmhglaaDoor

theorem valOf_snoc (l : List UInt8) (d : UInt8) : valOf (l ++ [d]) = valOf l * 10 + (d.toNat - 48) := by
  unfold valOf; rw [List.foldl_append]; rfl

theorem valOf_pos : ∀ (l : List UInt8), (∀ c ∈ l, 48 ≤ c.toNat ∧ c.toNat ≤ 57) → (∃ c r, l = c :: r ∧ c ≠ 48) → 1 ≤ valOf l := by
  have key : ∀ (n : Nat) (l : List UInt8), l.length = n → (∀ c ∈ l, 48 ≤ c.toNat ∧ c.toNat ≤ 57) → (∃ c r, l = c :: r ∧ c ≠ 48) → 1 ≤ valOf l := by
    intro n
    induction n with
    | zero => rintro l hl _ ⟨c, r, rfl, _⟩; simp at hl
    | succ n ih =>
      rintro l hl hd ⟨c, r, rfl, hc⟩
      rcases List.eq_nil_or_concat r with rfl | ⟨r', d, rfl⟩
      · have h1 := hd c (by simp)
        have h2 : c.toNat ≠ 48 := fun e => hc (UInt8.toNat_inj.1 e)
        simp only [valOf, List.foldl_cons, List.foldl_nil]
        omega
      · have e : c :: (r' ++ [d]) = (c :: r') ++ [d] := rfl
        have := ih (c :: r') (by simp at hl ⊢; omega) (fun x hx => hd x (by rw [List.concat_eq_append, e]; exact List.mem_append_left _ hx)) ⟨c, r', rfl, hc⟩
        rw [List.concat_eq_append, e, valOf_snoc]
        omega
  exact fun l => key l.length l rfl

theorem dec_val : ∀ (n : Nat) (l : List UInt8), l.length = n → l ≠ [] → (∀ c ∈ l, 48 ≤ c.toNat ∧ c.toNat ≤ 57) → (l.length = 1 ∨ ∃ c r, l = c :: r ∧ c ≠ 48) → Lib.decDigits (valOf l) = l := by
  intro n
  induction n with
  | zero => intro l hl hne; exact absurd (List.eq_nil_of_length_eq_zero hl) hne
  | succ n ih =>
    intro l hl hne hd hh
    rcases List.eq_nil_or_concat l with rfl | ⟨r, d, rfl⟩
    · exact absurd rfl hne
    rw [List.concat_eq_append] at *
    have hdd := hd d (by simp)
    have hof : UInt8.ofNat (48 + (d.toNat - 48)) = d := by
      rw [show 48 + (d.toNat - 48) = d.toNat by omega]; simp
    rcases hr : r with _ | ⟨c, r'⟩
    · subst hr
      have hv : valOf ([] ++ [d]) = d.toNat - 48 := by rw [valOf_snoc]; simp [valOf]
      rw [hv, Lib.decDigits_one (by omega), hof]; rfl
    · have hc : c ≠ 48 := by
        rcases hh with h | ⟨c', r'', e, h⟩
        · rw [hr] at h; simp at h
        · rw [hr] at e; simp at e; rw [e.1]; exact h
      have hd' : ∀ x ∈ c :: r', 48 ≤ x.toNat ∧ x.toNat ≤ 57 := fun x hx => hd x (by rw [hr]; exact List.mem_append_left _ hx)
      have hp := valOf_pos (c :: r') hd' ⟨c, r', rfl, hc⟩
      rw [hr] at hl
      have hi := ih (c :: r') (by simp at hl ⊢; omega) (by simp) hd' (.inr ⟨c, r', rfl, hc⟩)
      rw [valOf_snoc, Lib.decDigits, dif_neg (by omega), show (valOf (c :: r') * 10 + (d.toNat - 48)) / 10 = valOf (c :: r') by omega, show (valOf (c :: r') * 10 + (d.toNat - 48)) % 10 = d.toNat - 48 by omega, hi, hof]

theorem trim_head : ∀ l : List UInt8, l ≠ [] → ((trimL l).length = 1 ∨ ∃ c r, trimL l = c :: r ∧ c ≠ 48) := by
  intro l
  induction l with
  | nil => intro h; exact absurd rfl h
  | cons c r ih =>
    intro _
    cases r with
    | nil => exact .inl rfl
    | cons d r =>
      simp only [trimL]
      split
      · exact ih (by simp)
      · rename_i h; exact .inr ⟨c, d :: r, rfl, h⟩

/-- a number as strconv writes it. -/
theorem dec_trim (l : List UInt8) (hne : l ≠ []) (hd : ∀ c ∈ l, 48 ≤ c.toNat ∧ c.toNat ≤ 57) : Lib.decDigits (valOf l) = trimL l := by
  rw [← trim_val l]
  exact dec_val _ (trimL l) rfl (trim_ne hne) (fun c hc => hd c (trim_mem l c hc)) (trim_head l hne)

/-- what the reference has laid out of the first k tokens. -/
def refN (ts : List Tk) (k : Nat) : List UInt8 := outN ts k ++ (if 0 < k ∧ (tkAt ts (k - 1)).l = [59] then [10] else [])
/-- is the next token the first of a line? -/
def freshN (ts : List Tk) (k : Nat) : Bool := decide (k = 0) || ((tkAt ts (k - 1)).l == [59])

theorem refN_succ (ts : List Tk) (k : Nat) : refN ts (k + 1) =
    refN ts k ++ (if freshN ts k = true then [] else if (tkAt ts (k - 1)).l = [40] ∨ (tkAt ts k).l = [41] ∨ (tkAt ts k).l = [59] then [] else [32]) ++ bareL (tkAt ts k) ++ (if (tkAt ts k).l = [59] then [10] else []) := by
  unfold refN freshN
  rw [outN]
  unfold pieceL
  by_cases h0 : k = 0
  · subst h0
    simp
  · have hk : 0 < k := by omega
    by_cases h1 : (tkAt ts (k - 1)).l = [59]
    · simp [h0, hk, h1, gapL]
    · have h1' : ((tkAt ts (k - 1)).l == [59]) = false := beq_eq_false_iff_ne.2 h1
      simp [h0, hk, h1, h1', gapL]

theorem refN_end (s : ByteArray) (hs : s.size ≤ 1500) (h : (textF s).1 = 0) : refN (toks s) ((toks s).length - 1) = (outF s).data.toList := by
  obtain ⟨p, hp⟩ := text_ok hs h
  obtain ⟨h1, h2, h3⟩ := end_at s hs p hp
  have hlen : (toks s).length = (tk 0 s.data.toList).length + 1 := by rw [toks_list]; simp
  have hlast : (tkAt (toks s) (tk 0 s.data.toList).length).l = [] ∧ (tkAt (toks s) (tk 0 s.data.toList).length).kind = 0 := by
    rw [toks_list, tkAt_mid]; exact ⟨rfl, rfl⟩
  have ho : (outF s).data.toList = outN (toks s) (toks s).length := by unfold outF; simp
  rw [ho, hlen, Nat.add_sub_cancel, outN]
  unfold refN
  congr 1
  have hb : bareL (tkAt (toks s) (tk 0 s.data.toList).length) = [] := by unfold bareL; rw [if_neg (by rw [hlast.2]; decide)]; exact hlast.1
  unfold pieceL
  rw [hb, hlast.1, List.append_nil]
  rcases h3 with h3 | h3
  · have : (tk 0 s.data.toList).length = 0 := by rw [← h1, h3]; rfl
    rw [this]; simp
  · rw [h1] at h3
    by_cases hz : (tk 0 s.data.toList).length = 0
    · rw [hz]; simp
    · rw [if_neg hz, if_pos ⟨by omega, h3⟩]
      unfold gapL
      rw [if_pos h3]

end Go.Proofs.YtmndgoapkmhglaaDoor

namespace Go.Proofs.YtmndgoapkmhglaaDoor
open Go.RowKit
attribute [local go_sem ↓] Go.wp_at_zero Go.wp_at_succ

/-- the library's table. -/
def Tab (w : World) : Prop := Lib.TabIs Tryd.prog w "internal/strconv.uint64pow10" .u64 Lib.pow10Tab
theorem Tab.below {w w' : World} (h : Tab w) (hb : Below w.heap.size w w') : Tab w' := by
  unfold Tab Lib.TabIs World.var? at *
  cases hg : Tryd.prog.globalNamed "internal/strconv.uint64pow10" with
  | none => rw [hg] at h; simp at h
  | some g =>
    rw [hg] at h
    simp only [Option.bind_some] at h ⊢
    have hlt : g < w.heap.size := by
      rcases Nat.lt_or_ge g w.heap.size with h' | h'
      · exact h'
      · rw [Array.getElem?_eq_none h'] at h; simp at h
    rw [hb.block g hlt]
    exact h

def glueR (a t : RTk) : Bool := (a.l == [40] || t.l == [41]) || t.l == [59]

set_option maxHeartbeats 1000000 in
theorem rglued_any (a t : RTk) (w : World) :
    Calls Tryd.prog 10 #[a.val, t.val] w fun e w' => e = .returned (.bool (glueR a t)) ∧ Below w.heap.size w w' := by
  have hB : ∀ o1 o2, Below w.heap.size w ((w.alloc o1).alloc o2) := fun o1 o2 => ((Below.refl _ _).alloc (Nat.le_refl _) _).alloc (by simp) _
  by_cases h1 : a.l = [40]
  · have q1 := str_yes (t := a.word) h1
    have HF : Hid (glueR a t = true) := hide (by unfold glueR; rw [h1]; rfl)
    clear h1
    go_enter Tryd.func10, Tryd.ntmps10
    go_wp2
    go_ret
    exact ⟨by rw [HF.out]; rfl, by first | exact hB _ _ | exact below_drewN (hB _ _) _⟩
  have q1 := str_no (t := a.word) h1
  by_cases h2 : t.l = [41]
  · have q2 := str_yes (t := t.word) h2
    have HF : Hid (glueR a t = true) := hide (by unfold glueR; rw [h2]; simp)
    clear h1 h2
    go_enter Tryd.func10, Tryd.ntmps10
    go_wp2
    go_ret
    exact ⟨by rw [HF.out]; rfl, by first | exact hB _ _ | exact below_drewN (hB _ _) _⟩
  have q2 := str_no (t := t.word) h2
  by_cases h3 : t.l = [59]
  · have q3 := str_yes (t := t.word) h3
    have HF : Hid (glueR a t = true) := hide (by unfold glueR; rw [h3]; simp)
    clear h1 h2 h3
    go_enter Tryd.func10, Tryd.ntmps10
    go_wp2
    go_ret
    exact ⟨by rw [HF.out]; rfl, by first | exact hB _ _ | exact below_drewN (hB _ _) _⟩
  have q3 := str_no (t := t.word) h3
  have HF : Hid (glueR a t = false) := hide (by unfold glueR; simp [h1, h2, h3])
  clear h1 h2 h3
  go_enter Tryd.func10, Tryd.ntmps10
  go_wp2
  go_ret
  exact ⟨by rw [HF.out]; rfl, by first | exact hB _ _ | exact below_drewN (hB _ _) _⟩

set_option maxHeartbeats 1000000 in
theorem rwritten_any (t : RTk) (w : World) (ht : Tab w) (hn : t.n < 1000000000000000000) (wd : ByteArray) (hwd : wd = if t.c = 110 then ⟨(Lib.decDigits t.n).toArray⟩ else t.word) :
    Calls Tryd.prog 11 #[t.val] w fun e w' => e = .returned (.string wd) ∧ Below w.heap.size w w' := by
  have hB : ∀ o, Below w.heap.size w (w.alloc o) := fun o => (Below.refl _ _).alloc (Nat.le_refl _) _
  by_cases h1 : t.c = 110
  · have q1 : ((t.c : Int) == 110) = true := by rw [h1]; rfl
    rw [if_pos h1] at hwd
    have HF := hide hwd
    have HI : Hid (Lib.itoa (t.n : Int) = Lib.decDigits t.n) := hide (by unfold Lib.itoa; rw [if_neg (by omega), Int.toNat_natCast])
    have HT := hide (fun o => ht.below (hB o))
    clear h1 ht hwd
    go_enter Tryd.func11, Tryd.ntmps11
    go_wp2_with fail
    refine (Go.Proofs.Tryd.strconv_Itoa (t.n : Int) (by omega) (by omega) _ (HT.out _)).mono ?_
    rintro e w1 ⟨rfl, k, os, rfl⟩
    rw [HI.out]
    go_wp2_with fail
    go_ret
    exact ⟨by rw [HF.out]; rfl, (hB _).trans (Lib.below_grow _ _ (by simp) k os)⟩
  · have q1 : ((t.c : Int) == 110) = false := by rw [beq_eq_false_iff_ne]; omega
    rw [if_neg h1] at hwd
    have HF := hide hwd
    clear h1 ht hwd
    go_enter Tryd.func11, Tryd.ntmps11
    go_wp2
    go_ret
    exact ⟨by rw [HF.out]; rfl, hB _⟩

end Go.Proofs.YtmndgoapkmhglaaDoor
