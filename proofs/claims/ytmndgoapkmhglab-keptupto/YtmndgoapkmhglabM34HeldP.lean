import Derived.Test.YtmndgoapkmhglabM18OrdB
import Derived.Test.YtmndgoapkmhglabM26RunP
import Derived.Test.YtmndgoapkmhglabM27PyB
import Derived.Test.YtmndgoapkmhglabM33MarkA
/- order.Of: ready, and the walk. -/
namespace Go.Proofs.Ytmndgoapkmhglab
open Go.RowKit
attribute [local go_sem ↓] Go.wp_at_zero Go.wp_at_succ

/-- a row of truths as it lies. -/
theorem ready_any (w : World) (g r n ch cd : Nat) (H D : Nat → Bool) (hg : w.rowIs g 4 n (fun j => .bool (H j))) (hr : w.rowIs r 4 n (fun j => .bool (D j))) (hn : n ≤ 1501) :
    Calls Try.prog 98 #[.slice (some ⟨g, 0, none⟩) n ch, .slice (some ⟨r, 0, none⟩) n cd] w fun e w' => e = .returned (.bool (decide (∀ j, j < n → H j = true → D j = true))) ∧ w = w' := by
  go_enter Try.func98, Try.ntmps98
  go_wp2
  go_loopw [9] (fun vi wr => ∃ i : Nat, i ≤ n ∧ vi = .int .i64 i ∧ w = wr ∧ ∀ j, j < i → H j = true → D j = true) (fun vi _ => n - (intOf vi).toNat)
  case atStart => exact ⟨0, Nat.zero_le _, rfl, rfl, fun j hj => by omega⟩
  case round =>
    obtain ⟨i, hi, rfl, rfl, hall⟩ := hrel
    by_cases hlt : i < n
    · have x1 := hg.cell hlt
      have x2 := hr.cell hlt
      have j1 : (0 : Int) ≤ (i : Int) := by omega
      have j2 : (i : Int) < (n : Int) := by omega
      have HALL := hide hall
      clear hall
      by_cases hh : H i = true
      · by_cases hd : D i = true
        · go_wp2
          go_roundw
          case rel => exact ⟨i + 1, by omega, by go_num, by first | rfl | trivial, fun j hj h => by rcases Nat.lt_succ_iff_lt_or_eq.1 hj with h' | rfl; exact HALL.out j h' h; exact hd⟩
          case measure => simp [intOf]; omega
        · have hd' : D i = false := by simpa using hd
          have HF : Hid (decide (∀ j, j < n → H j = true → D j = true) = false) := hide (by rw [decide_eq_false_iff_not]; exact fun h => hd (h i hlt hh))
          clear hd
          go_wp2
          go_ret
          exact ⟨by rw [HF.out]; rfl, rfl⟩
      · have hh' : H i = false := by simpa using hh
        have HNO := hide hh
        clear hh
        go_wp2
        go_roundw
        case rel => exact ⟨i + 1, by omega, by go_num, by first | rfl | trivial, fun j hj h => by rcases Nat.lt_succ_iff_lt_or_eq.1 hj with h' | rfl; exact HALL.out j h' h; exact absurd h HNO.out⟩
        case measure => simp [intOf]; omega
    · have HF : Hid (decide (∀ j, j < n → H j = true → D j = true) = true) := hide (by rw [decide_eq_true_iff]; exact fun j hj => hall j (by omega))
      clear hall
      go_wp2
      go_ret
      exact ⟨by rw [HF.out]; rfl, rfl⟩

end Go.Proofs.Ytmndgoapkmhglab

/- Plain mathematics: what holds of a text's tokens and declarations. -/
namespace Go.Proofs.Ytmndgoapkmhglab

/-- what holds of a text's tokens and declarations. -/
structure ROk (ts : List Tk) (L : List Dl) : Prop where
  F : ∀ i, TkF (tkAt ts i)
  E : ∀ i, (tkAt ts i).kind = 0 → ts.length ≤ i + 1
  len : ts.length ≤ 1501
  pos : 0 < ts.length
  sp : Spell ts L 0

theorem ROk.mem {ts : List Tk} {L : List Dl} (h : ROk ts L) {x : Dl} (hx : x ∈ L) : x.i + x.len < ts.length ∧ DlOk ts x := (spell_mem L 0 h.sp x hx).2
theorem ROk.eq {ts : List Tk} {L : List Dl} (h : ROk ts L) {x : Dl} (hx : x ∈ eqL L) : x ∈ L ∧ x.kind ≠ 0 ∧ Sp ts x.t (x.i + 5) ∧ x.i + 5 + x.t.len < ts.length ∧ placeD ts x < 4 := by
  have hm := List.mem_filter.1 hx
  have hk : x.kind ≠ 0 := by simpa using hm.2
  obtain ⟨h1, h2⟩ := h.mem hm.1
  have hl : x.len = x.t.len + 6 := by unfold Dl.len; rw [if_neg hk]
  refine ⟨hm.1, hk, ?_, by omega, ?_⟩
  · rcases h2 with ⟨h, _⟩ | ⟨_, _, _, _, _, h, _⟩
    · exact absurd h hk
    · exact h
  · rcases h2 with ⟨h, _⟩ | ⟨_, _, _, h, _⟩
    · exact absurd h hk
    · exact h.2
theorem spell_len {ts : List Tk} : ∀ (L : List Dl) (i : Nat), Spell ts L i → L.length + i ≤ ts.length := by
  intro L
  induction L with
  | nil => intro i h; have := h.1; simp; omega
  | cons x r ih => intro i h; have := ih _ h.2.2.2; have := Dl.len_pos x; simp; omega
theorem ROk.many {ts : List Tk} {L : List Dl} (h : ROk ts L) : L.length ≤ 1501 ∧ (eqL L).length ≤ 1501 ∧ (inL L).length ≤ 1501 := by
  have h1 := spell_len L 0 h.sp
  have h2 := h.len
  have h3 := List.length_filter_le (fun x : Dl => x.kind != 0) L
  have h4 := List.length_filter_le (fun x : Dl => x.kind == 0) L
  exact ⟨by omega, by unfold eqL; omega, by unfold inL; omega⟩



end Go.Proofs.Ytmndgoapkmhglab

/- Plain mathematics: a text that is found right, or right but for its places, has its parts. -/
namespace Go.Proofs.Ytmndgoapkmhglab

theorem read_zero {ts : List Tk} {L : List Dl} (h : (readR ts L).1 = 0) : manyR ts L = none ∧ namesR ts L = none ∧ typesR ts L = none ∧ cycR ts L = none ∧ lpR ts L = none := by
  unfold readR at h
  cases h1 : manyR ts L with
  | some a => rw [h1] at h; cases h
  | none =>
    cases h2 : namesR ts L with
    | some a => rw [h1, h2] at h; cases h
    | none =>
      cases h3 : typesR ts L with
      | some a => rw [h1, h2, h3] at h; cases h
      | none =>
        cases h4 : cycR ts L with
        | some a => rw [h1, h2, h3, h4] at h; cases h
        | none =>
          cases h5 : lpR ts L with
          | some a => rw [h1, h2, h3, h4, h5] at h; cases h
          | none => exact ⟨rfl, rfl, rfl, rfl, rfl⟩

theorem text_small {s : ByteArray} (h : (textF s).1 ≠ 1) : s.size ≤ 1500 := by
  by_cases hs : 1500 < s.size
  · unfold textF at h; rw [if_pos hs] at h; exact absurd rfl h
  · omega

theorem rok_of {s : ByteArray} {L : List Dl} (hs : s.size ≤ 1500) (h : Spell (toks s) L 0) : ROk (toks s) L :=
  ⟨toks_F s, toks_end s, (toks_ok s hs).1, (toks_ok s hs).pos, h⟩

theorem good_text {s : ByteArray} (h : (textF s).1 = 0) : ∃ L, RGood s L ∧ Right (toks s) L ∧ ROk (toks s) L := by
  have hs := text_small (s := s) (by omega)
  rcases text_read s hs with ⟨k, _, ht, _⟩ | ⟨L, hsp, _, ht, hp⟩
  · rw [ht] at h; cases h
  · rw [ht] at h
    obtain ⟨h1, h2, h3, h4, h5⟩ := read_zero h
    exact ⟨L, ⟨h1, h2, h3, h4, h5, hsp, hp⟩, right_of (toks_F s) hsp h1 h2 h4, rok_of hs hsp⟩

end Go.Proofs.Ytmndgoapkmhglab

/- Plain mathematics: the marks of a text. -/
namespace Go.Proofs.Ytmndgoapkmhglab

def marksF (s : ByteArray) : List Nat := mkL s.size 0 s.data.toList

theorem fine_dig {t : Tk} (h : Fine t) (h3 : t.kind = 3) : isDig t = true ∧ (∀ c ∈ t.l, 48 ≤ c.toNat ∧ c.toNat ≤ 57) ∧ t.l ≠ [] := by
  rcases h with ⟨cl, hcl, hne, hall, hk⟩ | ⟨c, _, h4, hk⟩
  · obtain ⟨e1, e2⟩ := kind3_cls (hk.symm.trans h3)
    subst e1
    refine ⟨?_, fun c hc => cls_two (W_cls (hall c hc)), hne⟩
    unfold isDig
    cases hl : t.l with
    | nil => exact absurd hl hne
    | cons c r => rw [hl] at hall; simpa using hall c (by simp)
  · have := (kind3_cls (hk.symm.trans h3)).1
    omega

theorem toks_fine (s : ByteArray) (i : Nat) (h : (tkAt (toks s) i).kind ≠ 0) : Fine (tkAt (toks s) i) := by
  by_cases hi : i < (tk 0 s.data.toList).length
  · rw [toks_list, tkAt_left hi]; exact tk_fine _ _ _ rfl _ (tkAt_mem hi)
  · exfalso
    rw [toks_list] at h
    by_cases e : i = (tk 0 s.data.toList).length
    · rw [e, tkAt_mid] at h; exact h rfl
    · unfold tkAt at h
      rw [List.getD_eq_getElem?_getD, List.getElem?_eq_none (by simp; omega)] at h
      exact h rfl

theorem marks_text {s : ByteArray} {L : List Dl} (h : Spell (toks s) L 0) : marksF s = (eqL L).map fun x => lastD (tkAt (toks s) (x.i + 3)) := by
  have hs := size_list s
  unfold marksF
  rw [marks_tk s.data.toList.length s.size 0 s.data.toList rfl (by omega), ← marks_spell (toks_F s) (toks_end s) (fun i h3 => (fine_dig (toks_fine s i (by omega)) h3).1) L 0 h]
  rw [List.drop_zero, toks_list, marksT_end _ rfl]

end Go.Proofs.Ytmndgoapkmhglab

/- the places, and the waits, of a text that is held. -/
namespace Go.Proofs.Ytmndgoapkmhglab

theorem places_held {s : ByteArray} {p : PS} (hs : s.size ≤ 1500) (hp : parseF s = .ok p) {L : List Dl} (hG : RGood s L) : (eqsF p.decls).map Dc.place = plR (toks s) L := by
  obtain ⟨_, _, hB⟩ := held_of hs hp hG
  have hE : All2 (DX (toks s) (bindF p.decls) (boundN p)) (eqsF p.decls) (eqL L) := All2.filter (fun d x h => by rw [h.kind]) hB.dx
  have hk : ∀ x ∈ eqL L, x.kind ≠ 0 := fun x hx => by have := (List.mem_filter.1 hx).2; simpa using this
  have key : ∀ (l : List Dc) (m : List Dl), (∀ x ∈ m, x.kind ≠ 0) → All2 (DX (toks s) (bindF p.decls) (boundN p)) l m → l.map Dc.place = m.map (placeD (toks s)) := by
    intro l
    induction l with
    | nil => intro m _ h; cases m with
      | nil => rfl
      | cons x m => exact h.elim
    | cons d l ih => intro m hm h; cases m with
      | nil => exact h.elim
      | cons x m => rw [List.map_cons, List.map_cons, h.1.place (hm x (by simp)), ih m (fun y hy => hm y (List.mem_cons_of_mem _ hy)) h.2]
  exact key _ _ hk hE
theorem waits_held {s : ByteArray} {p : PS} (hs : s.size ≤ 1500) (hp : parseF s = .ok p) {L : List Dl} (hG : RGood s L) : waitsM (eqsF p.decls) (linksF p.decls (boundN p)) noM = waitM (toks s) L := by
  rw [waits_pl, places_held hs hp hG, links_held hs hp hG]
  rfl

end Go.Proofs.Ytmndgoapkmhglab
