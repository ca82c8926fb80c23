import Derived.Laws.IdiomStrings
import Derived.Lib.ConvBytes
import Derived.Test.YtmndgoapkmhglaaM18Bytes
import Derived.Test.YtmndgoapkmhglaaM25OpenL
import Derived.Test.YtmndgoapkmhglaaM34MarkF
import Derived.Test.YtmndgoapkmhglaaM35PfxB
import Derived.Test.YtmndgoapkmhglaaM41PLnk
import Derived.Test.YtmndgoapkmhglaaM46MovD
/- Plain mathematics: the tokens of a text in which places were turned. -/
namespace Go.Proofs.Ytmndgoapkmhglaa

/-- a byte, its digit forgotten. -/
def msk (c : UInt8) : UInt8 := if cls c.toNat = 2 then 48 else c
def mskT (t : Tk) : Tk := ⟨t.kind, t.pos, ⟨(t.l.map msk).toArray⟩⟩
theorem msk_cls (c : UInt8) : cls (msk c).toNat = cls c.toNat := by
  unfold msk
  split
  · rename_i h; rw [h]; decide
  · rfl
theorem msk_W (cl : Nat) (c : UInt8) : W cl (msk c) = W cl c := by unfold W; rw [msk_cls]
theorem take_msk (cl : Nat) : ∀ r : List UInt8, (r.map msk).takeWhile (W cl) = (r.takeWhile (W cl)).map msk ∧ (r.map msk).dropWhile (W cl) = (r.dropWhile (W cl)).map msk := by
  intro r
  induction r with
  | nil => exact ⟨rfl, rfl⟩
  | cons c r ih =>
    simp only [List.map_cons, List.takeWhile_cons, List.dropWhile_cons, msk_W]
    cases W cl c with
    | true => simp [ih.1, ih.2]
    | false => simp
theorem msk_id {l : List UInt8} (h : ∀ c ∈ l, cls c.toNat ≠ 2) : l.map msk = l := by
  induction l with
  | nil => rfl
  | cons c r ih =>
    rw [List.map_cons, ih (fun x hx => h x (List.mem_cons_of_mem _ hx))]
    unfold msk
    rw [if_neg (h c (by simp))]
theorem W_of {cl : Nat} {c : UInt8} (h : W cl c = true) : cls c.toNat = cl := by unfold W at h; simpa using h
theorem tokW_msk (k : Nat) (w : List UInt8) (cl : Nat) (h : ∀ c ∈ w, cls c.toNat = cl) : tokW k (w.map msk) cl = mskT (tokW k w cl) := by
  have hk : kindK (w.map msk) cl = kindK w cl := by
    by_cases h2 : cl = 2
    · subst h2; unfold kindK numK; simp
    · rw [msk_id (fun c hc => by rw [h c hc]; exact h2)]
  unfold mskT
  show (⟨kindK (w.map msk) cl, k, ⟨(w.map msk).toArray⟩⟩ : Tk) = ⟨kindK w cl, k, ⟨((tokW k w cl).l.map msk).toArray⟩⟩
  rw [hk, tokW_l]

theorem tk_msk : ∀ n k (l : List UInt8), l.length = n → tk k (l.map msk) = (tk k l).map mskT := by
  intro n
  induction n using Nat.strongRecOn with
  | _ n ih =>
    intro k l hn
    cases l with
    | nil => rfl
    | cons c r =>
      simp only [List.length_cons] at hn
      rw [List.map_cons]
      by_cases h0 : cls c.toNat = 0
      · rw [tk_blank h0, tk_blank (by rw [msk_cls]; exact h0)]
        exact ih r.length (by omega) (k + 1) r rfl
      · by_cases h12 : cls c.toNat = 1 ∨ cls c.toNat = 2
        · rw [tk_word h12, tk_word (by rw [msk_cls]; exact h12), msk_cls, (take_msk _ r).1, (take_msk _ r).2, List.length_map, List.map_cons]
          have hl := drop_le (W (cls c.toNat)) r
          rw [ih _ (by omega) _ (r.dropWhile (W (cls c.toNat))) rfl]
          congr 1
          exact tokW_msk k (c :: r.takeWhile (W (cls c.toNat))) _ (fun x hx => by
            rcases List.mem_cons.1 hx with rfl | hx
            · rfl
            · exact W_of (tw_all _ r x hx))
        · rw [tk_one (c := msk c) (by rw [msk_cls]; omega), tk_one (c := c) (by omega), msk_cls, List.map_cons, ih r.length (by omega) (k + 1) r rfl]
          congr 1
          exact tokW_msk k [c] _ (fun x hx => by rw [List.mem_singleton.1 hx])

theorem tk_apart : ∀ n k (l : List UInt8), l.length = n → (tk k l).Pairwise (fun a b => a.pos + a.l.length ≤ b.pos) := by
  intro n
  induction n using Nat.strongRecOn with
  | _ n ih =>
    intro k l hn
    cases l with
    | nil => rw [tk_nil]; exact List.Pairwise.nil
    | cons c r =>
      simp only [List.length_cons] at hn
      by_cases h0 : cls c.toNat = 0
      · rw [tk_blank h0]; exact ih r.length (by omega) (k + 1) r rfl
      · by_cases h12 : cls c.toNat = 1 ∨ cls c.toNat = 2
        · rw [tk_word h12]
          have hl := drop_le (W (cls c.toNat)) r
          refine List.Pairwise.cons (fun t ht => ?_) (ih _ (by omega) _ _ rfl)
          have := (tk_sub _ _ _ rfl t ht).1
          rw [tokW_l]
          show k + (c :: r.takeWhile (W (cls c.toNat))).length ≤ t.pos
          simp only [List.length_cons]
          omega
        · rw [tk_one (by omega)]
          refine List.Pairwise.cons (fun t ht => ?_) (ih r.length (by omega) (k + 1) r rfl)
          have := (tk_sub _ _ _ rfl t ht).1
          rw [tokW_l]
          show k + 1 ≤ t.pos
          exact this

theorem tok_in {s : ByteArray} {i : Nat} (h : (tkAt (toks s) i).kind ≠ 0) : i < (tk 0 s.data.toList).length := by
  rcases Nat.lt_or_ge i (tk 0 s.data.toList).length with hi | hi
  · exact hi
  · exfalso
    rw [toks_list] at h
    by_cases e : i = (tk 0 s.data.toList).length
    · rw [e, tkAt_mid] at h; exact h rfl
    · unfold tkAt at h
      rw [List.getD_eq_getElem?_getD, List.getElem?_eq_none (by simp; omega)] at h
      exact h rfl
theorem toks_apart {s : ByteArray} {i j : Nat} (hij : i < j) (h : (tkAt (toks s) j).kind ≠ 0) : (tkAt (toks s) i).pos + (tkAt (toks s) i).l.length ≤ (tkAt (toks s) j).pos := by
  have hj := tok_in h
  have hp := tk_apart _ 0 s.data.toList rfl
  rw [List.pairwise_iff_getElem] at hp
  have e : ∀ m, (hm : m < (tk 0 s.data.toList).length) → tkAt (toks s) m = (tk 0 s.data.toList)[m] := fun m hm => by
    rw [toks_list, tkAt_left hm]
    unfold tkAt
    rw [List.getD_eq_getElem?_getD, List.getElem?_eq_getElem hm]; rfl
  rw [e i (by omega), e j hj]
  exact hp i j (by omega) hj hij

/-- a text with bytes put in at some places. -/
def movS (s : ByteArray) (ms : List Nat) (g : Nat → Nat) : ByteArray := ⟨(s.data.toList.mapIdx fun j c => if j ∈ ms then UInt8.ofNat (48 + g (c.toNat - 48)) else c).toArray⟩
theorem movS_size (s : ByteArray) (ms : List Nat) (g : Nat → Nat) : (movS s ms g).size = s.size := by
  show (movS s ms g).data.size = s.data.size
  simp [movS]
theorem movS_byt (s : ByteArray) (ms : List Nat) (g : Nat → Nat) (j : Nat) (hj : j < s.size) : byt (movS s ms g) j = if j ∈ ms then (UInt8.ofNat (48 + g (byt s j - 48))).toNat else byt s j := by
  have hl : j < s.data.toList.length := by have : s.data.toList.length = s.size := Array.length_toList; omega
  unfold byt movS
  simp only [List.getD_eq_getElem?_getD, List.getElem?_mapIdx, List.getElem?_eq_getElem hl, Option.map_some, Option.getD_some]
  split <;> rfl
theorem mov_msk {s : ByteArray} {ms : List Nat} {g : Nat → Nat} (hm : ∀ m ∈ ms, 48 ≤ byt s m ∧ byt s m ≤ 57) (hg : ∀ m ∈ ms, g (byt s m - 48) < 4) : (movS s ms g).data.toList.map msk = s.data.toList.map msk := by
  apply List.ext_getElem?
  intro j
  simp only [movS, List.getElem?_map, List.getElem?_mapIdx]
  cases h : s.data.toList[j]? with
  | none => rfl
  | some c =>
    simp only [Option.map_some]
    by_cases hj : j ∈ ms
    · rw [if_pos hj]
      have e : byt s j = c.toNat := by unfold byt; rw [List.getD_eq_getElem?_getD, h]; rfl
      have h1 := hm j hj
      have h2 := hg j hj
      rw [e] at h1 h2
      have d : ∀ n, 48 ≤ n → n ≤ 57 → cls n = 2 := fun n a b => by
        have : n = 48 ∨ n = 49 ∨ n = 50 ∨ n = 51 ∨ n = 52 ∨ n = 53 ∨ n = 54 ∨ n = 55 ∨ n = 56 ∨ n = 57 := by omega
        rcases this with rfl | rfl | rfl | rfl | rfl | rfl | rfl | rfl | rfl | rfl <;> decide
      unfold msk
      rw [if_pos (d _ h1.1 h1.2), if_pos]
      have e2 : (UInt8.ofNat (48 + g (c.toNat - 48))).toNat = 48 + g (c.toNat - 48) := by
        rw [UInt8.toNat_ofNat']
        exact Nat.mod_eq_of_lt (by omega)
      rw [e2]
      exact d _ (by omega) (by omega)
    · rw [if_neg hj]

theorem mskT_eq {t t' : Tk} (h : mskT t = mskT t') : t.kind = t'.kind ∧ t.pos = t'.pos ∧ t.l.map msk = t'.l.map msk := by
  unfold mskT at h
  simp only [Tk.mk.injEq, ByteArray.mk.injEq] at h
  obtain ⟨h1, h2, h3⟩ := h
  exact ⟨h1, h2, by simpa using h3⟩
theorem tk_ext {t t' : Tk} (h1 : t.kind = t'.kind) (h2 : t.pos = t'.pos) (h3 : t.l = t'.l) : t = t' := by
  obtain ⟨a, b, ⟨⟨c⟩⟩⟩ := t
  obtain ⟨a', b', ⟨⟨c'⟩⟩⟩ := t'
  simp only [Tk.l] at h3
  simp only at h1 h2
  subst h1 h2
  have : c = c' := h3
  subst this
  rfl

theorem mov_shape {s s' : ByteArray} (h : s'.data.toList.map msk = s.data.toList.map msk) (hs : s'.size = s.size) : (toks s').length = (toks s).length ∧ ∀ i, mskT (tkAt (toks s') i) = mskT (tkAt (toks s) i) := by
  have e : (tk 0 s'.data.toList).map mskT = (tk 0 s.data.toList).map mskT := by rw [← tk_msk _ 0 _ rfl, ← tk_msk _ 0 _ rfl, h]
  have e2 : (toks s').map mskT = (toks s).map mskT := by rw [toks_list, toks_list, List.map_append, List.map_append, e, hs]
  have hl : (toks s').length = (toks s).length := by have := congrArg List.length e2; simpa using this
  refine ⟨hl, fun i => ?_⟩
  have e3 := congrArg (fun l => l[i]?) e2
  simp only [List.getElem?_map] at e3
  unfold tkAt
  rw [List.getD_eq_getElem?_getD, List.getD_eq_getElem?_getD]
  by_cases hi : i < (toks s).length
  · rw [List.getElem?_eq_getElem hi, List.getElem?_eq_getElem (by omega)] at e3
    rw [List.getElem?_eq_getElem hi, List.getElem?_eq_getElem (by omega)]
    simpa using e3
  · rw [List.getElem?_eq_none (by omega), List.getElem?_eq_none (by omega)]

end Go.Proofs.Ytmndgoapkmhglaa

/- Plain mathematics: a text in which places were turned differs in the places alone. -/
namespace Go.Proofs.Ytmndgoapkmhglaa

theorem byt_len {s : ByteArray} {i : Nat} (h : (tkAt (toks s) i).kind ≠ 0) {c : Nat} (hc : c < (tkAt (toks s) i).l.length) : (tkAt (toks s) i).pos + c < s.size := by
  have hi := tok_in h
  have hm : tkAt (toks s) i ∈ tk 0 s.data.toList := by rw [toks_list, tkAt_left hi]; exact tkAt_mem hi
  generalize tkAt (toks s) i = t at hm hc ⊢
  have := (tk_sub _ 0 s.data.toList rfl t hm).2 c hc
  rw [Nat.sub_zero] at this
  have hl : s.data.toList.length = s.size := Array.length_toList
  have := (List.getElem?_eq_some_iff.1 this).1
  omega

theorem end_nil (s : ByteArray) (j : Nat) (h : (tkAt (toks s) j).kind = 0) : (tkAt (toks s) j).l = [] := by
  by_cases hj : j < (tk 0 s.data.toList).length
  · rw [toks_list, tkAt_left hj] at h
    have hf := tk_fine _ _ _ rfl _ (tkAt_mem hj)
    rcases hf with ⟨cl, hcl, _, _, hk⟩ | ⟨c, _, _, hk⟩
    · rw [hk] at h
      unfold kindK wordK numK at h
      rcases hcl with rfl | rfl
      · rw [if_pos rfl] at h; split at h <;> (try split at h) <;> cases h
      · rw [if_neg (by decide), if_pos rfl] at h; split at h <;> cases h
    · rw [hk] at h
      unfold kindK wordK numK at h
      repeat (first | (split at h) | cases h)
  · rw [toks_list]
    by_cases e : j = (tk 0 s.data.toList).length
    · rw [e, tkAt_mid]; rfl
    · unfold tkAt
      rw [List.getD_eq_getElem?_getD, List.getElem?_eq_none (by simp; omega)]; rfl

theorem mov_tokens {s : ByteArray} {L : List Dl} (h : Spell (toks s) L 0) {g : Nat → Nat} (hg : ∀ p, p < 4 → g p < 4) : MovT (toks s) (toks (movS s (marksF s) g)) L g := by
  have hmt := marks_text h
  have hpl : ∀ x ∈ eqL L, (tkAt (toks s) (x.i + 3)).kind = 3 ∧ placeD (toks s) x < 4 := fun x hx => by
    have hk : x.kind ≠ 0 := by simpa using (List.mem_filter.1 hx).2
    rcases (spell_mem L 0 h x (eq_mem hx)).2.2 with ⟨h0, _⟩ | ⟨_, _, _, h4, _⟩
    · exact absurd h0 hk
    · exact h4
  have hdig := fun x hx => fine_dig (toks_fine s (x.i + 3) (by rw [(hpl x hx).1]; decide)) (hpl x hx).1
  have hmem : ∀ m ∈ marksF s, ∃ x ∈ eqL L, m = lastD (tkAt (toks s) (x.i + 3)) := fun m hm => by
    rw [hmt] at hm
    obtain ⟨x, hx, e⟩ := List.mem_map.1 hm
    exact ⟨x, hx, e.symm⟩
  have hgm : ∀ m ∈ marksF s, g (byt s m - 48) < 4 := fun m hm => by
    obtain ⟨x, hx, rfl⟩ := hmem m hm
    rw [place_last (hpl x hx).1 (hpl x hx).2]
    exact hg _ (hpl x hx).2
  have hmi := marks_in s
  obtain ⟨hlen, hsh⟩ := mov_shape (s := s) (s' := movS s (marksF s) g) (mov_msk (fun m hm => (hmi m hm).2) hgm) (movS_size s _ g)
  have hsz := movS_size s (marksF s) g
  -- a token that has no mark in it
  have far : ∀ j, (∀ c, c < (tkAt (toks s) j).l.length → (tkAt (toks s) j).pos + c ∉ marksF s) → tkAt (toks (movS s (marksF s) g)) j = tkAt (toks s) j := fun j hj => by
    obtain ⟨e1, e2, e3⟩ := mskT_eq (hsh j)
    have hl : (tkAt (toks (movS s (marksF s) g)) j).l.length = (tkAt (toks s) j).l.length := by have := congrArg List.length e3; simpa using this
    refine tk_ext e1 e2 ?_
    by_cases h0 : (tkAt (toks s) j).kind = 0
    · have n1 : (tkAt (toks s) j).l = [] := end_nil s j h0
      rw [n1] at hl ⊢
      exact List.eq_nil_of_length_eq_zero hl
    · apply List.ext_getElem hl
      intro c hc1 hc2
      have b1 := toks_sub s j h0 c hc2
      have b2 := toks_sub (movS s (marksF s) g) j (by rw [e1]; exact h0) c hc1
      rw [e2, movS_byt s _ g _ (byt_len h0 hc2), if_neg (hj c hc2), b1] at b2
      exact (UInt8.toNat_inj.1 b2).symm
  have notMark : ∀ j, (∀ x ∈ eqL L, j ≠ x.i + 3) → (tkAt (toks s) j).kind ≠ 0 → ∀ c, c < (tkAt (toks s) j).l.length → (tkAt (toks s) j).pos + c ∉ marksF s := fun j hj h0 c hc hm => by
    obtain ⟨x, hx, e⟩ := hmem _ hm
    have hne := hj x hx
    have hxk : (tkAt (toks s) (x.i + 3)).kind ≠ 0 := by rw [(hpl x hx).1]; decide
    have hpos : 0 < (tkAt (toks s) (x.i + 3)).l.length := List.length_pos_iff.2 (hdig x hx).2.2
    unfold lastD at e
    rcases Nat.lt_or_gt_of_ne hne with hlt | hgt
    · have := toks_apart hlt hxk; omega
    · have := toks_apart hgt h0; omega
  refine { F := toks_F s, F' := toks_F _, len := hlen, oth := fun j hj => ?_, pl := fun x hx => ?_, lt := fun x hx => ⟨(hpl x hx).2, hg _ (hpl x hx).2⟩, sp := h }
  · by_cases h0 : (tkAt (toks s) j).kind = 0
    · exact far j (fun c hc => by rw [end_nil s j h0] at hc; simp at hc)
    · exact far j (notMark j hj h0)
  · obtain ⟨e1, e2, e3⟩ := mskT_eq (hsh (x.i + 3))
    obtain ⟨k3, hp4⟩ := hpl x hx
    refine ⟨k3, e1.trans k3, e2, ?_⟩
    have hl : (tkAt (toks (movS s (marksF s) g)) (x.i + 3)).l.length = (tkAt (toks s) (x.i + 3)).l.length := by have := congrArg List.length e3; simpa using this
    obtain ⟨_, hd, hne⟩ := hdig x hx
    obtain ⟨r, d, he, hv, hr0⟩ := val_last _ hd hne hp4
    have hlen2 : (tkAt (toks s) (x.i + 3)).l.length = r.length + 1 := by rw [he]; simp
    have h0 : (tkAt (toks s) (x.i + 3)).kind ≠ 0 := by rw [k3]; decide
    have h0' : (tkAt (toks (movS s (marksF s) g)) (x.i + 3)).kind ≠ 0 := by rw [e1]; exact h0
    -- the digits ahead of the last
    have ahead : ∀ c, c < r.length → (tkAt (toks s) (x.i + 3)).pos + c ∉ marksF s := fun c hc hm => by
      obtain ⟨y, hy, e⟩ := hmem _ hm
      have hpos : 0 < (tkAt (toks s) (y.i + 3)).l.length := List.length_pos_iff.2 (hdig y hy).2.2
      have hyk : (tkAt (toks s) (y.i + 3)).kind ≠ 0 := by rw [(hpl y hy).1]; decide
      unfold lastD at e
      rcases Nat.lt_trichotomy (x.i + 3) (y.i + 3) with hlt | heq | hgt
      · have := toks_apart hlt hyk; omega
      · rw [← heq, hlen2] at e; omega
      · have := toks_apart hgt h0; omega
    have lastm : (tkAt (toks s) (x.i + 3)).pos + r.length ∈ marksF s := by
      rw [hmt]
      refine List.mem_map.2 ⟨x, hx, ?_⟩
      unfold lastD
      rw [hlen2]; omega
    have hl' : (tkAt (toks (movS s (marksF s) g)) (x.i + 3)).l = r ++ [UInt8.ofNat (48 + g (placeD (toks s) x))] := by
      apply List.ext_getElem (by rw [hl, hlen2]; simp)
      intro c hc1 hc2
      have hc : c < (tkAt (toks s) (x.i + 3)).l.length := by rw [← hl]; exact hc1
      have b1 := toks_sub s (x.i + 3) h0 c hc
      have b2 := toks_sub (movS s (marksF s) g) (x.i + 3) h0' c hc1
      rw [e2, movS_byt s _ g _ (byt_len h0 hc)] at b2
      by_cases hcr : c < r.length
      · rw [if_neg (ahead c hcr), b1] at b2
        rw [List.getElem_append_left hcr]
        have e4 : (tkAt (toks s) (x.i + 3)).l[c] = r[c] := by simp [he, List.getElem_append_left hcr]
        rw [e4] at b2
        exact (UInt8.toNat_inj.1 b2).symm
      · have ec : c = r.length := by omega
        subst ec
        rw [if_pos lastm] at b2
        rw [List.getElem_append_right (Nat.le_refl _)]
        simp only [Nat.sub_self, List.getElem_cons_zero]
        have e5 : byt s ((tkAt (toks s) (x.i + 3)).pos + r.length) - 48 = placeD (toks s) x := by
          have := place_last (s := s) (k := x.i + 3) k3 hp4
          unfold lastD at this
          rw [hlen2, show (tkAt (toks s) (x.i + 3)).pos + (r.length + 1) - 1 = (tkAt (toks s) (x.i + 3)).pos + r.length by omega] at this
          exact this
        rw [e5] at b2
        exact (UInt8.toNat_inj.1 b2).symm
    show valOf (tkAt (toks (movS s (marksF s) g)) (x.i + 3)).l = _
    rw [hl', valOf_snoc, hr0]
    have e6 : (UInt8.ofNat (48 + g (placeD (toks s) x))).toNat = 48 + g (placeD (toks s) x) := by
      rw [UInt8.toNat_ofNat']
      exact Nat.mod_eq_of_lt (by have := hg _ hp4; omega)
    rw [e6]
    omega

end Go.Proofs.Ytmndgoapkmhglaa

/- moved. -/
namespace Go.Proofs.Ytmndgoapkmhglaa
open Go.RowKit
attribute [local go_sem ↓] Go.wp_at_zero Go.wp_at_succ

theorem marks_lt {s : ByteArray} {L : List Dl} (h : Spell (toks s) L 0) : (marksF s).Pairwise (· < ·) := by
  rw [marks_text h, List.pairwise_map]
  have hp : (eqL L).Pairwise (fun x y => x.i + x.len ≤ y.i) := (spell_lt L 0 h).filter _
  refine hp.imp_of_mem ?_
  intro x y hx hy hxy
  have hpl : ∀ x ∈ eqL L, (tkAt (toks s) (x.i + 3)).kind = 3 := fun x hx => by
    have hk : x.kind ≠ 0 := by simpa using (List.mem_filter.1 hx).2
    rcases (spell_mem L 0 h x (eq_mem hx)).2.2 with ⟨h0, _⟩ | ⟨_, _, _, h4, _⟩
    · exact absurd h0 hk
    · exact h4.1
  have hpos : ∀ x ∈ eqL L, 0 < (tkAt (toks s) (x.i + 3)).l.length := fun x hx => List.length_pos_iff.2 (fine_dig (toks_fine s (x.i + 3) (by rw [hpl x hx]; decide)) (hpl x hx)).2.2
  have := x.len_pos
  have h1 := toks_apart (s := s) (i := x.i + 3) (j := y.i + 3) (by omega) (by rw [hpl y hy]; decide)
  have h2 := hpos x hx
  have h3 := hpos y hy
  unfold lastD
  omega

theorem movS_nil (s : ByteArray) (g : Nat → Nat) : (movS s [] g).data.toList = s.data.toList := by
  apply List.ext_getElem?
  intro j
  simp [movS]
theorem movS_snoc {s : ByteArray} {ms : List Nat} {g : Nat → Nat} {i : Nat} (hi : i < ms.length) (hp : ms.Pairwise (· < ·)) (hm : ms[i] < s.size) :
    byt (movS s (ms.take i) g) ms[i] = byt s ms[i] ∧ (movS s (ms.take i) g).data.toList.set ms[i] (UInt8.ofNat (48 + g (byt s ms[i] - 48))) = (movS s (ms.take (i + 1)) g).data.toList := by
  have hne : ms[i] ∉ ms.take i := fun h => by
    obtain ⟨j, hj, e⟩ := List.getElem_of_mem h
    rw [List.length_take] at hj
    rw [List.getElem_take] at e
    have := (List.pairwise_iff_getElem.1 hp) j i (by omega) hi (by omega)
    omega
  refine ⟨by rw [movS_byt s _ g _ hm, if_neg hne], ?_⟩
  apply List.ext_getElem?
  intro j
  rw [List.getElem?_set]
  simp only [movS, List.getElem?_mapIdx, List.length_mapIdx]
  have hl : s.data.toList.length = s.size := Array.length_toList
  by_cases e : ms[i] = j
  · subst e
    rw [if_pos rfl, if_pos (by omega), List.getElem?_eq_getElem (by omega)]
    simp only [Option.map_some]
    rw [if_pos (by rw [List.take_succ_eq_append_getElem hi]; exact List.mem_append.2 (.inr (List.mem_singleton.2 rfl)))]
    have eb : byt s ms[i] = (s.data.toList[ms[i]]'(by omega)).toNat := by unfold byt; rw [List.getD_eq_getElem?_getD, List.getElem?_eq_getElem (by omega)]; rfl
    rw [eb]
  · rw [if_neg e]
    congr 1
    funext c
    have : j ∈ ms.take (i + 1) ↔ j ∈ ms.take i := by
      rw [List.take_succ_eq_append_getElem hi, List.mem_append, List.mem_singleton]
      exact ⟨fun h => h.elim id (fun h => absurd h.symm e), .inl⟩
    simp only [this]

/-- bytes of one's own. -/
def BAt (w : World) (G : Nat) (l : List UInt8) : Prop := ∀ j, (hj : j < l.length) → w.cell? ⟨G, j, none⟩ = some (.int .u8 (l[j].toNat : Int)) ∧ w.frozen? ⟨G, j, none⟩ = false
theorem BAt.below {w w' : World} {G : Nat} {l : List UInt8} (h : BAt w G l) (hb : Below w.heap.size w w') (hG : G < w.heap.size) : BAt w' G l := fun j hj =>
  ⟨(hb.cell (p := ⟨G, j, none⟩) hG).trans (h j hj).1, (hb.frozen (p := ⟨G, j, none⟩) hG).trans (h j hj).2⟩
theorem BAt.set {w : World} {G : Nat} {l : List UInt8} (h : BAt w G l) {m : Nat} (hm : m < l.length) (c : UInt8) : BAt (w.setCell ⟨G, m, none⟩ (.int .u8 (c.toNat : Int))) G (l.set m c) := fun j hj => by
  rw [List.length_set] at hj
  refine ⟨?_, by rw [World.frozen?_setCell]; exact (h j hj).2⟩
  rw [List.getElem_set]
  by_cases e : m = j
  · subst e
    rw [if_pos rfl]
    exact World.cell?_setCell_same _ _ _ (h m hm).1
  · rw [if_neg e, World.cell?_setCell_other _ _ _ _ (by intro e2; exact e (congrArg Addr.off e2))]
    exact (h j hj).1

set_option maxHeartbeats 4000000 in
set_option maxRecDepth 100000 in
theorem moved_any (s : ByteArray) (w : World) (hs : s.size ≤ 1500) {L : List Dl} (hsp : Spell (toks s) L 0) (r : Nat) (hr : r < 4) (gt : Bool) :
    Calls Try.prog 27 #[.string s, .int .i64 (r : Int), .bool gt] w fun e w' => e = .returned (.string (movS s (marksF s) (if gt then fun _ => 0 else rotG r))) ∧ Below w.heap.size w w' := by
  have hpw := marks_lt hsp
  have hin := marks_in s
  have hml : (marksF s).length ≤ 1500 := Nat.le_trans (mkL_len _ _ _) hs
  obtain ⟨cap, w1, hconv, hB, hb1, hs1⟩ : ∃ cap w1, (convert 9 89 (.string s)).run Try.prog w = .ok (.slice (some ⟨w.heap.size, 0, none⟩) s.size cap) w1 ∧ BAt w1 w.heap.size s.data.toList ∧ Below w.heap.size w w1 ∧ w1.heap.size = w.heap.size + 1 := by
    have h := Go.Lib.run_convert_string_bytes (P := Try.prog) w 9 89 5 s Try.underlying9 Try.underlying89 Try.underlying5
    refine ⟨_, _, h, fun j hj => ?_, ?_, Go.Lib.bytesWorld_size w _ s⟩
    · have hj' : j < s.size := by have : s.data.toList.length = s.size := Array.length_toList; omega
      refine ⟨?_, ?_⟩
      · rw [Go.Lib.bytesWorld_cell w _ s j hj', List.getD_eq_getElem?_getD, List.getElem?_eq_getElem hj]; rfl
      · have hn := Go.Lib.bytesWorld_at_new w 5 s
        have hz : s.size ≤ (Go.Lib.bytesCells w 5 s).size := by
          unfold Go.Lib.bytesCells
          rw [Array.size_append, Array.size_map]
          exact Nat.le_add_right _ _
        simp [World.frozen?, hn]
        omega
    · exact ⟨rfl, rfl, rfl, by rw [Go.Lib.bytesWorld_size]; omega, fun k hk => Go.Lib.bytesWorld_at_old w _ s k hk⟩
  have HM := hide (marks_any s w1 (Nat.le_trans hs (by decide)))
  have HB := hide hB
  have HB1 := hide hb1
  have HPW := hide hpw
  have HIN := hide hin
  have hlen : s.data.toList.length = s.size := Array.length_toList
  generalize hg : (if gt = true then (fun _ => 0) else rotG r) = g
  have HG := hide hg
  clear hB hb1 hpw hin hg
  go_enter Try.func27, Try.ntmps27
  go_wp2_with fail
  refine HM.out.mono ?_
  rintro e w2 ⟨vm, rfl, hown, hb2⟩
  obtain ⟨am, cm, rfl, hsh⟩ := own_shape hown
  have HOW := hide hown
  have HSH := hide hsh
  have HB2 := hide hb2
  have HBA : Hid (BAt w2 w.heap.size s.data.toList) := hide (HB.out.below hb2 (by omega))
  have hs2 := hb2.size
  clear hown hsh hb2 HB HM hconv
  go_wp2
  go_loopw [9] (fun vi wr => ∃ i : Nat, i ≤ (marksF s).length ∧ vi = .int .i64 i ∧ BAt wr w.heap.size (movS s ((marksF s).take i) g).data.toList ∧ wr.ownsRow w1.heap.size 3 1 (.slice am (marksF s).length cm) (marksF s).length (pCells (marksF s)) ∧ Below w.heap.size w wr ∧ w2.heap.size ≤ wr.heap.size) (fun vi _ => (marksF s).length - (intOf vi).toNat)
  case atStart => exact ⟨0, Nat.zero_le _, rfl, by rw [List.take_zero, movS_nil]; exact HBA.out, HOW.out, HB1.out.trans (HB2.out.mono (by omega)), Nat.le_refl _⟩
  case round =>
    obtain ⟨i, hi, rfl, hBi, howi, hbi, hsi⟩ := hrel
    have HBI := hide hBi
    have HWI := hide howi
    have HBL := hide hbi
    by_cases him : i < (marksF s).length
    · obtain ⟨gm, rfl, hgB, hgm⟩ := HSH.out (by omega)
      obtain ⟨m, hm⟩ : ∃ m, m = (marksF s)[i]'him := ⟨_, rfl⟩
      have hmm : m ∈ marksF s := by rw [hm]; exact List.getElem_mem him
      obtain ⟨m1, m2, m3⟩ := HIN.out m hmm
      have x1 : wr.cell? ⟨gm, i, none⟩ = some (.int .i64 (m : Int)) := by
        rw [howi.cellAt i (by omega)]
        unfold pCells
        rw [List.getElem?_map, List.getElem?_eq_getElem him, ← hm]; rfl
      obtain ⟨e1, e2⟩ := movS_snoc (s := s) (ms := marksF s) (g := g) him HPW.out (by rw [← hm]; exact m1)
      rw [← hm] at e1 e2
      have hml2 : m < (movS s ((marksF s).take i) g).data.toList.length := by have h1 : (movS s ((marksF s).take i) g).data.toList.length = (movS s ((marksF s).take i) g).size := Array.length_toList; have h2 := movS_size s ((marksF s).take i) g; omega
      have x2 := (hBi m hml2).1
      have x3 := (hBi m hml2).2
      have eb : ((movS s ((marksF s).take i) g).data.toList[m]).toNat = byt s m := by
        rw [← e1]; unfold byt; rw [List.getD_eq_getElem?_getD, List.getElem?_eq_getElem hml2]; rfl
      rw [eb] at x2
      obtain ⟨B, hB⟩ : ∃ B, B = byt s m := ⟨_, rfl⟩
      rw [← hB] at x2 m2 m3 e2
      have j1 : (0 : Int) ≤ (i : Int) := by omega
      have j2 : (i : Int) < ((marksF s).length : Int) := by omega
      have j3 : (0 : Int) ≤ (m : Int) := by omega
      have j4 : (m : Int) < (s.size : Int) := by omega
      have HST := hide (fun c => (hBi.set hml2 c))
      have HE2 := hide e2
      have HOO : Hid (∀ v, (wr.setCell ⟨w.heap.size, m, none⟩ v).ownsRow w1.heap.size 3 1 (.slice (some ⟨gm, 0, none⟩) (marksF s).length cm) (marksF s).length (pCells (marksF s))) := hide (fun v => own_of HWI.out (fun b hb => by
        have : gm = b := by simpa [Value.ownBlock] using hb
        exact heap_setCell_other _ ⟨w.heap.size, m, none⟩ b _ (by show b ≠ w.heap.size; omega)))
      have hg4 : ∀ G, g = G → G (B - 48) < 4 → Hid ((UInt8.ofNat (48 + g (B - 48))).toNat = 48 + G (B - 48)) := fun G hG h4 => hide (by
        rw [hG, UInt8.toNat_ofNat']; exact Nat.mod_eq_of_lt (by omega))
      clear hBi howi hm hmm e1 eb hB e2 hml2
      cases gt with
      | true =>
        have hgg : g = fun _ => 0 := HG.out.symm
        have HU := hg4 _ hgg (by decide)
        have HFN := hide (HST.out (UInt8.ofNat (48 + g (B - 48))))
        rw [HE2.out, HU.out] at HFN
        clear hg4 HST hgg HG
        go_wp2
        go_roundw
        case rel => exact ⟨i + 1, by omega, by go_num, HFN.out, HOO.out _, HBL.out.setCell (Nat.le_refl _) _, by simpa using hsi⟩
        case measure => simp [intOf]; omega
      | false =>
        have hgg : g = rotG r := HG.out.symm
        have HU := hg4 _ hgg (by unfold rotG; exact Nat.mod_lt _ (by omega))
        have HFN := hide (HST.out (UInt8.ofNat (48 + g (B - 48))))
        rw [HE2.out, HU.out] at HFN
        have HQ : Hid (((B : Int) - 48 + (r : Int)) % 4 = ((rotG r (B - 48) : Nat) : Int)) := hide (by unfold rotG; omega)
        have hq4 : rotG r (B - 48) < 4 := by unfold rotG; exact Nat.mod_lt _ (by omega)
        clear hg4 HST hgg HG
        generalize rotG r (B - 48) = q at HQ hq4 HFN
        go_wp2_with fail
        rw [HQ.out]
        go_roundw
        case rel => exact ⟨i + 1, by omega, by go_num, HFN.out, HOO.out _, HBL.out.setCell (Nat.le_refl _) _, by simpa using hsi⟩
        case measure => simp [intOf]; omega
    · have ei : i = (marksF s).length := by omega
      subst ei
      have z1 : ¬ ((marksF s).length : Int) < ((marksF s).length : Int) := by omega
      rw [List.take_length] at hBi
      have hl2 : (movS s (marksF s) g).data.toList.length = s.size := by have h1 : (movS s (marksF s) g).data.toList.length = (movS s (marksF s) g).size := Array.length_toList; rw [h1, movS_size]
      have hback := run_convert_bytes_back (P := Try.prog) wr 89 9 5 ⟨w.heap.size, 0, none⟩ cap (movS s (marksF s) g).data.toList Try.underlying89 Try.underlying5 Try.underlying9 (fun j hj => by rw [Addr.add_lit, Nat.zero_add]; exact (hBi j hj).1)
      rw [hl2] at hback
      clear hBi howi
      go_wp2
      go_ret
      exact ⟨rfl, HBL.out⟩

end Go.Proofs.Ytmndgoapkmhglaa

/- rows, turned. -/
namespace Go.Proofs.Ytmndgoapkmhglaa
open Go.RowKit
attribute [local go_sem ↓] Go.wp_at_zero Go.wp_at_succ

set_option maxHeartbeats 2000000 in
set_option maxRecDepth 100000 in
theorem krows_any (w : World) (va vb : Value) (m n : Nat) (F F' : Nat → Nat → Int) (ha : RdRows w va m n F) (hb : RdRows w vb m n F') (he : ∀ i, i < m → rowF F i n = rowF F' i n) (hm : m ≤ 1000) :
    Calls Try.prog 28 #[va, vb] w fun e w' => e = .returned (.bool true) ∧ Below w.heap.size w w' := by
  obtain ⟨a1, c1, g1, AK, CK, rfl, h1, h2⟩ := ha.ex
  obtain ⟨a2, c2, g2, BK, DK, rfl, k1, k2⟩ := hb.ex
  have HH1 := hide h1
  have HH2 := hide h2
  have HK1 := hide k1
  have HK2 := hide k2
  have HE := hide he
  clear ha hb h1 h2 k1 k2 he
  go_enter Try.func28, Try.ntmps28
  go_wp2
  go_loopw [5] (fun vi wr => ∃ k : Nat, k ≤ m ∧ vi = .int .i64 k ∧ Below w.heap.size w wr) (fun vi _ => m - (intOf vi).toNat)
  case atStart => exact ⟨0, Nat.zero_le _, rfl, Below.refl _ _⟩
  case round =>
    obtain ⟨k, hk, rfl, hbr⟩ := hrel
    have HBR := hide hbr
    by_cases hkm : k < m
    · obtain ⟨rfl, hg1⟩ := HH1.out (by omega)
      obtain ⟨rfl, hg2⟩ := HK1.out (by omega)
      obtain ⟨x1, r1, _⟩ := HH2.out k hkm
      obtain ⟨x2, r2, _⟩ := HK2.out k hkm
      have HS : Hid (∀ W, Below w.heap.size w W → Calls Try.prog 26 #[.slice (AK k) n (CK k), .slice (BK k) n (DK k)] W fun e w' => e = .returned (.bool true) ∧ Below W.heap.size W w') := hide (fun W hW => by
        have := ksame_any W _ _ _ _ (r1.below hW) (r2.below hW)
        rwa [HE.out k hkm, show (rowF F' k n == rowF F' k n) = true by simp] at this)
      have y1 := (hbr.cell (p := ⟨g1, k, none⟩) hg1).trans x1
      have y2 := (hbr.cell (p := ⟨g2, k, none⟩) hg2).trans x2
      generalize AK k = ak at y1 HS
      generalize CK k = ck at y1 HS
      generalize BK k = bk at y2 HS
      generalize DK k = dk at y2 HS
      have j3 : (0 : Int) ≤ (k : Int) := by omega
      have j4 : (k : Int) < (m : Int) := by omega
      have q1 : g1 < wr.heap.size := World.block_lt_of_cell? _ _ y1
      have q2 : g2 < wr.heap.size := World.block_lt_of_cell? _ _ y2
      clear x1 x2 r1 r2 hbr
      go_wp2_with fail
      go_region_held3 (fun w' => w'.cell? ⟨g1, k, none⟩ = some (.slice ak n ck) ∧ w'.cell? ⟨g2, k, none⟩ = some (.slice bk n dk)) (go_keep)
        ((go_at_call 26; refine (HS.out _ HBR.out.drew).mono ?_; rintro e wa ⟨rfl, hba⟩; have t1 := (hba.cell (p := ⟨g1, k, none⟩) q1).trans y1; have t2 := (hba.cell (p := ⟨g2, k, none⟩) q2).trans y2))
      rename_i hHeld
      clear hHeld t1 t2
      have HBA : Hid (Below w.heap.size w wa) := hide (HBR.out.drew.trans (hba.mono HBR.out.size))
      clear y1 y2 hba
      go_wp2
      go_roundw
      case rel => exact ⟨k + 1, by omega, by go_num, by first | exact HBA.out | exact below_drewN HBA.out _⟩
      case measure => simp [intOf]; omega
    · have ek : k = m := by omega
      subst ek
      have z1 : ¬ (k : Int) < (k : Int) := by omega
      go_wp2
      go_ret
      exact ⟨rfl, HBR.out⟩

/-- has it been met? -/
def FoundAt (l : List Rt) (t : Rt) (j : Nat) (b : Bool) : Prop := b = true ↔ ∃ j', ∃ h : j' < l.length, j' < j ∧ l[j'] = t
theorem FoundAt.zero (l : List Rt) (t : Rt) : FoundAt l t 0 false := ⟨fun h => (by cases h), fun ⟨_, _, h, _⟩ => (by omega)⟩
theorem FoundAt.keep {l : List Rt} {t : Rt} {j : Nat} (h : FoundAt l t j true) : FoundAt l t (j + 1) true := ⟨fun _ => by
  obtain ⟨j', h1, h2, h3⟩ := h.1 rfl
  exact ⟨j', h1, by omega, h3⟩, fun _ => rfl⟩
theorem FoundAt.next {l : List Rt} {t : Rt} {j : Nat} (h : FoundAt l t j false) (hj : j < l.length) (b : Bool) (hb : b = true ↔ l[j] = t) : FoundAt l t (j + 1) b := by
  unfold FoundAt
  rw [hb]
  constructor
  · intro e; exact ⟨j, hj, by omega, e⟩
  · rintro ⟨j', h1, h2, h3⟩
    by_cases e : j' = j
    · subst e; exact h3
    · have := h.2 ⟨j', h1, by omega, h3⟩; cases this
theorem FoundAt.all {l : List Rt} {t : Rt} {b : Bool} (h : FoundAt l t l.length b) (ht : t ∈ l) : b = true := h.2 (by
  obtain ⟨j', h1, h2⟩ := List.getElem_of_mem ht
  exact ⟨j', h1, h1, h2⟩)

set_option maxHeartbeats 4000000 in
set_option maxRecDepth 100000 in
theorem kturned_any (w : World) (va vb : Value) (rs rs' : List Rt) (r : Nat) (hr : r < 4) (ha : w.ownsRow 0 42 3 va rs.length (rtCells rs)) (hb : w.ownsRow 0 42 3 vb rs'.length (rtCells rs')) (hl : rs'.length = rs.length) (hs : rs.length ≤ 6100) (hd : ∀ x ∈ rs, x.dst < 4)
    (hin : ∀ x ∈ rs, (⟨x.src, (x.dst + r) % 4, x.late⟩ : Rt) ∈ rs') :
    Calls Try.prog 29 #[va, vb, .int .i64 (r : Int)] w fun e w' => e = .returned (.bool true) ∧ Below w.heap.size w w' := by
  obtain ⟨aa, ca, rfl, hsa⟩ := own_shape ha
  obtain ⟨ab, cb, rfl, hsb⟩ := own_shape hb
  have HA := hide ha
  have HB := hide hb
  have HSA := hide hsa
  have HSB := hide hsb
  have HI := hide hin
  have HD := hide hd
  have HL := hide hl
  have q0 : ((rs.length : Int) != (rs'.length : Int)) = false := by rw [hl]; simp
  clear ha hb hsa hsb hin hd
  obtain ⟨M, hM⟩ : ∃ M, M = rs'.length := ⟨_, rfl⟩
  rw [← hM] at HB q0 HL hl ⊢
  have HMM := hide hM
  have hM6 : M ≤ 6100 := by omega
  clear hM hl
  go_enter Try.func29, Try.ntmps29
  go_wp2
  go_loopw [7] (fun vi wr => ∃ k : Nat, k ≤ rs.length ∧ vi = .int .i64 k ∧ Below w.heap.size w wr) (fun vi _ => rs.length - (intOf vi).toNat)
  case atStart => exact ⟨0, Nat.zero_le _, rfl, Below.refl _ _⟩
  case round =>
    obtain ⟨k, hk, rfl, hbr⟩ := hrel
    have HBR := hide hbr
    by_cases hkm : k < rs.length
    · obtain ⟨ga, rfl, _, hga⟩ := HSA.out (by omega)
      obtain ⟨x, hx⟩ : ∃ x, x = rs[k]'hkm := ⟨_, rfl⟩
      have hc : ∀ i, i < 3 → wr.cell? ⟨ga, k * 3 + i, none⟩ = x.cells[i]? := fun i hi => by
        rw [hbr.cell (p := ⟨ga, k * 3 + i, none⟩) hga, HA.out.cellAt (k * 3 + i) (by omega)]
        have e := flat_get Rt.cells 3 rt_len rs k i hkm hi
        rw [← hx] at e
        exact e
      have x0 : wr.cell? ⟨ga, k * 3, none⟩ = some (.int .i64 (x.src : Int)) := hc 0 (by omega)
      have x1 : wr.cell? ⟨ga, k * 3 + 1, none⟩ = some (.int .i64 (x.dst : Int)) := hc 1 (by omega)
      have x2 : wr.cell? ⟨ga, k * 3 + 2, none⟩ = some (.bool x.late) := hc 2 (by omega)
      have hxm : x ∈ rs := by rw [hx]; exact List.getElem_mem hkm
      have hxd := HD.out x hxm
      have HXI := hide (HI.out x hxm)
      have HQ : Hid (((x.dst : Int) + (r : Int)) % 4 = (((x.dst + r) % 4 : Nat) : Int)) := hide (by omega)
      generalize x.src = xs at *
      generalize x.dst = xd at *
      generalize x.late = xl at *
      have j3 : (0 : Int) ≤ (k : Int) := by omega
      have j4 : (k : Int) < (rs.length : Int) := by omega
      clear hc hx hxm hbr
      go_wp2_with fail
      rw [HQ.out]
      generalize (xd + r) % 4 = xq at HXI
      obtain ⟨bx, hbx⟩ : ∃ bx, bx = wr.alloc (.cells #[.int .i64 (xs : Int), .int .i64 (xq : Int), .bool xl] 42) := ⟨_, rfl⟩
      have HBX : Hid (Below wr.heap.size wr bx) := hide (by rw [hbx]; exact (Below.refl _ _).alloc (Nat.le_refl _) _)
      have HSZ : Hid (wr.heap.size < bx.heap.size) := hide (by rw [hbx]; simp)
      have HBC : Hid (bx.heap[wr.heap.size]? = some (.cells #[.int .i64 (xs : Int), .int .i64 (xq : Int), .bool xl] 42)) := hide (by rw [hbx]; exact heap_alloc_new wr _)
      rw [← hbx]
      clear hbx HQ x0 x1 x2
      obtain ⟨bk, hbk⟩ : ∃ bk, bk = wr.heap.size := ⟨_, rfl⟩
      rw [← hbk] at HBC HSZ HBX ⊢
      have HWX : Hid (Below w.heap.size w bx) := hide (HBR.out.trans (HBX.out.mono (by rw [hbk]; exact HBR.out.size)))
      clear hbk HBX
      go_loopw [9, 10] (fun vf vj wx => ∃ (j : Nat) (fb : Bool), j ≤ M ∧ vf = .bool fb ∧ vj = .int .i64 j ∧ Below bx.heap.size bx wx ∧ FoundAt rs' ⟨xs, xq, xl⟩ j fb) (fun _ vj _ => M - (intOf vj).toNat)
      case atStart => exact ⟨0, false, Nat.zero_le _, rfl, rfl, by first | exact Below.refl _ _ | exact below_drewN (Below.refl _ _) _, FoundAt.zero _ _⟩
      case round =>
        obtain ⟨j, fb, hj, rfl, rfl, hbj, hfb⟩ := hrel
        have HBJ := hide hbj
        have HF := hide hfb
        clear hfb
        by_cases hjm : j < M
        · have z1 : (j : Int) < (M : Int) := by omega
          cases fb with
          | true =>
            have HF2 := hide HF.out.keep
            clear HF
            go_wp2_with fail
            go_quiet (fail)
            go_wp2
            go_roundw
            case rel => exact ⟨j + 1, true, by omega, rfl, by go_num, by first | exact HBJ.out | exact below_drewN HBJ.out _, HF2.out⟩
            case measure => simp [intOf]; omega
          | false =>
            obtain ⟨gb, rfl, _, hgb⟩ := HSB.out (by rw [← HMM.out]; omega)
            have hjr : j < rs'.length := by rw [← HMM.out]; exact hjm
            obtain ⟨y, hy⟩ : ∃ y, y = rs'[j]'hjr := ⟨_, rfl⟩
            have hbw : Below w.heap.size w wr := HWX.out.trans (hbj.mono HWX.out.size)
            have hc : ∀ i, i < 3 → wr.cell? ⟨gb, j * 3 + i, none⟩ = y.cells[i]? := fun i hi => by
              rw [hbw.cell (p := ⟨gb, j * 3 + i, none⟩) hgb, HB.out.cellAt (j * 3 + i) (by omega)]
              have e := flat_get Rt.cells 3 rt_len rs' j i hjr hi
              rw [← hy] at e
              exact e
            have y0 : wr.cell? ⟨gb, j * 3, none⟩ = some (.int .i64 (y.src : Int)) := hc 0 (by omega)
            have y1 : wr.cell? ⟨gb, j * 3 + 1, none⟩ = some (.int .i64 (y.dst : Int)) := hc 1 (by omega)
            have y2 : wr.cell? ⟨gb, j * 3 + 2, none⟩ = some (.bool y.late) := hc 2 (by omega)
            have hbn : wr.heap[bk]? = some (.cells #[.int .i64 (xs : Int), .int .i64 (xq : Int), .bool xl] 42) := (hbj.block bk HSZ.out).trans HBC.out
            have b0 := cell_of_row wr bk 0 _ _ _ hbn
            have b1 := cell_of_row wr bk 1 _ _ _ hbn
            have b2 := cell_of_row wr bk 2 _ _ _ hbn
            have HNX := hide (HF.out.next hjr)
            rw [← hy] at HNX
            have j3' : (0 : Int) ≤ (j : Int) := by omega
            obtain ⟨ys, yd, yl⟩ := y
            simp only at y0 y1 y2
            simp only [Rt.mk.injEq] at HNX
            clear hc hy hbn hbj HF hbw
            by_cases c1 : ys = xs
            · have d1 : ((ys : Int) == (xs : Int)) = true := by rw [c1]; simp
              by_cases c2 : yd = xq
              · have d2 : ((yd : Int) == (xq : Int)) = true := by rw [c2]; simp
                by_cases c3 : yl = xl
                · have d3 : (yl == xl) = true := by rw [c3]; simp
                  have HN2 := hide (HNX.out true ⟨fun _ => ⟨c1, c2, c3⟩, fun _ => rfl⟩)
                  clear c1 c2 c3 HNX
                  go_wp2_with fail
                  go_quiet (fail)
                  go_wp2
                  go_roundw
                  case rel => exact ⟨j + 1, true, by omega, by simp_all, by go_num, by first | exact HBJ.out | exact below_drewN HBJ.out _, HN2.out⟩
                  case measure => simp [intOf]; omega
                · have d3 : (yl == xl) = false := by rw [beq_eq_false_iff_ne]; exact c3
                  have HN2 := hide (HNX.out false ⟨fun h => (by cases h), fun h => absurd h.2.2 c3⟩)
                  clear c1 c2 c3 HNX
                  go_wp2_with fail
                  go_quiet (fail)
                  go_wp2
                  go_roundw
                  case rel => exact ⟨j + 1, false, by omega, by simp_all, by go_num, by first | exact HBJ.out | exact below_drewN HBJ.out _, HN2.out⟩
                  case measure => simp [intOf]; omega
              · have d2 : ((yd : Int) == (xq : Int)) = false := by rw [beq_eq_false_iff_ne]; omega
                have HN2 := hide (HNX.out false ⟨fun h => (by cases h), fun h => absurd h.2.1 c2⟩)
                clear c1 c2 HNX
                go_wp2_with fail
                go_quiet (fail)
                go_wp2
                go_roundw
                case rel => exact ⟨j + 1, false, by omega, by simp_all, by go_num, by first | exact HBJ.out | exact below_drewN HBJ.out _, HN2.out⟩
                case measure => simp [intOf]; omega
            · have d1 : ((ys : Int) == (xs : Int)) = false := by rw [beq_eq_false_iff_ne]; omega
              have HN2 := hide (HNX.out false ⟨fun h => (by cases h), fun h => absurd h.1 c1⟩)
              clear c1 HNX
              go_wp2_with fail
              go_quiet (fail)
              go_wp2
              go_roundw
              case rel => exact ⟨j + 1, false, by omega, by simp_all, by go_num, by first | exact HBJ.out | exact below_drewN HBJ.out _, HN2.out⟩
              case measure => simp [intOf]; omega
        · have ej : j = M := by omega
          subst ej
          have z1 : ¬ (j : Int) < (j : Int) := by omega
          have hft : fb = true := FoundAt.all (by rw [← HMM.out]; exact HF.out) HXI.out
          subst hft
          have HWJ : Hid (Below w.heap.size w wr) := hide (HWX.out.trans (hbj.mono HWX.out.size))
          clear HF hbj
          go_wp2
          go_roundw
          case rel => exact ⟨k + 1, by omega, by go_num, by first | exact HWJ.out | exact below_drewN HWJ.out _⟩
          case measure => simp [intOf]; omega
    · have ek : k = rs.length := by omega
      subst ek
      have z1 : ¬ (rs.length : Int) < (rs.length : Int) := by omega
      go_wp2
      go_ret
      exact ⟨rfl, HBR.out⟩

end Go.Proofs.Ytmndgoapkmhglaa
