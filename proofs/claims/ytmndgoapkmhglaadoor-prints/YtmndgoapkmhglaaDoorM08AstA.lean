import Derived.Test.YtmndgoapkmhglaaDoorM01Tkl
import Derived.Test.YtmndgoapkmhglaaDoorM07Wide
/- Plain mathematics: the tokens of what is laid out. -/
namespace Go.Proofs.YtmndgoapkmhglaaDoor

/-- a token as the text's bytes make it. -/
def Fine (t : Tk) : Prop :=
  (∃ cl, (cl = 1 ∨ cl = 2) ∧ t.l ≠ [] ∧ (∀ c ∈ t.l, W cl c = true) ∧ t.kind = kindK t.l cl) ∨ (∃ c, t.l = [c] ∧ 3 ≤ cls c.toNat ∧ t.kind = kindK [c] (cls c.toNat))

theorem tw_all (p : UInt8 → Bool) : ∀ r : List UInt8, ∀ c ∈ r.takeWhile p, p c = true := by
  intro r
  induction r with
  | nil => intro c hc; simp at hc
  | cons d r ih =>
    intro c hc
    rw [List.takeWhile_cons] at hc
    split at hc
    · rename_i hd
      rcases List.mem_cons.1 hc with rfl | hc
      · exact hd
      · exact ih c hc
    · simp at hc

theorem tk_fine : ∀ n k (l : List UInt8), l.length = n → ∀ t ∈ tk k l, Fine t := by
  intro n
  induction n using Nat.strongRecOn with
  | _ n ih =>
    intro k l hn t ht
    cases l with
    | nil => rw [tk_nil] at ht; simp at ht
    | cons c r =>
      simp only [List.length_cons] at hn
      by_cases h0 : cls c.toNat = 0
      · rw [tk_blank h0] at ht
        exact ih r.length (by omega) (k + 1) r rfl t ht
      · by_cases h12 : cls c.toNat = 1 ∨ cls c.toNat = 2
        · rw [tk_word h12] at ht
          rcases List.mem_cons.1 ht with rfl | ht
          · refine .inl ⟨cls c.toNat, h12, by simp [Tk.l, tokW], ?_, by simp [Tk.l, tokW]⟩
            intro d hd
            have hd' : d ∈ c :: r.takeWhile (W (cls c.toNat)) := by simpa [Tk.l, tokW] using hd
            rcases List.mem_cons.1 hd' with rfl | hd'
            · exact W_self d
            · exact tw_all _ r d hd'
          · have hl := take_drop_len (W (cls c.toNat)) r
            exact ih _ (by omega) _ _ rfl t ht
        · rw [tk_one (by omega)] at ht
          rcases List.mem_cons.1 ht with rfl | ht
          · exact .inr ⟨c, by simp [Tk.l, tokW], by omega, by simp [tokW]⟩
          · exact ih r.length (by omega) (k + 1) r rfl t ht

/-- a rest that does not go on with a class. -/
def Stops (cl : Nat) (rest : List UInt8) : Prop := ∀ c, rest.head? = some c → W cl c = false

theorem tw_stop {p : UInt8 → Bool} : ∀ (w rest : List UInt8), (∀ c ∈ w, p c = true) → (∀ c, rest.head? = some c → p c = false) → (w ++ rest).takeWhile p = w ∧ (w ++ rest).dropWhile p = rest := by
  intro w
  induction w with
  | nil =>
    intro rest _ hr
    cases rest with
    | nil => exact ⟨rfl, rfl⟩
    | cons d r => simp [hr d rfl]
  | cons c w ih =>
    intro rest hw hr
    have hc := hw c (List.mem_cons_self ..)
    obtain ⟨h1, h2⟩ := ih rest (fun d hd => hw d (List.mem_cons_of_mem _ hd)) hr
    rw [List.cons_append, List.takeWhile_cons, List.dropWhile_cons, if_pos hc, if_pos hc, h1, h2]
    exact ⟨rfl, rfl⟩

theorem W_cls {cl : Nat} {c : UInt8} (h : W cl c = true) : cls c.toNat = cl := by unfold W at h; simpa using h

theorem tk_front {cl : Nat} (hcl : cl = 1 ∨ cl = 2) (k : Nat) (w rest : List UInt8) (hw : w ≠ []) (ha : ∀ c ∈ w, W cl c = true) (hr : Stops cl rest) : tk k (w ++ rest) = tokW k w cl :: tk (k + w.length) rest := by
  cases w with
  | nil => exact absurd rfl hw
  | cons c w =>
    have hc := W_cls (ha c (List.mem_cons_self ..))
    rw [List.cons_append, tk_word (by rw [hc]; exact hcl), hc]
    obtain ⟨h1, h2⟩ := tw_stop (p := W cl) w rest (fun d hd => ha d (List.mem_cons_of_mem _ hd)) hr
    rw [h1, h2, List.length_cons, show k + 1 + w.length = k + (w.length + 1) by omega]

theorem trim_ne {l : List UInt8} (h : l ≠ []) : trimL l ≠ [] := by
  induction l with
  | nil => exact absurd rfl h
  | cons c r ih =>
    cases r with
    | nil => exact h
    | cons d r =>
      unfold trimL
      split
      · exact ih (by simp)
      · exact h
theorem trim_mem : ∀ l : List UInt8, ∀ c ∈ trimL l, c ∈ l := by
  intro l
  induction l with
  | nil => intro c hc; exact hc
  | cons a r ih =>
    intro c hc
    cases r with
    | nil => exact hc
    | cons d r =>
      unfold trimL at hc
      split at hc
      · exact List.mem_cons_of_mem _ (ih c hc)
      · exact hc
theorem trim_trim : ∀ l : List UInt8, trimL (trimL l) = trimL l := by
  intro l
  induction l with
  | nil => rfl
  | cons a r ih =>
    cases r with
    | nil => rfl
    | cons d r =>
      by_cases h : a = 48
      · have e : trimL (a :: d :: r) = trimL (d :: r) := by rw [trimL, if_pos h]
        rw [e]; exact ih
      · have e : trimL (a :: d :: r) = a :: d :: r := by rw [trimL, if_neg h]
        rw [e, e]
theorem trim_val : ∀ l : List UInt8, valOf (trimL l) = valOf l := by
  intro l
  induction l with
  | nil => rfl
  | cons a r ih =>
    cases r with
    | nil => rfl
    | cons d r =>
      by_cases h : a = 48
      · have e : trimL (a :: d :: r) = trimL (d :: r) := by rw [trimL, if_pos h]
        rw [e, ih, h]
        unfold valOf
        simp
      · have e : trimL (a :: d :: r) = a :: d :: r := by rw [trimL, if_neg h]
        rw [e]

theorem kind3_cls {w : List UInt8} {cl : Nat} (h : kindK w cl = 3) : cl = 2 ∧ w.length ≤ 18 := by
  unfold kindK at h
  split at h
  · unfold wordK at h
    split at h
    · cases h
    split at h <;> cases h
  split at h
  · rename_i hc
    unfold numK at h
    split at h
    · cases h
    · exact ⟨hc, by omega⟩
  split at h <;> cases h

theorem trim_short : ∀ l : List UInt8, (trimL l).length ≤ l.length := by
  intro l
  induction l with
  | nil => exact Nat.le_refl _
  | cons c r ih =>
    cases r with
    | nil => exact Nat.le_refl _
    | cons d r =>
      unfold trimL
      split
      · exact Nat.le_trans ih (by simp)
      · exact Nat.le_refl _

/-- the same token laid out: as fine, of the same kind. -/
theorem fine_bare {t : Tk} (h : Fine t) : (∃ cl, (cl = 1 ∨ cl = 2) ∧ bareL t ≠ [] ∧ (∀ c ∈ bareL t, W cl c = true) ∧ kindK (bareL t) cl = t.kind) ∨ (∃ c, bareL t = [c] ∧ t.l = [c] ∧ 3 ≤ cls c.toNat ∧ t.kind = kindK [c] (cls c.toNat)) := by
  rcases h with ⟨cl, hcl, hne, hal, hk⟩ | ⟨c, hl, hc, hk⟩
  · left
    unfold bareL
    by_cases h3 : t.kind = 3
    · rw [if_pos h3]
      obtain ⟨rfl, h18⟩ := kind3_cls (hk ▸ h3)
      refine ⟨2, .inr rfl, trim_ne hne, fun c hc => hal c (trim_mem _ c hc), ?_⟩
      rw [h3]
      have := trim_short t.l
      unfold kindK numK
      rw [if_neg (by decide), if_pos rfl, if_neg (by omega)]
    · rw [if_neg h3]
      exact ⟨cl, hcl, hne, hal, hk.symm⟩
  · right
    refine ⟨c, ?_, hl, hc, hk⟩
    unfold bareL
    rw [if_neg, hl]
    intro h3
    have := (kind3_cls (hk ▸ h3)).1
    omega
/-- what follows a token, laid out. -/
def outG : List UInt8 → List Tk → List UInt8
  | prev, [] => gapL prev []
  | prev, t :: r => gapL prev t.l ++ (bareL t ++ outG t.l r)

theorem gap_head {a b : List UInt8} {cl : Nat} (hcl : cl = 1 ∨ cl = 2) (x : List UInt8) (h : gapL a b ≠ []) : Stops cl (gapL a b ++ x) := by
  intro c hc
  unfold gapL at h hc
  split at hc
  · simp at hc; subst hc; rcases hcl with rfl | rfl <;> decide
  split at hc
  · rename_i h1 h2; rw [if_neg h1, if_pos h2] at h; exact absurd rfl h
  · simp at hc; subst hc; rcases hcl with rfl | rfl <;> decide

theorem gap_none {a b : List UInt8} (h : gapL a b = []) : a = [40] ∨ b = [41] ∨ b = [59] := by
  unfold gapL at h
  split at h
  · cases h
  split at h
  · assumption
  · cases h

theorem outG_stops {t : Tk} {cl : Nat} (hcl : cl = 1 ∨ cl = 2) (ht : t.l ≠ [40]) (r : List Tk) (hf : ∀ u ∈ r, Fine u) : Stops cl (outG t.l r) := by
  cases r with
  | nil =>
    unfold outG
    by_cases h : gapL t.l [] = []
    · rcases gap_none h with h | h | h
      · exact absurd h ht
      · cases h
      · cases h
    · have := gap_head hcl [] h
      simpa using this
  | cons u r =>
    unfold outG
    by_cases h : gapL t.l u.l = []
    · rw [h, List.nil_append]
      intro c hc
      have hu : u.l = [41] ∨ u.l = [59] := by
        rcases gap_none h with h | h
        · exact absurd h ht
        · exact h
      have hb : bareL u = u.l := by
        rcases fine_bare (hf u (List.mem_cons_self ..)) with ⟨cl', hcl', _, hal, _⟩ | ⟨d, h1, h2, _⟩
        · unfold bareL
          split
          · rcases hu with e | e <;> rw [e] <;> rfl
          · rfl
        · rw [h1, h2]
      rw [hb] at hc
      rcases hu with e | e <;> rw [e] at hc <;> simp at hc <;> subst hc <;> rcases hcl with rfl | rfl <;> decide
    · exact gap_head hcl _ h

def OutR (t u : Tk) : Prop := u.kind = t.kind ∧ u.l = bareL t

theorem tk_gap (k : Nat) (a b x : List UInt8) : ∃ k', tk k (gapL a b ++ x) = tk k' x := by
  unfold gapL
  split
  · exact ⟨k + 1, by rw [List.singleton_append, tk_blank (by decide)]⟩
  split
  · exact ⟨k, rfl⟩
  · exact ⟨k + 1, by rw [List.singleton_append, tk_blank (by decide)]⟩

theorem out_front {t : Tk} (ht : Fine t) (r : List Tk) (hf : ∀ u ∈ r, Fine u) (k : Nat) : ∃ u k', OutR t u ∧ tk k (bareL t ++ outG t.l r) = u :: tk k' (outG t.l r) := by
  rcases fine_bare ht with ⟨cl, hcl, hne, hal, hk⟩ | ⟨c, h1, h2, hc, hk⟩
  · have hstop : Stops cl (outG t.l r) := by
      refine outG_stops hcl ?_ r hf
      intro e
      have hb : bareL t = [40] := by
        unfold bareL; rw [e]; split <;> rfl
      have := hal 40 (by rw [hb]; simp)
      rcases hcl with rfl | rfl <;> revert this <;> decide
    exact ⟨tokW k (bareL t) cl, _, ⟨hk, by simp [tokW, Tk.l]⟩, tk_front hcl k _ _ hne hal hstop⟩
  · refine ⟨tokW k [c] (cls c.toNat), k + 1, ⟨hk.symm, by rw [h1]; simp [tokW, Tk.l]⟩, ?_⟩
    rw [h1, List.singleton_append, tk_one hc]

theorem out_tk : ∀ (r : List Tk), (∀ u ∈ r, Fine u) → ∀ prev k, All2 OutR r (tk k (outG prev r)) := by
  intro r
  induction r with
  | nil =>
    intro _ prev k
    unfold outG
    obtain ⟨k', h⟩ := tk_gap k prev [] []
    rw [List.append_nil] at h
    rw [h]
    exact trivial
  | cons t r ih =>
    intro hf prev k
    unfold outG
    obtain ⟨k', h⟩ := tk_gap k prev t.l (bareL t ++ outG t.l r)
    rw [h]
    obtain ⟨u, k2, h1, h2⟩ := out_front (hf t (List.mem_cons_self ..)) r (fun u hu => hf u (List.mem_cons_of_mem _ hu)) k'
    rw [h2]
    exact ⟨h1, ih (fun u hu => hf u (List.mem_cons_of_mem _ hu)) t.l k2⟩

/-- the whole, laid out: the first token stands at the head. -/
def outL : List Tk → List UInt8
  | [] => []
  | t :: r => bareL t ++ outG t.l r

theorem outL_tk (r : List Tk) (hf : ∀ u ∈ r, Fine u) (k : Nat) : All2 OutR r (tk k (outL r)) := by
  cases r with
  | nil => exact trivial
  | cons t r =>
    unfold outL
    obtain ⟨u, k2, h1, h2⟩ := out_front (hf t (List.mem_cons_self ..)) r (fun u hu => hf u (List.mem_cons_of_mem _ hu)) k
    rw [h2]
    exact ⟨h1, out_tk r (fun u hu => hf u (List.mem_cons_of_mem _ hu)) t.l k2⟩

end Go.Proofs.YtmndgoapkmhglaaDoor

/- Plain mathematics: tokens as the document's own reader has them, and the parts of a text. -/
namespace Go.Proofs.YtmndgoapkmhglaaDoor

theorem kw_cases {l : List UInt8} (h : kwL.contains l = true) : (∃ c, l = [c] ∧ cls c.toNat = 3) ∨ (keptL.contains l = true ∧ ∃ c, c ∈ l ∧ cls c.toNat = 1) := by
  have h' : l ∈ kwL := by simpa using h
  simp only [kwL, List.mem_cons, List.not_mem_nil, or_false] at h'
  rcases h' with rfl | rfl | rfl | rfl | rfl | rfl | rfl | rfl | rfl | rfl | rfl | rfl | rfl | rfl | rfl | rfl | rfl | rfl | rfl | rfl
  all_goals first | exact .inl ⟨_, rfl, by decide⟩ | exact .inr ⟨by decide, 105, by decide, by decide⟩ | exact .inr ⟨by decide, 98, by decide, by decide⟩ | exact .inr ⟨by decide, 97, by decide, by decide⟩ | exact .inr ⟨by decide, 110, by decide, by decide⟩ | exact .inr ⟨by decide, 116, by decide, by decide⟩

/-- what the two readers of tokens have in common. -/
structure TkF (t : Tk) : Prop where
  kw : ∀ l, kwL.contains l = true → ((rtok t).l = l ↔ t.l = l)
  k0 : t.kind = 0 → kwL.contains t.l = false
  k1 : t.kind = 1 → kwL.contains t.l = false
  k3 : t.kind = 3 → kwL.contains t.l = false
  sg : ∀ x : Nat, x = 59 ∨ x = 61 ∨ x = 41 → (t.l = [UInt8.ofNat x] ↔ (t.kind = 4 ∧ (t.l.getD 0 0).toNat = x))
  pos : t.kind ≠ 0 → t.l ≠ []

theorem rtok_l (t : Tk) : (rtok t).l = if t.kind = 1 ∨ t.kind = 2 ∨ t.kind = 4 then t.l else [] := by
  unfold rtok RTk.l Tk.l
  simp only
  split <;> rfl

theorem kwL_nil : kwL.contains ([] : List UInt8) = false := by decide

theorem TkF.ofEnd (k : Nat) : TkF ⟨0, k, ⟨#[]⟩⟩ := by
  refine ⟨fun l hl => ?_, fun _ => kwL_nil, fun h => (by cases h), fun h => (by cases h), fun x hx => ?_, fun h => absurd rfl h⟩
  · rw [rtok_l]
    simp only [Tk.l]
    exact Iff.rfl
  · constructor
    · intro h; simp [Tk.l] at h
    · rintro ⟨h, _⟩; cases h

theorem TkF.ofFine {t : Tk} (h : Fine t) : TkF t := by
  rcases h with ⟨cl, hcl, hne, hall, hk⟩ | ⟨c, hc, h3, hk⟩
  · have hno : kwL.contains t.l = true → cl = 1 ∧ keptL.contains t.l = true := by
      intro hkw
      rcases kw_cases hkw with ⟨c, hc, h3⟩ | ⟨hkp, c, hc, h1⟩
      · have := W_cls (hall c (by rw [hc]; simp)); omega
      · have := W_cls (hall c hc); exact ⟨by omega, hkp⟩
    have hsg : ∀ c : UInt8, cls c.toNat = 3 → t.l ≠ [c] := by
      intro c h3 e
      have := W_cls (hall c (by rw [e]; simp)); omega
    have hkind : (t.kind = 2 ∧ keptL.contains t.l = true ∧ cl = 1) ∨ (t.kind = 5 ∧ ¬ (cl = 1 ∧ keptL.contains t.l = true)) ∨ (t.kind = 1 ∧ keptL.contains t.l = false) ∨ (t.kind = 3 ∧ cl = 2) := by
      rcases hcl with rfl | rfl
      · unfold kindK wordK at hk
        rw [if_pos rfl] at hk
        split at hk
        · exact .inl ⟨hk, by assumption, rfl⟩
        · rename_i hn
          split at hk
          · exact .inr (.inl ⟨hk, fun h => hn h.2⟩)
          · exact .inr (.inr (.inl ⟨hk, by simpa using hn⟩))
      · unfold kindK numK at hk
        rw [if_neg (by decide), if_pos rfl] at hk
        split at hk
        · exact .inr (.inl ⟨hk, fun h => by omega⟩)
        · exact .inr (.inr (.inr ⟨hk, rfl⟩))
    refine ⟨fun l hl => ?_, fun h => by omega, fun h => ?_, fun h => ?_, fun x hx => ?_, fun _ => hne⟩
    · rw [rtok_l]
      by_cases h12 : t.kind = 1 ∨ t.kind = 2 ∨ t.kind = 4
      · rw [if_pos h12]
      · rw [if_neg h12]
        constructor
        · intro e; rw [← e] at hl; cases hl
        · intro e
          have := hno (by rw [e]; exact hl)
          rcases hkind with ⟨h, _⟩ | ⟨h, h'⟩ | ⟨h, _⟩ | ⟨h, h'⟩
          · omega
          · exact absurd this h'
          · omega
          · omega
    · cases hkw : kwL.contains t.l with
      | false => rfl
      | true =>
        have := hno hkw
        rcases hkind with ⟨h', _⟩ | ⟨h', _⟩ | ⟨_, h'⟩ | ⟨h', _⟩
        · omega
        · omega
        · rw [h'] at this; cases this.2
        · omega
    · cases hkw : kwL.contains t.l with
      | false => rfl
      | true =>
        have := hno hkw
        rcases hkind with ⟨h', _⟩ | ⟨h', _⟩ | ⟨h', _⟩ | ⟨_, h'⟩ <;> omega
    · constructor
      · intro e
        exact absurd e (hsg _ (by rcases hx with rfl | rfl | rfl <;> decide))
      · rintro ⟨h, _⟩; omega
  · have hc4 := cls_le c.toNat
    have hk' : (t.kind = 4 ∧ cls c.toNat = 3) ∨ (t.kind = 5 ∧ cls c.toNat = 4) := by
      unfold kindK at hk
      rw [if_neg (by omega), if_neg (by omega)] at hk
      by_cases e : cls c.toNat = 3
      · rw [if_pos e] at hk; exact .inl ⟨hk, e⟩
      · rw [if_neg e] at hk; exact .inr ⟨hk, by omega⟩
    have hno : kwL.contains t.l = true → cls c.toNat = 3 := by
      intro hkw
      rcases kw_cases hkw with ⟨d, hd, h3'⟩ | ⟨hkp, d, hd, h1⟩
      · rw [hc] at hd; simp at hd; rw [hd]; exact h3'
      · rw [hc] at hd; simp at hd; rw [hd] at h1; omega
    refine ⟨fun l hl => ?_, fun h => by omega, fun h => by omega, fun h => by omega, fun x hx => ?_, fun _ => by rw [hc]; simp⟩
    · rw [rtok_l]
      rcases hk' with ⟨h, _⟩ | ⟨h, h'⟩
      · rw [if_pos (.inr (.inr h))]
      · rw [if_neg (by omega)]
        constructor
        · intro e; rw [← e] at hl; cases hl
        · intro e
          have := hno (by rw [e]; exact hl)
          omega
    · rw [hc]
      constructor
      · intro e
        have ec : c = UInt8.ofNat x := by simpa using e
        have h3' : cls c.toNat = 3 := by rw [ec]; rcases hx with rfl | rfl | rfl <;> decide
        refine ⟨by omega, ?_⟩
        rw [ec]; rcases hx with rfl | rfl | rfl <;> rfl
      · rintro ⟨_, e⟩
        have e' : c.toNat = x := e
        rw [← e']; simp

/-- the tokens of a text, each as bytes make it. -/
theorem toks_F (s : ByteArray) (i : Nat) : TkF (tkAt (toks s) i) := by
  rw [toks_list]
  by_cases h : i < (tk 0 s.data.toList).length
  · rw [tkAt_left h]; exact TkF.ofFine (tk_fine _ _ _ rfl _ (tkAt_mem h))
  · by_cases e : i = (tk 0 s.data.toList).length
    · rw [e, tkAt_mid]; exact TkF.ofEnd _
    · have : tkAt (tk 0 s.data.toList ++ [⟨0, s.size, ⟨#[]⟩⟩]) i = tkEnd := by
        unfold tkAt
        rw [List.getD_eq_getElem?_getD, List.getElem?_eq_none (by simp; omega)]
        rfl
      rw [this]; exact TkF.ofEnd 0

section
variable {t : Tk} (h : TkF t)
include h
theorem TkF.not0 (hk : kwL.contains t.l = true) : t.kind ≠ 0 := fun e => by rw [h.k0 e] at hk; cases hk
theorem TkF.not1 (hk : kwL.contains t.l = true) : t.kind ≠ 1 := fun e => by rw [h.k1 e] at hk; cases hk
theorem TkF.not3 (hk : kwL.contains t.l = true) : t.kind ≠ 3 := fun e => by rw [h.k3 e] at hk; cases hk
theorem TkF.op : opOf (rtok t).l = opOf t.l := by
  have e : ∀ (l : List UInt8), kwL.contains l = true → ∀ (x y : Option Nat), (if (rtok t).l = l then x else y) = if t.l = l then x else y := fun l hl x y => by
    by_cases e : t.l = l
    · rw [if_pos e, if_pos ((h.kw l hl).2 e)]
    · rw [if_neg e, if_neg (fun e' => e ((h.kw l hl).1 e'))]
  unfold opOf
  rw [e [43] (by decide), e [45] (by decide), e [42] (by decide), e [47] (by decide), e [60] (by decide), e [61] (by decide), e [38] (by decide), e [124] (by decide)]
theorem TkF.rl : rop (rtok t).l = (opOf t.l).isSome := by unfold rop; rw [h.op]
theorem TkF.eq {l : List UInt8} (hl : kwL.contains l = true) : ((rtok t).l == l) = (t.l == l) := by
  rw [Bool.eq_iff_iff, beq_iff_eq, beq_iff_eq]; exact h.kw l hl
theorem TkF.if {α : Type} {l : List UInt8} (hl : kwL.contains l = true) (x y : α) : (if (rtok t).l = l then x else y) = if t.l = l then x else y := by
  by_cases e : t.l = l
  · rw [if_pos e, if_pos ((h.kw l hl).2 e)]
  · rw [if_neg e, if_neg (fun e' => e ((h.kw l hl).1 e'))]
end

theorem c97 (t : Tk) : ((rtok t).c == 97) = (t.kind == 1) := by
  unfold rtok; simp only; rw [Bool.eq_iff_iff, beq_iff_eq, beq_iff_eq]
  constructor
  · intro h; split at h; omega; split at h; assumption; split at h; omega; split at h; omega; split at h <;> omega
  · intro h; rw [h]; rfl
theorem c110 (t : Tk) : ((rtok t).c == 110) = (t.kind == 3) := by
  unfold rtok; simp only; rw [Bool.eq_iff_iff, beq_iff_eq, beq_iff_eq]
  constructor
  · intro h; split at h; omega; split at h; omega; split at h; omega; split at h; assumption; split at h <;> omega
  · intro h; rw [h]; rfl
theorem c101 (t : Tk) : ((rtok t).c == 101) = (t.kind == 0) := by
  unfold rtok; simp only; rw [Bool.eq_iff_iff, beq_iff_eq, beq_iff_eq]
  constructor
  · intro h; split at h; assumption; split at h; omega; split at h; omega; split at h; omega; split at h <;> omega
  · intro h; rw [h]; rfl
theorem c115 (t : Tk) : ((rtok t).c == 115) = (t.kind == 4) := by
  unfold rtok; simp only; rw [Bool.eq_iff_iff, beq_iff_eq, beq_iff_eq]
  constructor
  · intro h; split at h; omega; split at h; omega; split at h; omega; split at h; omega; split at h <;> omega
  · intro h; rw [h]; rfl
theorem rn3 {t : Tk} (h : t.kind = 3) : (rtok t).n = valOf t.l := by unfold rtok; simp only; rw [if_pos h]; rfl

/-- a literal token. -/
def litT (t : Tk) : Bool := t.kind == 3 || t.l == kTrue || t.l == kFalse
theorem TkF.lit {t : Tk} (h : TkF t) : rlit (rtok t) = litT t := by
  unfold rlit litT; rw [c110, h.eq (by decide), h.eq (by decide)]

end Go.Proofs.YtmndgoapkmhglaaDoor
