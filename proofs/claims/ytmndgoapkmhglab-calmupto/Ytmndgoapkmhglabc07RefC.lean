import Derived.Test.Ytmndgoapkmhglabc02Tkl
import Derived.Test.Ytmndgoapkmhglabc05Bytes
import Derived.Test.Ytmndgoapkmhglabc06RefB
/- Plain mathematics: blanks behind signs; a text with a byte behind it; a text cut short; a text laid out. -/
namespace Go.Proofs.Ytmndgoapkmhglab

def sgn (c : UInt8) : Bool := c == 40 || c == 41 || c == 59 || c == 61
def gapB (i : Nat) : UInt8 := if i % 2 = 0 then 32 else 10
def wideL : Nat → List UInt8 → List UInt8
  | _, [] => []
  | i, c :: r => if sgn c then c :: gapB i :: wideL (i + 1) r else c :: wideL (i + 1) r
def mv (l : List UInt8) (a : Nat) : Nat := a + ((l.take a).filter sgn).length

theorem sgn_cls {c : UInt8} (h : sgn c = true) : cls c.toNat = 3 := by
  unfold sgn at h
  simp at h
  rcases h with ((h | h) | h) | h <;> subst h <;> decide
theorem gap_cls (i : Nat) : cls (gapB i).toNat = 0 := by
  unfold gapB; split <;> decide

theorem mv_cons (c : UInt8) (r : List UInt8) (j : Nat) : mv (c :: r) (j + 1) = mv r j + 1 + (if sgn c then 1 else 0) := by
  unfold mv
  rw [List.take_succ_cons, List.filter_cons]
  split
  · simp; omega
  · simp; omega

theorem wideL_cons (i : Nat) (c : UInt8) (r : List UInt8) : wideL i (c :: r) = if sgn c then c :: gapB i :: wideL (i + 1) r else c :: wideL (i + 1) r := rfl

theorem wide_tw {cl : Nat} (hcl : cl = 1 ∨ cl = 2) : ∀ (r : List UInt8) (i : Nat), (wideL i r).takeWhile (W cl) = r.takeWhile (W cl) ∧ (wideL i r).dropWhile (W cl) = wideL (i + (r.takeWhile (W cl)).length) (r.dropWhile (W cl)) := by
  intro r
  induction r with
  | nil => intro i; exact ⟨rfl, rfl⟩
  | cons c r ih =>
    intro i
    rw [wideL_cons]
    by_cases hs : sgn c = true
    · have hw : W cl c = false := by unfold W; rw [sgn_cls hs]; rcases hcl with h | h <;> rw [h] <;> rfl
      rw [if_pos hs]
      simp only [List.takeWhile_cons, List.dropWhile_cons, hw]
      refine ⟨rfl, ?_⟩
      simp [wideL, hs]
    · rw [if_neg hs]
      simp only [List.takeWhile_cons, List.dropWhile_cons]
      by_cases hw : W cl c = true
      · simp only [hw, if_true]
        obtain ⟨h1, h2⟩ := ih (i + 1)
        rw [h1, h2]
        refine ⟨rfl, ?_⟩
        simp only [List.length_cons]
        rw [show i + 1 + (r.takeWhile (W cl)).length = i + ((r.takeWhile (W cl)).length + 1) by omega]
      · simp only [hw]
        refine ⟨rfl, ?_⟩
        simp [wideL, hs]

theorem wide_len : ∀ (l : List UInt8) i, (wideL i l).length = mv l l.length := by
  intro l
  induction l with
  | nil => intro i; rfl
  | cons c r ih =>
    intro i
    unfold wideL
    rw [List.length_cons, mv_cons]
    split
    · simp [ih]
    · simp [ih]

/-- the filter of the words of a run without signs. -/
theorem mv_run {cl : Nat} (hcl : cl = 1 ∨ cl = 2) : ∀ (r : List UInt8) (j : Nat), mv r ((r.takeWhile (W cl)).length + j) = (r.takeWhile (W cl)).length + mv (r.dropWhile (W cl)) j := by
  intro r
  induction r with
  | nil => intro j; simp
  | cons c r ih =>
    intro j
    rw [List.takeWhile_cons, List.dropWhile_cons]
    by_cases hw : W cl c = true
    · simp only [hw, if_true, List.length_cons]
      have hs : sgn c = false := by
        cases h : sgn c
        · rfl
        · unfold W at hw; rw [sgn_cls h] at hw; rcases hcl with e | e <;> rw [e] at hw <;> cases hw
      rw [show (r.takeWhile (W cl)).length + 1 + j = (r.takeWhile (W cl)).length + j + 1 by omega, mv_cons, ih j, hs]
      simp; omega
    · simp [hw]

def Moved1 (m : Nat → Nat) (t t' : Tk) : Prop := t'.kind = t.kind ∧ t'.text = t.text ∧ t'.pos = m t.pos

theorem wide_tk (m : Nat → Nat) : ∀ n k k' i (l : List UInt8), l.length = n → (∀ j, m (k + j) = k' + mv l j) → All2 (Moved1 m) (tk k l) (tk k' (wideL i l)) := by
  intro n
  induction n using Nat.strongRecOn with
  | _ n ih =>
    intro k k' i l hn hm
    have hm0 : m k = k' := by have := hm 0; simpa [mv] using this
    cases l with
    | nil => exact trivial
    | cons c r =>
      simp only [List.length_cons] at hn
      by_cases h0 : cls c.toNat = 0
      · have hs : sgn c = false := by cases h : sgn c; rfl; rw [sgn_cls h] at h0; cases h0
        unfold wideL
        rw [hs]
        simp only [Bool.false_eq_true, if_false]
        rw [tk_blank h0, tk_blank h0]
        refine ih r.length (by omega) _ _ _ r rfl ?_
        intro j
        have := hm (j + 1)
        rw [mv_cons, hs] at this
        rw [show k + 1 + j = k + (j + 1) by omega, this]
        simp; omega
      · by_cases h12 : cls c.toNat = 1 ∨ cls c.toNat = 2
        · have hs : sgn c = false := by cases h : sgn c; rfl; rw [sgn_cls h] at h12; omega
          unfold wideL
          rw [hs]
          simp only [Bool.false_eq_true, if_false]
          rw [tk_word h12, tk_word h12]
          obtain ⟨h1, h2⟩ := wide_tw h12 r (i + 1)
          rw [h1, h2]
          refine ⟨⟨rfl, rfl, hm0.symm⟩, ?_⟩
          have hl := take_drop_len (W (cls c.toNat)) r
          refine ih _ (by omega) _ _ _ _ rfl ?_
          intro j
          have := hm ((r.takeWhile (W (cls c.toNat))).length + j + 1)
          rw [mv_cons, hs, mv_run h12] at this
          rw [show k + 1 + (r.takeWhile (W (cls c.toNat))).length + j = k + ((r.takeWhile (W (cls c.toNat))).length + j + 1) by omega, this]
          simp; omega
        · have h3 : 3 ≤ cls c.toNat := by omega
          unfold wideL
          by_cases hs : sgn c = true
          · rw [if_pos hs, tk_one h3, tk_one h3, tk_blank (gap_cls i)]
            refine ⟨⟨rfl, rfl, hm0.symm⟩, ?_⟩
            refine ih r.length (by omega) _ _ _ r rfl ?_
            intro j
            have := hm (j + 1)
            rw [mv_cons, hs] at this
            rw [show k + 1 + j = k + (j + 1) by omega, this]
            simp; omega
          · rw [if_neg hs, tk_one h3, tk_one h3]
            refine ⟨⟨rfl, rfl, hm0.symm⟩, ?_⟩
            refine ih r.length (by omega) _ _ _ r rfl ?_
            intro j
            have := hm (j + 1)
            rw [mv_cons, if_neg hs] at this
            rw [show k + 1 + j = k + (j + 1) by omega, this]
            omega

def wideS (s : ByteArray) : ByteArray := ⟨(wideL 0 s.data.toList).toArray⟩
theorem size_list (s : ByteArray) : s.size = s.data.toList.length := Array.length_toList.symm

theorem wide_toks (s : ByteArray) : All2 (Moved1 (mv s.data.toList)) (toks s) (toks (wideS s)) := by
  rw [toks_list, toks_list]
  refine All2.app (wide_tk _ _ 0 0 0 _ rfl (fun j => by rw [Nat.zero_add, Nat.zero_add])) ⟨⟨rfl, rfl, ?_⟩, trivial⟩
  show (wideS s).size = mv s.data.toList s.size
  rw [size_list, size_list]
  show (wideL 0 s.data.toList).length = _
  exact wide_len _ 0

theorem TsDig.all {ts : List Tk} (h : TsDig ts) (i : Nat) : DigTok (tkAt ts i) := by
  by_cases hi : i < ts.length
  · exact h i hi
  · have : tkAt ts i = tkEnd := by unfold tkAt; rw [List.getD_eq_getElem?_getD, List.getElem?_eq_none (by omega)]; rfl
    rw [this]
    intro hk
    cases hk

theorem moved_at {m : Nat → Nat} (h0 : m 0 = 0) {ts ts' : List Tk} (h : All2 (Moved1 m) ts ts') (i : Nat) : Moved1 m (tkAt ts i) (tkAt ts' i) :=
  All2.getD (R := Moved1 m) ⟨rfl, rfl, h0.symm⟩ i h

theorem wide_tsR (s : ByteArray) : TsR (fun a b => b = mv s.data.toList a) (toks s) (toks (wideS s)) := by
  have h := wide_toks s
  refine ⟨h.len, fun i => ?_⟩
  obtain ⟨h1, h2, h3⟩ := moved_at (by rfl) h i
  have hd := (toks_dig s).all i
  refine ⟨h1, h3, fun _ => by unfold Tk.l; rw [h2], fun hk => ?_, fun _ => h2⟩
  have := (hd hk).2
  exact ⟨this, by unfold Tk.l; rw [h2]; exact this⟩

theorem wide_text (s : ByteArray) (hs : s.size ≤ 1500) (hs' : (wideS s).size ≤ 1500) : textF (wideS s) = ((textF s).1, mv s.data.toList (textF s).2) := by
  have h := textR (P := fun a b => b = mv s.data.toList a) rfl s (wideS s) hs hs' (wide_tsR s)
  exact Prod.ext h.1 h.2

/- what is laid out -/
def gapL (a b : List UInt8) : List UInt8 := if a = [59] then [10] else if a = [40] ∨ b = [41] ∨ b = [59] then [] else [32]
def trimL : List UInt8 → List UInt8
  | [] => []
  | [c] => [c]
  | c :: d :: r => if c = 48 then trimL (d :: r) else c :: d :: r
def bareL (t : Tk) : List UInt8 := if t.kind = 3 then trimL t.l else t.l
def pieceL (ts : List Tk) (j : Nat) : List UInt8 := (if j = 0 then [] else gapL (tkAt ts (j - 1)).l (tkAt ts j).l) ++ bareL (tkAt ts j)
def outN (ts : List Tk) : Nat → List UInt8
  | 0 => []
  | j + 1 => outN ts j ++ pieceL ts j
def outF (s : ByteArray) : ByteArray := ⟨(outN (toks s) (toks s).length).toArray⟩

theorem wide_out (s : ByteArray) : outF (wideS s) = outF s := by
  have h := wide_toks s
  unfold outF
  rw [h.len]
  have hp : ∀ j, pieceL (toks (wideS s)) j = pieceL (toks s) j := by
    intro j
    obtain ⟨a1, a2, _⟩ := moved_at (by rfl) h j
    obtain ⟨b1, b2, _⟩ := moved_at (by rfl) h (j - 1)
    unfold pieceL bareL Tk.l
    rw [a1, a2, b2]
  have ho : ∀ n, outN (toks (wideS s)) n = outN (toks s) n := by
    intro n
    induction n with
    | zero => rfl
    | succ n ih => unfold outN; rw [ih, hp]
  rw [ho]

/- a byte behind; a text cut short -/
theorem text_ok {s : ByteArray} (hs : s.size ≤ 1500) (h : (textF s).1 = 0) : ∃ p, parseF s = .ok p := by
  unfold textF at h
  rw [if_neg (by omega)] at h
  cases hp : parseF s with
  | error e => rw [hp] at h; cases h
  | ok p => exact ⟨p, rfl⟩

theorem tkAt_left {a b : List Tk} {i : Nat} (h : i < a.length) : tkAt (a ++ b) i = tkAt a i := by
  unfold tkAt; rw [List.getD_eq_getElem?_getD, List.getD_eq_getElem?_getD, List.getElem?_append_left h]
theorem tkAt_mid {a b : List Tk} {t : Tk} : tkAt (a ++ t :: b) a.length = t := by
  unfold tkAt; rw [List.getD_eq_getElem?_getD, List.getElem?_append_right (Nat.le_refl _)]; simp
theorem tkAt_mem {a : List Tk} {i : Nat} (h : i < a.length) : tkAt a i ∈ a := by
  unfold tkAt; rw [List.getD_eq_getElem?_getD, List.getElem?_eq_getElem h]; exact List.getElem_mem h

theorem end_at (s : ByteArray) (hs : s.size ≤ 1500) (p : PS) (h : parseF s = .ok p) : p.next = (tk 0 s.data.toList).length ∧ (p.hd (toks s)).kind = 0 ∧ (p = pZero ∨ (tkAt (toks s) (p.next - 1)).l = [59]) := by
  have ht := toks_ok s hs
  obtain ⟨h1, h2, h3⟩ := declsEnd ht _ _ _ (pZero_wf ht).next (by simp) h
  refine ⟨?_, h1, h3⟩
  rw [toks_list] at h1 h2
  simp at h2
  by_cases e : p.next < (tk 0 s.data.toList).length
  · exfalso
    unfold PS.hd at h1
    rw [tkAt_left e] at h1
    exact (tk_kind _ _ _ rfl _ (tkAt_mem e)).1 h1
  · omega

theorem hash_text (s s' : ByteArray) (hs : s.size < 1500) (h : (textF s).1 = 0) (hl : s'.data.toList = s.data.toList ++ [35]) : textF s' = (2, s.size) := by
  have hs' : s'.size ≤ 1500 := by rw [size_list, hl, List.length_append, ← size_list]; simp; omega
  obtain ⟨p, hp⟩ := text_ok (by omega) h
  obtain ⟨h1, h2, _⟩ := end_at s (by omega) p hp
  have ht := toks_list s
  have ht' : toks s' = tk 0 s.data.toList ++ tokW s.size [35] 4 :: [⟨0, s'.size, ⟨#[]⟩⟩] := by
    rw [toks_list, hl, tk_split (c := 35) (by decide) [] _ 0 _ rfl, tk_nil, Nat.zero_add, ← size_list]
    simp
    rfl
  have hat : tkAt (toks s') (tk 0 s.data.toList).length = tokW s.size [35] 4 := by rw [ht']; exact tkAt_mid
  have hc : CutTs (tk 0 s.data.toList).length (toks s) (toks s') := by
    refine ⟨toks_ok s (by omega), by rw [ht]; simp, by rw [ht']; simp, ?_, ?_, ?_, ?_⟩
    · intro i hi; rw [ht, ht', tkAt_left hi, tkAt_left hi]
    · rw [hat]; show kindK [35] 4 ≠ 1; decide
    · rw [hat]; show kindK [35] 4 ≠ 3; decide
    · rw [hat]; show kwL.contains [35] = false; decide
  have he := declsC hc (.inl (by rw [hat]; exact kindK_pos [35] 4)) _ (toks s').length _ _ (Nat.zero_le _) (by simp) hp h2 (by rw [h1]; exact Nat.le_refl _)
  unfold textF
  rw [if_neg (by omega)]
  have hpe : parseF s' = .error (tk 0 s.data.toList).length := he
  rw [hpe]
  simp only
  rw [hat]
  rfl

theorem cut_text (s s' : ByteArray) (l1 l2 : List UInt8) (hs : s.size ≤ 1500) (h : (textF s).1 = 0) (hl : s.data.toList = l1 ++ 59 :: l2) (hn : (59 : UInt8) ∉ l2) (hl' : s'.data.toList = l1) : textF s' = (2, l1.length) := by
  have hsz : s.size = l1.length + 1 + l2.length := by rw [size_list, hl]; simp; omega
  have hs' : s'.size = l1.length := by rw [size_list, hl']
  obtain ⟨p, hp⟩ := text_ok hs h
  obtain ⟨h1, h2, h3⟩ := end_at s hs p hp
  have hA : tk 0 s.data.toList = tk 0 l1 ++ tokW l1.length [59] 3 :: tk (l1.length + 1) l2 := by
    rw [hl, tk_split (c := 59) (by decide) l2 _ 0 _ rfl, Nat.zero_add]; rfl
  have hne : p ≠ pZero := by
    intro e
    rw [e, hA] at h1
    simp [pZero] at h1
  have h4 := h3.resolve_left hne
  have ht2 : tk (l1.length + 1) l2 = [] := by
    cases hb : tk (l1.length + 1) l2 with
    | nil => rfl
    | cons t b =>
      exfalso
      have hlen : (tk 0 s.data.toList).length = (tk 0 l1).length + 1 + (b.length + 1) := by rw [hA, hb]; simp; omega
      rw [h1, hlen, toks_list, hA, hb] at h4
      have e1 : tkAt (tk 0 l1 ++ tokW l1.length [59] 3 :: t :: b ++ [⟨0, s.size, ⟨#[]⟩⟩]) ((tk 0 l1).length + 1 + (b.length + 1) - 1) = tkAt (t :: b) b.length := by
        unfold tkAt
        simp only [List.append_assoc, List.cons_append, List.getD_eq_getElem?_getD]
        rw [List.getElem?_append_right (by omega), show (tk 0 l1).length + 1 + (b.length + 1) - 1 - (tk 0 l1).length = b.length + 1 by omega, List.getElem?_cons_succ, ← List.cons_append, List.getElem?_append_left (by simp)]
      rw [e1] at h4
      have hm : tkAt (t :: b) b.length ∈ tk (l1.length + 1) l2 := by rw [hb]; exact tkAt_mem (by simp)
      obtain ⟨_, c, hc, hh, _⟩ := tk_kind _ _ _ rfl _ hm
      unfold Tk.l at h4
      rw [h4] at hh
      simp at hh
      subst hh
      exact hn hc
  rw [ht2] at hA
  have ht : toks s = tk 0 l1 ++ tokW l1.length [59] 3 :: [⟨0, s.size, ⟨#[]⟩⟩] := by rw [toks_list, hA]; simp
  have ht' : toks s' = tk 0 l1 ++ [⟨0, l1.length, ⟨#[]⟩⟩] := by rw [toks_list, hl', hs']
  have hat : tkAt (toks s') (tk 0 l1).length = ⟨0, l1.length, ⟨#[]⟩⟩ := by rw [ht']; exact tkAt_mid
  have hat2 : tkAt (toks s) (tk 0 l1).length = tokW l1.length [59] 3 := by rw [ht]; exact tkAt_mid
  have hc : CutTs (tk 0 l1).length (toks s) (toks s') := by
    refine ⟨toks_ok s hs, by rw [ht]; simp, by rw [ht']; simp, ?_, ?_, ?_, ?_⟩
    · intro i hi; rw [ht, ht', tkAt_left hi, tkAt_left hi]
    · rw [hat]; show (0:Nat) ≠ 1; decide
    · rw [hat]; show (0:Nat) ≠ 3; decide
    · rw [hat]; show kwL.contains [] = false; decide
  have he := declsC hc (.inr ⟨by rw [hat2]; exact kindK_pos [59] 3, by rw [hat2]; rfl⟩) _ (toks s').length _ _ (Nat.zero_le _) (by simp) hp h2 (by rw [h1, hA]; simp)
  unfold textF
  rw [if_neg (by omega)]
  have hpe : parseF s' = .error (tk 0 l1).length := he
  rw [hpe]
  simp only
  rw [hat]

end Go.Proofs.Ytmndgoapkmhglab

/- Plain mathematics: the tokens of what is laid out. -/
namespace Go.Proofs.Ytmndgoapkmhglab

/-- a token as the text's bytes make it. -/
def Fine (t : Tk) : Prop :=
  (∃ cl, (cl = 1 ∨ cl = 2) ∧ t.l ≠ [] ∧ (∀ c ∈ t.l, W cl c = true) ∧ t.kind = kindK t.l cl) ∨ (∃ c, t.l = [c] ∧ 3 ≤ cls c.toNat ∧ t.kind = kindK [c] (cls c.toNat))

theorem tw_all (p : UInt8 → Bool) : ∀ r : List UInt8, ∀ c ∈ r.takeWhile p, p c = true := by
  intro r
  induction r with
  | nil => intro c hc; simp at hc
  | cons d r ih =>
    intro c hc
    rw [List.takeWhile_cons] at hc
    split at hc
    · rename_i hd
      rcases List.mem_cons.1 hc with rfl | hc
      · exact hd
      · exact ih c hc
    · simp at hc

theorem tk_fine : ∀ n k (l : List UInt8), l.length = n → ∀ t ∈ tk k l, Fine t := by
  intro n
  induction n using Nat.strongRecOn with
  | _ n ih =>
    intro k l hn t ht
    cases l with
    | nil => rw [tk_nil] at ht; simp at ht
    | cons c r =>
      simp only [List.length_cons] at hn
      by_cases h0 : cls c.toNat = 0
      · rw [tk_blank h0] at ht
        exact ih r.length (by omega) (k + 1) r rfl t ht
      · by_cases h12 : cls c.toNat = 1 ∨ cls c.toNat = 2
        · rw [tk_word h12] at ht
          rcases List.mem_cons.1 ht with rfl | ht
          · refine .inl ⟨cls c.toNat, h12, by simp [Tk.l, tokW], ?_, by simp [Tk.l, tokW]⟩
            intro d hd
            have hd' : d ∈ c :: r.takeWhile (W (cls c.toNat)) := by simpa [Tk.l, tokW] using hd
            rcases List.mem_cons.1 hd' with rfl | hd'
            · exact W_self d
            · exact tw_all _ r d hd'
          · have hl := take_drop_len (W (cls c.toNat)) r
            exact ih _ (by omega) _ _ rfl t ht
        · rw [tk_one (by omega)] at ht
          rcases List.mem_cons.1 ht with rfl | ht
          · exact .inr ⟨c, by simp [Tk.l, tokW], by omega, by simp [tokW]⟩
          · exact ih r.length (by omega) (k + 1) r rfl t ht

/-- a rest that does not go on with a class. -/
def Stops (cl : Nat) (rest : List UInt8) : Prop := ∀ c, rest.head? = some c → W cl c = false

theorem tw_stop {p : UInt8 → Bool} : ∀ (w rest : List UInt8), (∀ c ∈ w, p c = true) → (∀ c, rest.head? = some c → p c = false) → (w ++ rest).takeWhile p = w ∧ (w ++ rest).dropWhile p = rest := by
  intro w
  induction w with
  | nil =>
    intro rest _ hr
    cases rest with
    | nil => exact ⟨rfl, rfl⟩
    | cons d r => simp [hr d rfl]
  | cons c w ih =>
    intro rest hw hr
    have hc := hw c (List.mem_cons_self ..)
    obtain ⟨h1, h2⟩ := ih rest (fun d hd => hw d (List.mem_cons_of_mem _ hd)) hr
    rw [List.cons_append, List.takeWhile_cons, List.dropWhile_cons, if_pos hc, if_pos hc, h1, h2]
    exact ⟨rfl, rfl⟩

theorem W_cls {cl : Nat} {c : UInt8} (h : W cl c = true) : cls c.toNat = cl := by unfold W at h; simpa using h

theorem tk_front {cl : Nat} (hcl : cl = 1 ∨ cl = 2) (k : Nat) (w rest : List UInt8) (hw : w ≠ []) (ha : ∀ c ∈ w, W cl c = true) (hr : Stops cl rest) : tk k (w ++ rest) = tokW k w cl :: tk (k + w.length) rest := by
  cases w with
  | nil => exact absurd rfl hw
  | cons c w =>
    have hc := W_cls (ha c (List.mem_cons_self ..))
    rw [List.cons_append, tk_word (by rw [hc]; exact hcl), hc]
    obtain ⟨h1, h2⟩ := tw_stop (p := W cl) w rest (fun d hd => ha d (List.mem_cons_of_mem _ hd)) hr
    rw [h1, h2, List.length_cons, show k + 1 + w.length = k + (w.length + 1) by omega]

theorem trim_ne {l : List UInt8} (h : l ≠ []) : trimL l ≠ [] := by
  induction l with
  | nil => exact absurd rfl h
  | cons c r ih =>
    cases r with
    | nil => exact h
    | cons d r =>
      unfold trimL
      split
      · exact ih (by simp)
      · exact h
theorem trim_mem : ∀ l : List UInt8, ∀ c ∈ trimL l, c ∈ l := by
  intro l
  induction l with
  | nil => intro c hc; exact hc
  | cons a r ih =>
    intro c hc
    cases r with
    | nil => exact hc
    | cons d r =>
      unfold trimL at hc
      split at hc
      · exact List.mem_cons_of_mem _ (ih c hc)
      · exact hc
theorem trim_trim : ∀ l : List UInt8, trimL (trimL l) = trimL l := by
  intro l
  induction l with
  | nil => rfl
  | cons a r ih =>
    cases r with
    | nil => rfl
    | cons d r =>
      by_cases h : a = 48
      · have e : trimL (a :: d :: r) = trimL (d :: r) := by rw [trimL, if_pos h]
        rw [e]; exact ih
      · have e : trimL (a :: d :: r) = a :: d :: r := by rw [trimL, if_neg h]
        rw [e, e]
theorem trim_val : ∀ l : List UInt8, valOf (trimL l) = valOf l := by
  intro l
  induction l with
  | nil => rfl
  | cons a r ih =>
    cases r with
    | nil => rfl
    | cons d r =>
      by_cases h : a = 48
      · have e : trimL (a :: d :: r) = trimL (d :: r) := by rw [trimL, if_pos h]
        rw [e, ih, h]
        unfold valOf
        simp
      · have e : trimL (a :: d :: r) = a :: d :: r := by rw [trimL, if_neg h]
        rw [e]

theorem kind3_cls {w : List UInt8} {cl : Nat} (h : kindK w cl = 3) : cl = 2 ∧ w.length ≤ 18 := by
  unfold kindK at h
  split at h
  · unfold wordK at h
    split at h
    · cases h
    split at h <;> cases h
  split at h
  · rename_i hc
    unfold numK at h
    split at h
    · cases h
    · exact ⟨hc, by omega⟩
  split at h <;> cases h

theorem trim_short : ∀ l : List UInt8, (trimL l).length ≤ l.length := by
  intro l
  induction l with
  | nil => exact Nat.le_refl _
  | cons c r ih =>
    cases r with
    | nil => exact Nat.le_refl _
    | cons d r =>
      unfold trimL
      split
      · exact Nat.le_trans ih (by simp)
      · exact Nat.le_refl _

/-- the same token laid out: as fine, of the same kind. -/
theorem fine_bare {t : Tk} (h : Fine t) : (∃ cl, (cl = 1 ∨ cl = 2) ∧ bareL t ≠ [] ∧ (∀ c ∈ bareL t, W cl c = true) ∧ kindK (bareL t) cl = t.kind) ∨ (∃ c, bareL t = [c] ∧ t.l = [c] ∧ 3 ≤ cls c.toNat ∧ t.kind = kindK [c] (cls c.toNat)) := by
  rcases h with ⟨cl, hcl, hne, hal, hk⟩ | ⟨c, hl, hc, hk⟩
  · left
    unfold bareL
    by_cases h3 : t.kind = 3
    · rw [if_pos h3]
      obtain ⟨rfl, h18⟩ := kind3_cls (hk ▸ h3)
      refine ⟨2, .inr rfl, trim_ne hne, fun c hc => hal c (trim_mem _ c hc), ?_⟩
      rw [h3]
      have := trim_short t.l
      unfold kindK numK
      rw [if_neg (by decide), if_pos rfl, if_neg (by omega)]
    · rw [if_neg h3]
      exact ⟨cl, hcl, hne, hal, hk.symm⟩
  · right
    refine ⟨c, ?_, hl, hc, hk⟩
    unfold bareL
    rw [if_neg, hl]
    intro h3
    have := (kind3_cls (hk ▸ h3)).1
    omega
/-- what follows a token, laid out. -/
def outG : List UInt8 → List Tk → List UInt8
  | prev, [] => gapL prev []
  | prev, t :: r => gapL prev t.l ++ (bareL t ++ outG t.l r)

theorem gap_head {a b : List UInt8} {cl : Nat} (hcl : cl = 1 ∨ cl = 2) (x : List UInt8) (h : gapL a b ≠ []) : Stops cl (gapL a b ++ x) := by
  intro c hc
  unfold gapL at h hc
  split at hc
  · simp at hc; subst hc; rcases hcl with rfl | rfl <;> decide
  split at hc
  · rename_i h1 h2; rw [if_neg h1, if_pos h2] at h; exact absurd rfl h
  · simp at hc; subst hc; rcases hcl with rfl | rfl <;> decide

theorem gap_none {a b : List UInt8} (h : gapL a b = []) : a = [40] ∨ b = [41] ∨ b = [59] := by
  unfold gapL at h
  split at h
  · cases h
  split at h
  · assumption
  · cases h

theorem outG_stops {t : Tk} {cl : Nat} (hcl : cl = 1 ∨ cl = 2) (ht : t.l ≠ [40]) (r : List Tk) (hf : ∀ u ∈ r, Fine u) : Stops cl (outG t.l r) := by
  cases r with
  | nil =>
    unfold outG
    by_cases h : gapL t.l [] = []
    · rcases gap_none h with h | h | h
      · exact absurd h ht
      · cases h
      · cases h
    · have := gap_head hcl [] h
      simpa using this
  | cons u r =>
    unfold outG
    by_cases h : gapL t.l u.l = []
    · rw [h, List.nil_append]
      intro c hc
      have hu : u.l = [41] ∨ u.l = [59] := by
        rcases gap_none h with h | h
        · exact absurd h ht
        · exact h
      have hb : bareL u = u.l := by
        rcases fine_bare (hf u (List.mem_cons_self ..)) with ⟨cl', hcl', _, hal, _⟩ | ⟨d, h1, h2, _⟩
        · unfold bareL
          split
          · rcases hu with e | e <;> rw [e] <;> rfl
          · rfl
        · rw [h1, h2]
      rw [hb] at hc
      rcases hu with e | e <;> rw [e] at hc <;> simp at hc <;> subst hc <;> rcases hcl with rfl | rfl <;> decide
    · exact gap_head hcl _ h

def OutR (t u : Tk) : Prop := u.kind = t.kind ∧ u.l = bareL t

theorem tk_gap (k : Nat) (a b x : List UInt8) : ∃ k', tk k (gapL a b ++ x) = tk k' x := by
  unfold gapL
  split
  · exact ⟨k + 1, by rw [List.singleton_append, tk_blank (by decide)]⟩
  split
  · exact ⟨k, rfl⟩
  · exact ⟨k + 1, by rw [List.singleton_append, tk_blank (by decide)]⟩

theorem out_front {t : Tk} (ht : Fine t) (r : List Tk) (hf : ∀ u ∈ r, Fine u) (k : Nat) : ∃ u k', OutR t u ∧ tk k (bareL t ++ outG t.l r) = u :: tk k' (outG t.l r) := by
  rcases fine_bare ht with ⟨cl, hcl, hne, hal, hk⟩ | ⟨c, h1, h2, hc, hk⟩
  · have hstop : Stops cl (outG t.l r) := by
      refine outG_stops hcl ?_ r hf
      intro e
      have hb : bareL t = [40] := by
        unfold bareL; rw [e]; split <;> rfl
      have := hal 40 (by rw [hb]; simp)
      rcases hcl with rfl | rfl <;> revert this <;> decide
    exact ⟨tokW k (bareL t) cl, _, ⟨hk, by simp [tokW, Tk.l]⟩, tk_front hcl k _ _ hne hal hstop⟩
  · refine ⟨tokW k [c] (cls c.toNat), k + 1, ⟨hk.symm, by rw [h1]; simp [tokW, Tk.l]⟩, ?_⟩
    rw [h1, List.singleton_append, tk_one hc]

theorem out_tk : ∀ (r : List Tk), (∀ u ∈ r, Fine u) → ∀ prev k, All2 OutR r (tk k (outG prev r)) := by
  intro r
  induction r with
  | nil =>
    intro _ prev k
    unfold outG
    obtain ⟨k', h⟩ := tk_gap k prev [] []
    rw [List.append_nil] at h
    rw [h]
    exact trivial
  | cons t r ih =>
    intro hf prev k
    unfold outG
    obtain ⟨k', h⟩ := tk_gap k prev t.l (bareL t ++ outG t.l r)
    rw [h]
    obtain ⟨u, k2, h1, h2⟩ := out_front (hf t (List.mem_cons_self ..)) r (fun u hu => hf u (List.mem_cons_of_mem _ hu)) k'
    rw [h2]
    exact ⟨h1, ih (fun u hu => hf u (List.mem_cons_of_mem _ hu)) t.l k2⟩

/-- the whole, laid out: the first token stands at the head. -/
def outL : List Tk → List UInt8
  | [] => []
  | t :: r => bareL t ++ outG t.l r

theorem outL_tk (r : List Tk) (hf : ∀ u ∈ r, Fine u) (k : Nat) : All2 OutR r (tk k (outL r)) := by
  cases r with
  | nil => exact trivial
  | cons t r =>
    unfold outL
    obtain ⟨u, k2, h1, h2⟩ := out_front (hf t (List.mem_cons_self ..)) r (fun u hu => hf u (List.mem_cons_of_mem _ hu)) k
    rw [h2]
    exact ⟨h1, out_tk r (fun u hu => hf u (List.mem_cons_of_mem _ hu)) t.l k2⟩

end Go.Proofs.Ytmndgoapkmhglab

/- Plain mathematics: tokens as the document's own reader has them, and the parts of a text. -/
namespace Go.Proofs.Ytmndgoapkmhglab

theorem kw_cases {l : List UInt8} (h : kwL.contains l = true) : (∃ c, l = [c] ∧ cls c.toNat = 3) ∨ (keptL.contains l = true ∧ ∃ c, c ∈ l ∧ cls c.toNat = 1) := by
  have h' : l ∈ kwL := by simpa using h
  simp only [kwL, List.mem_cons, List.not_mem_nil, or_false] at h'
  rcases h' with rfl | rfl | rfl | rfl | rfl | rfl | rfl | rfl | rfl | rfl | rfl | rfl | rfl | rfl | rfl | rfl | rfl | rfl | rfl | rfl
  all_goals first | exact .inl ⟨_, rfl, by decide⟩ | exact .inr ⟨by decide, 105, by decide, by decide⟩ | exact .inr ⟨by decide, 98, by decide, by decide⟩ | exact .inr ⟨by decide, 97, by decide, by decide⟩ | exact .inr ⟨by decide, 110, by decide, by decide⟩ | exact .inr ⟨by decide, 116, by decide, by decide⟩

/-- what the two readers of tokens have in common. -/
structure TkF (t : Tk) : Prop where
  kw : ∀ l, kwL.contains l = true → ((rtok t).l = l ↔ t.l = l)
  k0 : t.kind = 0 → kwL.contains t.l = false
  k1 : t.kind = 1 → kwL.contains t.l = false
  k3 : t.kind = 3 → kwL.contains t.l = false
  sg : ∀ x : Nat, x = 59 ∨ x = 61 ∨ x = 41 → (t.l = [UInt8.ofNat x] ↔ (t.kind = 4 ∧ (t.l.getD 0 0).toNat = x))
  pos : t.kind ≠ 0 → t.l ≠ []

theorem rtok_l (t : Tk) : (rtok t).l = if t.kind = 1 ∨ t.kind = 2 ∨ t.kind = 4 then t.l else [] := by
  unfold rtok RTk.l Tk.l
  simp only
  split <;> rfl

theorem kwL_nil : kwL.contains ([] : List UInt8) = false := by decide

theorem TkF.ofEnd (k : Nat) : TkF ⟨0, k, ⟨#[]⟩⟩ := by
  refine ⟨fun l hl => ?_, fun _ => kwL_nil, fun h => (by cases h), fun h => (by cases h), fun x hx => ?_, fun h => absurd rfl h⟩
  · rw [rtok_l]
    simp only [Tk.l]
    exact Iff.rfl
  · constructor
    · intro h; simp [Tk.l] at h
    · rintro ⟨h, _⟩; cases h

theorem TkF.ofFine {t : Tk} (h : Fine t) : TkF t := by
  rcases h with ⟨cl, hcl, hne, hall, hk⟩ | ⟨c, hc, h3, hk⟩
  · have hno : kwL.contains t.l = true → cl = 1 ∧ keptL.contains t.l = true := by
      intro hkw
      rcases kw_cases hkw with ⟨c, hc, h3⟩ | ⟨hkp, c, hc, h1⟩
      · have := W_cls (hall c (by rw [hc]; simp)); omega
      · have := W_cls (hall c hc); exact ⟨by omega, hkp⟩
    have hsg : ∀ c : UInt8, cls c.toNat = 3 → t.l ≠ [c] := by
      intro c h3 e
      have := W_cls (hall c (by rw [e]; simp)); omega
    have hkind : (t.kind = 2 ∧ keptL.contains t.l = true ∧ cl = 1) ∨ (t.kind = 5 ∧ ¬ (cl = 1 ∧ keptL.contains t.l = true)) ∨ (t.kind = 1 ∧ keptL.contains t.l = false) ∨ (t.kind = 3 ∧ cl = 2) := by
      rcases hcl with rfl | rfl
      · unfold kindK wordK at hk
        rw [if_pos rfl] at hk
        split at hk
        · exact .inl ⟨hk, by assumption, rfl⟩
        · rename_i hn
          split at hk
          · exact .inr (.inl ⟨hk, fun h => hn h.2⟩)
          · exact .inr (.inr (.inl ⟨hk, by simpa using hn⟩))
      · unfold kindK numK at hk
        rw [if_neg (by decide), if_pos rfl] at hk
        split at hk
        · exact .inr (.inl ⟨hk, fun h => by omega⟩)
        · exact .inr (.inr (.inr ⟨hk, rfl⟩))
    refine ⟨fun l hl => ?_, fun h => by omega, fun h => ?_, fun h => ?_, fun x hx => ?_, fun _ => hne⟩
    · rw [rtok_l]
      by_cases h12 : t.kind = 1 ∨ t.kind = 2 ∨ t.kind = 4
      · rw [if_pos h12]
      · rw [if_neg h12]
        constructor
        · intro e; rw [← e] at hl; cases hl
        · intro e
          have := hno (by rw [e]; exact hl)
          rcases hkind with ⟨h, _⟩ | ⟨h, h'⟩ | ⟨h, _⟩ | ⟨h, h'⟩
          · omega
          · exact absurd this h'
          · omega
          · omega
    · cases hkw : kwL.contains t.l with
      | false => rfl
      | true =>
        have := hno hkw
        rcases hkind with ⟨h', _⟩ | ⟨h', _⟩ | ⟨_, h'⟩ | ⟨h', _⟩
        · omega
        · omega
        · rw [h'] at this; cases this.2
        · omega
    · cases hkw : kwL.contains t.l with
      | false => rfl
      | true =>
        have := hno hkw
        rcases hkind with ⟨h', _⟩ | ⟨h', _⟩ | ⟨h', _⟩ | ⟨_, h'⟩ <;> omega
    · constructor
      · intro e
        exact absurd e (hsg _ (by rcases hx with rfl | rfl | rfl <;> decide))
      · rintro ⟨h, _⟩; omega
  · have hc4 := cls_le c.toNat
    have hk' : (t.kind = 4 ∧ cls c.toNat = 3) ∨ (t.kind = 5 ∧ cls c.toNat = 4) := by
      unfold kindK at hk
      rw [if_neg (by omega), if_neg (by omega)] at hk
      by_cases e : cls c.toNat = 3
      · rw [if_pos e] at hk; exact .inl ⟨hk, e⟩
      · rw [if_neg e] at hk; exact .inr ⟨hk, by omega⟩
    have hno : kwL.contains t.l = true → cls c.toNat = 3 := by
      intro hkw
      rcases kw_cases hkw with ⟨d, hd, h3'⟩ | ⟨hkp, d, hd, h1⟩
      · rw [hc] at hd; simp at hd; rw [hd]; exact h3'
      · rw [hc] at hd; simp at hd; rw [hd] at h1; omega
    refine ⟨fun l hl => ?_, fun h => by omega, fun h => by omega, fun h => by omega, fun x hx => ?_, fun _ => by rw [hc]; simp⟩
    · rw [rtok_l]
      rcases hk' with ⟨h, _⟩ | ⟨h, h'⟩
      · rw [if_pos (.inr (.inr h))]
      · rw [if_neg (by omega)]
        constructor
        · intro e; rw [← e] at hl; cases hl
        · intro e
          have := hno (by rw [e]; exact hl)
          omega
    · rw [hc]
      constructor
      · intro e
        have ec : c = UInt8.ofNat x := by simpa using e
        have h3' : cls c.toNat = 3 := by rw [ec]; rcases hx with rfl | rfl | rfl <;> decide
        refine ⟨by omega, ?_⟩
        rw [ec]; rcases hx with rfl | rfl | rfl <;> rfl
      · rintro ⟨_, e⟩
        have e' : c.toNat = x := e
        rw [← e']; simp

/-- the tokens of a text, each as bytes make it. -/
theorem toks_F (s : ByteArray) (i : Nat) : TkF (tkAt (toks s) i) := by
  rw [toks_list]
  by_cases h : i < (tk 0 s.data.toList).length
  · rw [tkAt_left h]; exact TkF.ofFine (tk_fine _ _ _ rfl _ (tkAt_mem h))
  · by_cases e : i = (tk 0 s.data.toList).length
    · rw [e, tkAt_mid]; exact TkF.ofEnd _
    · have : tkAt (tk 0 s.data.toList ++ [⟨0, s.size, ⟨#[]⟩⟩]) i = tkEnd := by
        unfold tkAt
        rw [List.getD_eq_getElem?_getD, List.getElem?_eq_none (by simp; omega)]
        rfl
      rw [this]; exact TkF.ofEnd 0

section
variable {t : Tk} (h : TkF t)
include h
theorem TkF.not0 (hk : kwL.contains t.l = true) : t.kind ≠ 0 := fun e => by rw [h.k0 e] at hk; cases hk
theorem TkF.not1 (hk : kwL.contains t.l = true) : t.kind ≠ 1 := fun e => by rw [h.k1 e] at hk; cases hk
theorem TkF.not3 (hk : kwL.contains t.l = true) : t.kind ≠ 3 := fun e => by rw [h.k3 e] at hk; cases hk
theorem TkF.op : opOf (rtok t).l = opOf t.l := by
  have e : ∀ (l : List UInt8), kwL.contains l = true → ∀ (x y : Option Nat), (if (rtok t).l = l then x else y) = if t.l = l then x else y := fun l hl x y => by
    by_cases e : t.l = l
    · rw [if_pos e, if_pos ((h.kw l hl).2 e)]
    · rw [if_neg e, if_neg (fun e' => e ((h.kw l hl).1 e'))]
  unfold opOf
  rw [e [43] (by decide), e [45] (by decide), e [42] (by decide), e [47] (by decide), e [60] (by decide), e [61] (by decide), e [38] (by decide), e [124] (by decide)]
theorem TkF.rl : rop (rtok t).l = (opOf t.l).isSome := by unfold rop; rw [h.op]
theorem TkF.eq {l : List UInt8} (hl : kwL.contains l = true) : ((rtok t).l == l) = (t.l == l) := by
  rw [Bool.eq_iff_iff, beq_iff_eq, beq_iff_eq]; exact h.kw l hl
theorem TkF.if {α : Type} {l : List UInt8} (hl : kwL.contains l = true) (x y : α) : (if (rtok t).l = l then x else y) = if t.l = l then x else y := by
  by_cases e : t.l = l
  · rw [if_pos e, if_pos ((h.kw l hl).2 e)]
  · rw [if_neg e, if_neg (fun e' => e ((h.kw l hl).1 e'))]
end

theorem c97 (t : Tk) : ((rtok t).c == 97) = (t.kind == 1) := by
  unfold rtok; simp only; rw [Bool.eq_iff_iff, beq_iff_eq, beq_iff_eq]
  constructor
  · intro h; split at h; omega; split at h; assumption; split at h; omega; split at h; omega; split at h <;> omega
  · intro h; rw [h]; rfl
theorem c110 (t : Tk) : ((rtok t).c == 110) = (t.kind == 3) := by
  unfold rtok; simp only; rw [Bool.eq_iff_iff, beq_iff_eq, beq_iff_eq]
  constructor
  · intro h; split at h; omega; split at h; omega; split at h; omega; split at h; assumption; split at h <;> omega
  · intro h; rw [h]; rfl
theorem c101 (t : Tk) : ((rtok t).c == 101) = (t.kind == 0) := by
  unfold rtok; simp only; rw [Bool.eq_iff_iff, beq_iff_eq, beq_iff_eq]
  constructor
  · intro h; split at h; assumption; split at h; omega; split at h; omega; split at h; omega; split at h <;> omega
  · intro h; rw [h]; rfl
theorem c115 (t : Tk) : ((rtok t).c == 115) = (t.kind == 4) := by
  unfold rtok; simp only; rw [Bool.eq_iff_iff, beq_iff_eq, beq_iff_eq]
  constructor
  · intro h; split at h; omega; split at h; omega; split at h; omega; split at h; omega; split at h <;> omega
  · intro h; rw [h]; rfl
theorem rn3 {t : Tk} (h : t.kind = 3) : (rtok t).n = valOf t.l := by unfold rtok; simp only; rw [if_pos h]; rfl

/-- a literal token. -/
def litT (t : Tk) : Bool := t.kind == 3 || t.l == kTrue || t.l == kFalse
theorem TkF.lit {t : Tk} (h : TkF t) : rlit (rtok t) = litT t := by
  unfold rlit litT; rw [c110, h.eq (by decide), h.eq (by decide)]

end Go.Proofs.Ytmndgoapkmhglab

/- Plain mathematics: the parts of a text as the two readers find them. -/
namespace Go.Proofs.Ytmndgoapkmhglab

/-- an expression: a token alone, or what stands in brackets. -/
inductive Ast where
  | leaf
  | neg (a : Ast)
  | ite (a b c : Ast)
  | dly (b : Ast)
  | bin (a b : Ast)

/-- how many tokens. -/
def Ast.len : Ast → Nat
  | .leaf => 1
  | .neg a => a.len + 3
  | .ite a b c => a.len + b.len + c.len + 3
  | .dly b => b.len + 4
  | .bin a b => a.len + b.len + 3
/-- how many nodes. -/
def Ast.size : Ast → Nat
  | .leaf => 1
  | .neg a => a.size + 1
  | .ite a b c => a.size + b.size + c.size + 1
  | .dly b => b.size + 2
  | .bin a b => a.size + b.size + 1

def leafT (t : Tk) : Bool := litT t || t.kind == 1

abbrev lAt (ts : List Tk) (i : Nat) : List UInt8 := (tkAt ts i).l

/-- an expression stands at token i. -/
def Sp (ts : List Tk) : Ast → Nat → Prop
  | .leaf, i => leafT (tkAt ts i) = true ∧ lAt ts i ≠ [40]
  | .neg a, i => lAt ts i = [40] ∧ lAt ts (i + 1) = kNot ∧ Sp ts a (i + 2) ∧ lAt ts (i + 2 + a.len) = [41]
  | .ite a b c, i => lAt ts i = [40] ∧ lAt ts (i + 1) = kIf ∧ Sp ts a (i + 2) ∧ Sp ts b (i + 2 + a.len) ∧ Sp ts c (i + 2 + a.len + b.len) ∧ lAt ts (i + 2 + a.len + b.len + c.len) = [41]
  | .dly b, i => lAt ts i = [40] ∧ litT (tkAt ts (i + 1)) = true ∧ lAt ts (i + 2) = kFby ∧ Sp ts b (i + 3) ∧ lAt ts (i + 3 + b.len) = [41]
  | .bin a b, i => lAt ts i = [40] ∧ Sp ts a (i + 1) ∧ (opOf (lAt ts (i + 1 + a.len))).isSome = true ∧ Sp ts b (i + 2 + a.len) ∧ lAt ts (i + 2 + a.len + b.len) = [41]

def mkN (ts : List Tk) (i dl : Nat) (n : Nd) : Nd :=
  { n with pos := (tkAt ts i).pos, delayed := decide (0 < dl), behind := decide (0 < i) && ((tkAt ts (i - 1)).l == kFby) }

def leafN0 (t : Tk) : Nd :=
  if t.l = kTrue then { ndZero with kind := 1, value := 1 } else if t.l = kFalse then { ndZero with kind := 1 }
  else if t.kind = 3 then { ndZero with kind := 0, value := valOf t.l } else { ndZero with kind := 2, name := t.text }

/-- the nodes of an expression at token i, behind so many delays, the first of them number off. -/
def flat (ts : List Tk) : Ast → Nat → Nat → Nat → List Nd
  | .leaf, i, dl, _ => [mkN ts i dl (leafN0 (tkAt ts i))]
  | .neg a, i, dl, off => mkN ts i dl { ndZero with kind := 3, a := off + 1 } :: flat ts a (i + 2) dl (off + 1)
  | .ite a b c, i, dl, off => mkN ts i dl { ndZero with kind := 4, a := off + 1, b := off + 1 + a.size, c := off + 1 + a.size + b.size } ::
      (flat ts a (i + 2) dl (off + 1) ++ (flat ts b (i + 2 + a.len) dl (off + 1 + a.size) ++ flat ts c (i + 2 + a.len + b.len) dl (off + 1 + a.size + b.size)))
  | .dly b, i, dl, off => mkN ts i dl { ndZero with kind := 5, a := off + 1, b := off + 2 } :: mkN ts (i + 1) dl (leafN0 (tkAt ts (i + 1))) :: flat ts b (i + 3) (dl + 1) (off + 2)
  | .bin a b, i, dl, off => mkN ts i dl { ndZero with kind := 6, op := (opOf (lAt ts (i + 1 + a.len))).getD 0, a := off + 1, b := off + 1 + a.size } ::
      (flat ts a (i + 1) dl (off + 1) ++ flat ts b (i + 2 + a.len) dl (off + 1 + a.size))

theorem flat_len (ts : List Tk) : ∀ (t : Ast) i dl off, (flat ts t i dl off).length = t.size := by
  intro t
  induction t with
  | leaf => intro i dl off; rfl
  | neg a iha => intro i dl off; simp [flat, Ast.size, iha]
  | ite a b c iha ihb ihc => intro i dl off; simp [flat, Ast.size, iha, ihb, ihc]; omega
  | dly b ihb => intro i dl off; simp [flat, Ast.size, ihb]
  | bin a b iha ihb => intro i dl off; simp [flat, Ast.size, iha, ihb]

/-- the reader with a list of what may still come (its next one first): what it answers, in at most n steps. -/
inductive Ans (ts : List Tk) : Nat → List UInt8 → Int → Nat → Int → Prop
  | done (n : Nat) (X : List UInt8) (d : Int) (i : Nat) (hi : i < ts.length) (hX : X.length ≤ 99) (hk : (tkAt ts i).kind = 0) : Ans ts n (80 :: X) d i (-1)
  | fail (n : Nat) (x : UInt8) (X : List UInt8) (d : Int) (i : Nat) (hi : i < ts.length) (hX : X.length ≤ 99) (h80 : ¬ (x = 80 ∧ (tkAt ts i).kind = 0)) (hr : (ruleF x.toNat (rtok (tkAt ts i)) d).2.2 = false) : Ans ts n (x :: X) d i ((tkAt ts i).pos : Int)
  | step (n : Nat) (x : UInt8) (X : List UInt8) (d : Int) (i : Nat) (r : Int) (m : List UInt8) (u : Bool) (hi : i < ts.length) (hX : X.length ≤ 99) (h80 : ¬ (x = 80 ∧ (tkAt ts i).kind = 0))
      (hr : ruleF x.toNat (rtok (tkAt ts i)) d = (m, u, true))
      (hn : Ans ts n (m ++ X) (if u = true ∧ lAt ts i = [40] then d + 1 else if u = true ∧ lAt ts i = [41] then d - 1 else d) (if u = true then i + 1 else i) r) : Ans ts (n + 1) (x :: X) d i r

section
variable {ts : List Tk} (hF : ∀ i, TkF (tkAt ts i))
include hF

omit hF in
/-- a token is used up that is no bracket. -/
theorem Ans.use {n : Nat} {x : UInt8} {X m : List UInt8} {d : Int} {i : Nat} {r : Int} (hi : i < ts.length) (hX : X.length ≤ 99) (h80 : x ≠ 80)
    (hr : ruleF x.toNat (rtok (tkAt ts i)) d = (m, true, true)) (h1 : lAt ts i ≠ [40]) (h2 : lAt ts i ≠ [41])
    (hn : Ans ts n (m ++ X) d (i + 1) r) : Ans ts (n + 1) (x :: X) d i r := by
  refine Ans.step n x X d i r m true hi hX (fun h => h80 h.1) hr ?_
  rw [if_neg (fun h => h1 h.2), if_neg (fun h => h2 h.2), if_pos rfl]
  exact hn

theorem Ans.sign {n : Nat} {X : List UInt8} {d : Int} {i : Nat} {r : Int} (x : Nat) (hx : x = 59 ∨ x = 61) (hi : i < ts.length) (hX : X.length ≤ 99) (h : lAt ts i = [UInt8.ofNat x])
    (hn : Ans ts n X d (i + 1) r) : Ans ts (n + 1) (UInt8.ofNat x :: X) d i r := by
  have hs := (hF i).sg x (by omega)
  have hk := hs.1 h
  refine Ans.use hi hX (by rcases hx with rfl | rfl <;> decide) (m := []) ?_ (by rw [h]; rcases hx with rfl | rfl <;> decide) (by rw [h]; rcases hx with rfl | rfl <;> decide) hn
  have hl : (rtok (tkAt ts i)).l = lAt ts i := (hF i).kw _ (by rw [h]; rcases hx with rfl | rfl <;> decide) |>.2 rfl
  have hc := c115 (tkAt ts i)
  rw [hk.1] at hc
  rcases hx with rfl | rfl
  all_goals
    unfold ruleF
    rw [if_neg (by decide), if_neg (by decide), if_neg (by decide), if_neg (by decide), if_neg (by decide), if_neg (by decide), if_neg (by decide), if_neg (by decide), hc, hl, hk.2]
    rfl

theorem Ans.close {n : Nat} {X : List UInt8} {d : Int} {i : Nat} {r : Int} (hi : i < ts.length) (hX : X.length ≤ 99) (h : lAt ts i = [41])
    (hn : Ans ts n X (d - 1) (i + 1) r) : Ans ts (n + 1) (41 :: X) d i r := by
  have hs := (hF i).sg 41 (by omega)
  have hk := hs.1 h
  have hl : (rtok (tkAt ts i)).l = lAt ts i := (hF i).kw _ (by rw [h]; decide) |>.2 rfl
  have hc := c115 (tkAt ts i)
  rw [hk.1] at hc
  refine Ans.step n 41 X d i r [] true hi hX (fun h => absurd h.1 (by decide)) ?_ ?_
  · unfold ruleF
    rw [if_neg (by decide), if_neg (by decide), if_neg (by decide), if_neg (by decide), if_neg (by decide), if_neg (by decide), if_neg (by decide), if_neg (by decide), hc, hl, hk.2]
    rfl
  · rw [if_neg (by rw [h]; decide), if_pos ⟨rfl, h⟩, if_pos rfl]
    exact hn

theorem Ans.nosign {X : List UInt8} {d : Int} {i : Nat} (x : Nat) (hx : x = 59 ∨ x = 61 ∨ x = 41) (hi : i < ts.length) (hX : X.length ≤ 99) (h : lAt ts i ≠ [UInt8.ofNat x]) :
    Ans ts 0 (UInt8.ofNat x :: X) d i ((tkAt ts i).pos : Int) := by
  have hs := (hF i).sg x hx
  refine Ans.fail 0 _ X d i hi hX (fun h => absurd h.1 (by rcases hx with rfl | rfl | rfl <;> decide)) ?_
  have hc := c115 (tkAt ts i)
  have key : ((rtok (tkAt ts i)).c == 115 && (((rtok (tkAt ts i)).l.getD 0 0).toNat == x)) = false := by
    rw [hc]
    by_cases h4 : (tkAt ts i).kind = 4
    · have hl : (rtok (tkAt ts i)).l = lAt ts i := by rw [rtok_l, if_pos (.inr (.inr h4))]
      rw [hl]
      have : (((lAt ts i).getD 0 0).toNat == x) = false := by rw [beq_eq_false_iff_ne]; exact fun e => h (hs.2 ⟨h4, e⟩)
      rw [this, Bool.and_false]
    · simp [h4]
  rcases hx with rfl | rfl | rfl
  all_goals
    unfold ruleF
    rw [if_neg (by decide), if_neg (by decide), if_neg (by decide), if_neg (by decide), if_neg (by decide), if_neg (by decide), if_neg (by decide), if_neg (by decide)]
    exact key

end

end Go.Proofs.Ytmndgoapkmhglab

/- Plain mathematics: both readers find the same expression, or the same first token that cannot stand. -/
namespace Go.Proofs.Ytmndgoapkmhglab

section
variable {ts : List Tk} (hF : ∀ i, TkF (tkAt ts i))
include hF

theorem leaf_kw {i : Nat} (h : leafT (tkAt ts i) = true) : kwL.contains (lAt ts i) = false ∨ lAt ts i = kTrue ∨ lAt ts i = kFalse := by
  unfold leafT litT at h
  simp only [Bool.or_eq_true, beq_iff_eq] at h
  rcases h with ((h | h) | h) | h
  · exact .inl ((hF i).k3 h)
  · exact .inr (.inl h)
  · exact .inr (.inr h)
  · exact .inl ((hF i).k1 h)

theorem leaf_ne {i : Nat} (h : leafT (tkAt ts i) = true) {l : List UInt8} (hl : kwL.contains l = true) (h1 : l ≠ kTrue) (h2 : l ≠ kFalse) : lAt ts i ≠ l := by
  intro e
  rcases leaf_kw hF h with h | h | h
  · rw [e, hl] at h; cases h
  · exact h1 (e.symm.trans h)
  · exact h2 (e.symm.trans h)

theorem kw_leaf {i : Nat} (h : kwL.contains (lAt ts i) = true) (h1 : lAt ts i ≠ kTrue) (h2 : lAt ts i ≠ kFalse) : leafT (tkAt ts i) = false := by
  cases e : leafT (tkAt ts i) with
  | false => rfl
  | true => exact absurd rfl (leaf_ne hF e h h1 h2)

theorem leafT_eq (i : Nat) : (rlit (rtok (tkAt ts i)) || (rtok (tkAt ts i)).c == 97) = leafT (tkAt ts i) := by
  rw [(hF i).lit, c97]; rfl

theorem rule69 (i : Nat) (d : Int) : ruleF 69 (rtok (tkAt ts i)) d = if lAt ts i = [40] then ([73, 41], true, decide (d < 16)) else ([], true, leafT (tkAt ts i)) := by
  unfold ruleF
  rw [if_neg (by decide), if_neg (by decide), if_neg (by decide), if_neg (by decide), if_pos rfl, (hF i).if (by decide), leafT_eq hF]

theorem Ans.leaf {n : Nat} {X : List UInt8} {d : Int} {i : Nat} {r : Int} (hi : i < ts.length) (hX : X.length ≤ 99) (h : leafT (tkAt ts i) = true) (h40 : lAt ts i ≠ [40]) (hn : Ans ts n X d (i + 1) r) : Ans ts (n + 1) (69 :: X) d i r :=
  Ans.use hi hX (by decide) (m := []) (by
    have := rule69 hF i d
    rw [if_neg h40, h] at this
    exact this) h40 (leaf_ne hF h (by decide) (by decide) (by decide)) hn

theorem Ans.noleaf {X : List UInt8} {d : Int} {i : Nat} (hi : i < ts.length) (hX : X.length ≤ 99) (h : leafT (tkAt ts i) = false) (h40 : lAt ts i ≠ [40]) : Ans ts 0 (69 :: X) d i ((tkAt ts i).pos : Int) :=
  Ans.fail 0 _ X d i hi hX (fun h => absurd h.1 (by decide)) (by
    have := rule69 hF i d
    rw [if_neg h40, h] at this
    show (ruleF 69 (rtok (tkAt ts i)) d).2.2 = false
    rw [this])

theorem Ans.opens {n : Nat} {X : List UInt8} {d : Int} {i : Nat} {r : Int} (hi : i < ts.length) (hX : X.length ≤ 99) (h40 : lAt ts i = [40]) (hd : d < 16) (hn : Ans ts n (73 :: 41 :: X) (d + 1) (i + 1) r) : Ans ts (n + 1) (69 :: X) d i r := by
  refine Ans.step n 69 X d i r [73, 41] true hi hX (fun h => absurd h.1 (by decide)) ?_ ?_
  · have := rule69 hF i d
    rw [if_pos h40] at this
    show ruleF 69 (rtok (tkAt ts i)) d = _
    rw [this]; simp [hd]
  · rw [if_pos ⟨rfl, h40⟩, if_pos rfl]; exact hn

theorem Ans.deep {X : List UInt8} {d : Int} {i : Nat} (hi : i < ts.length) (hX : X.length ≤ 99) (h40 : lAt ts i = [40]) (hd : ¬ d < 16) : Ans ts 0 (69 :: X) d i ((tkAt ts i).pos : Int) :=
  Ans.fail 0 _ X d i hi hX (fun h => absurd h.1 (by decide)) (by
    have := rule69 hF i d
    rw [if_pos h40] at this
    show (ruleF 69 (rtok (tkAt ts i)) d).2.2 = false
    rw [this]; simp; omega)

theorem rule73 (i : Nat) (d : Int) : ruleF 73 (rtok (tkAt ts i)) d = if lAt ts i = kNot then ([69], true, true) else if lAt ts i = kIf then ([69, 69, 69], true, true) else if litT (tkAt ts i) = true then ([76], true, true) else if (tkAt ts i).kind = 1 then ([79], true, true) else ([69, 79], false, lAt ts i == [40]) := by
  unfold ruleF
  rw [if_neg (by decide), if_neg (by decide), if_neg (by decide), if_neg (by decide), if_neg (by decide), if_pos rfl]
  unfold insF
  rw [(hF i).if (by decide), (hF i).if (by decide), (hF i).lit, (hF i).eq (by decide)]
  have : ((rtok (tkAt ts i)).c = 97) = ((tkAt ts i).kind = 1) := by
    have := c97 (tkAt ts i)
    rw [Bool.eq_iff_iff, beq_iff_eq, beq_iff_eq] at this
    exact propext this
  have e : ∀ x y : List UInt8 × Bool × Bool, (if (rtok (tkAt ts i)).c = 97 then x else y) = if (tkAt ts i).kind = 1 then x else y := fun x y => by
    by_cases h : (tkAt ts i).kind = 1
    · rw [if_pos h, if_pos (this.symm ▸ h)]
    · rw [if_neg h, if_neg (this.symm ▸ h)]
  rw [e]

theorem Ans.isNot {n : Nat} {X : List UInt8} {d : Int} {i : Nat} {r : Int} (hi : i < ts.length) (hX : X.length ≤ 99) (h : lAt ts i = kNot) (hn : Ans ts n (69 :: X) d (i + 1) r) : Ans ts (n + 1) (73 :: X) d i r :=
  Ans.use hi hX (by decide) (m := [69]) (by
    have := rule73 hF i d
    rw [if_pos h] at this
    exact this) (by rw [h]; decide) (by rw [h]; decide) hn
theorem Ans.isIf {n : Nat} {X : List UInt8} {d : Int} {i : Nat} {r : Int} (hi : i < ts.length) (hX : X.length ≤ 99) (h : lAt ts i = kIf) (hn : Ans ts n (69 :: 69 :: 69 :: X) d (i + 1) r) : Ans ts (n + 1) (73 :: X) d i r :=
  Ans.use hi hX (by decide) (m := [69, 69, 69]) (by
    have := rule73 hF i d
    rw [if_neg (by rw [h]; decide), if_pos h] at this
    exact this) (by rw [h]; decide) (by rw [h]; decide) hn
theorem leaf_ne2 {i : Nat} (h : leafT (tkAt ts i) = true) : lAt ts i ≠ kNot ∧ lAt ts i ≠ kIf ∧ lAt ts i ≠ [40] ∧ lAt ts i ≠ [41] :=
  ⟨leaf_ne hF h (by decide) (by decide) (by decide), leaf_ne hF h (by decide) (by decide) (by decide), leaf_ne hF h (by decide) (by decide) (by decide), leaf_ne hF h (by decide) (by decide) (by decide)⟩
theorem Ans.isLit {n : Nat} {X : List UInt8} {d : Int} {i : Nat} {r : Int} (hi : i < ts.length) (hX : X.length ≤ 99) (h : litT (tkAt ts i) = true) (hn : Ans ts n (76 :: X) d (i + 1) r) : Ans ts (n + 1) (73 :: X) d i r := by
  obtain ⟨a, b, c, e⟩ := leaf_ne2 hF (i := i) (by unfold leafT; rw [h]; rfl)
  exact Ans.use hi hX (by decide) (m := [76]) (by
    have := rule73 hF i d
    rw [if_neg a, if_neg b, if_pos h] at this
    exact this) c e hn
theorem Ans.isName {n : Nat} {X : List UInt8} {d : Int} {i : Nat} {r : Int} (hi : i < ts.length) (hX : X.length ≤ 99) (h : leafT (tkAt ts i) = true) (hl : ¬ litT (tkAt ts i) = true) (hn : Ans ts n (79 :: X) d (i + 1) r) : Ans ts (n + 1) (73 :: X) d i r := by
  obtain ⟨a, b, c, e⟩ := leaf_ne2 hF h
  have hk : (tkAt ts i).kind = 1 := by
    unfold leafT at h
    simpa [hl] using h
  exact Ans.use hi hX (by decide) (m := [79]) (by
    have := rule73 hF i d
    rw [if_neg a, if_neg b, if_neg hl, if_pos hk] at this
    exact this) c e hn
theorem Ans.isOpen {n : Nat} {X : List UInt8} {d : Int} {i : Nat} {r : Int} (hi : i < ts.length) (hX : X.length ≤ 99) (h : lAt ts i = [40]) (hn : Ans ts n (69 :: 79 :: X) d i r) : Ans ts (n + 1) (73 :: X) d i r := by
  have hlf := kw_leaf hF (i := i) (by rw [h]; decide) (by rw [h]; decide) (by rw [h]; decide)
  unfold leafT at hlf
  simp only [Bool.or_eq_false_iff, beq_eq_false_iff_ne] at hlf
  refine Ans.step n 73 X d i r [69, 79] false hi hX (fun h => absurd h.1 (by decide)) ?_ ?_
  · have := rule73 hF i d
    rw [if_neg (by rw [h]; decide), if_neg (by rw [h]; decide), if_neg (by rw [hlf.1]; decide), if_neg hlf.2] at this
    show ruleF 73 (rtok (tkAt ts i)) d = _
    rw [this, h]; rfl
  · rw [if_neg (by simp), if_neg (by simp), if_neg (by simp)]; exact hn
theorem Ans.isNone {X : List UInt8} {d : Int} {i : Nat} (hi : i < ts.length) (hX : X.length ≤ 99) (h1 : lAt ts i ≠ kNot) (h2 : lAt ts i ≠ kIf) (h3 : leafT (tkAt ts i) = false) (h4 : lAt ts i ≠ [40]) : Ans ts 0 (73 :: X) d i ((tkAt ts i).pos : Int) := by
  unfold leafT at h3
  simp only [Bool.or_eq_false_iff, beq_eq_false_iff_ne] at h3
  refine Ans.fail 0 _ X d i hi hX (fun h => absurd h.1 (by decide)) ?_
  have := rule73 hF i d
  rw [if_neg h1, if_neg h2, if_neg (by rw [h3.1]; decide), if_neg h3.2] at this
  show (ruleF 73 (rtok (tkAt ts i)) d).2.2 = false
  rw [this]; simp [h4]

theorem rule76 (i : Nat) (d : Int) : ruleF 76 (rtok (tkAt ts i)) d = ([69], true, (opOf (lAt ts i)).isSome || lAt ts i == kFby) := by
  unfold ruleF
  rw [if_neg (by decide), if_neg (by decide), if_neg (by decide), if_neg (by decide), if_neg (by decide), if_neg (by decide), if_pos rfl, (hF i).rl, (hF i).eq (by decide)]
theorem rule79 (i : Nat) (d : Int) : ruleF 79 (rtok (tkAt ts i)) d = ([69], true, (opOf (lAt ts i)).isSome) := by
  unfold ruleF
  rw [if_neg (by decide), if_neg (by decide), if_neg (by decide), if_neg (by decide), if_neg (by decide), if_neg (by decide), if_neg (by decide), if_pos rfl, (hF i).rl]

omit hF in
theorem op_ne {l : List UInt8} (h : (opOf l).isSome = true) : l ≠ [40] ∧ l ≠ [41] ∧ l ≠ [] ∧ l ≠ kFby := by
  refine ⟨?_, ?_, ?_, ?_⟩ <;> (rintro rfl; revert h; decide)

/-- what follows a first part: an operator, or (behind a literal) the delay. -/
theorem Ans.isOp {n : Nat} {X : List UInt8} {d : Int} {i : Nat} {r : Int} (x : UInt8) (hx : x = 76 ∨ x = 79) (hi : i < ts.length) (hX : X.length ≤ 99) (h : (opOf (lAt ts i)).isSome = true) (hn : Ans ts n (69 :: X) d (i + 1) r) : Ans ts (n + 1) (x :: X) d i r := by
  obtain ⟨a, b, _, _⟩ := op_ne h
  rcases hx with rfl | rfl
  · exact Ans.use hi hX (by decide) (m := [69]) (by
      have := rule76 hF i d
      rw [h] at this
      exact this) a b hn
  · exact Ans.use hi hX (by decide) (m := [69]) (by
      have := rule79 hF i d
      rw [h] at this
      exact this) a b hn
theorem Ans.isFby {n : Nat} {X : List UInt8} {d : Int} {i : Nat} {r : Int} (hi : i < ts.length) (hX : X.length ≤ 99) (h : lAt ts i = kFby) (hn : Ans ts n (69 :: X) d (i + 1) r) : Ans ts (n + 1) (76 :: X) d i r :=
  Ans.use hi hX (by decide) (m := [69]) (by
      have := rule76 hF i d
      rw [h] at this
      exact this) (by rw [h]; decide) (by rw [h]; decide) hn
theorem Ans.noOp {X : List UInt8} {d : Int} {i : Nat} (x : UInt8) (hx : x = 76 ∧ lAt ts i ≠ kFby ∨ x = 79) (hi : i < ts.length) (hX : X.length ≤ 99) (h : opOf (lAt ts i) = none) : Ans ts 0 (x :: X) d i ((tkAt ts i).pos : Int) := by
  rcases hx with ⟨rfl, hf⟩ | rfl
  · refine Ans.fail 0 _ X d i hi hX (fun h => absurd h.1 (by decide)) ?_
    show (ruleF 76 (rtok (tkAt ts i)) d).2.2 = false
    rw [rule76 hF, h]; simp [hf]
  · refine Ans.fail 0 _ X d i hi hX (fun h => absurd h.1 (by decide)) ?_
    show (ruleF 79 (rtok (tkAt ts i)) d).2.2 = false
    rw [rule79 hF, h]; rfl

end

/-- what a reader of expressions, with d brackets open, has to do with the list's reader. -/
structure ExA (ts : List Tk) (d : Nat) (ex : Ex) : Prop where
  ok : ∀ p r p', p.next < ts.length → ex p = .ok (r, p') → p.depth = d → ∃ t : Ast, Sp ts t p.next ∧ p.next + t.len < ts.length ∧ r = p.nodes.length ∧
    p' = { p with next := p.next + t.len, nodes := p.nodes ++ flat ts t p.next p.delays p.nodes.length } ∧
    ∀ X n r, X.length ≤ 4 + 3 * d → Ans ts n X d (p.next + t.len) r → ∃ n', Ans ts n' (69 :: X) d p.next r
  bad : ∀ p k, p.next < ts.length → ex p = .error k → p.depth = d → k < ts.length ∧ ∀ X, X.length ≤ 4 + 3 * d → ∃ n, Ans ts n (69 :: X) d p.next ((tkAt ts k).pos : Int)
  one : ∀ p k, ex p = .error k → lAt ts p.next ≠ [40] → k = p.next ∧ leafT (tkAt ts p.next) = false

/-- the same within brackets. -/
def InA (ts : List Tk) (d i dl off : Nat) (p : PS) (x : Except Nat (Nd × PS)) : Prop :=
  match x with
  | .ok (n', p') => ∃ (t : Ast) (m : Nat) (rest : List Nd), t.len = m + 2 ∧ (lAt ts i = [40] → lAt ts (i + m + 1) = [41] → Sp ts t i) ∧ i + m + 1 < ts.length ∧
      flat ts t i dl off = n' :: rest ∧ p' = { p with next := i + m + 1, nodes := p.nodes ++ rest } ∧
      ∀ Y n r, Y.length ≤ 5 + 3 * d → Ans ts n Y ((d : Int) + 1) (i + m + 1) r → ∃ n', Ans ts n' (73 :: Y) ((d : Int) + 1) (i + 1) r
  | .error k => k < ts.length ∧ ∀ Y, Y.length ≤ 5 + 3 * d → ∃ n, Ans ts n (73 :: Y) ((d : Int) + 1) (i + 1) ((tkAt ts k).pos : Int)

theorem isLit_flat {ts : List Tk} (t : Ast) (i dl off : Nat) (hs : Sp ts t i) : isLit ((flat ts t i dl off).getD 0 ndZero) = true ↔ (t = .leaf ∧ litT (tkAt ts i) = true) := by
  cases t with
  | leaf =>
    have h := hs.1
    unfold leafT litT at h
    simp only [Bool.or_eq_true, beq_iff_eq] at h
    simp only [flat, List.getD_cons_zero, mkN, isLit, leafN0, litT, true_and, Bool.or_eq_true, beq_iff_eq]
    split
    · rename_i e; simp [e]
    split
    · rename_i e; simp [e]
    split
    · rename_i e; simp [e]
    · rename_i h1 h2 h3; simp [h1, h2, h3]
  | neg a => simp [flat, mkN, isLit]
  | ite a b c => simp [flat, mkN, isLit]
  | dly b => simp [flat, mkN, isLit]
  | bin a b => simp [flat, mkN, isLit]

theorem Ast.len_pos (t : Ast) : 0 < t.len := by cases t <;> simp [Ast.len]
theorem Ast.size_pos (t : Ast) : 0 < t.size := by cases t <;> simp [Ast.size]

end Go.Proofs.Ytmndgoapkmhglab

/- Plain mathematics: both readers find the same expression: the proof. -/
namespace Go.Proofs.Ytmndgoapkmhglab

section
variable {ts : List Tk} (ht : TsOk ts) (hF : ∀ i, TkF (tkAt ts i))
include ht hF

omit hF in
theorem adv_kw {p : PS} (h : p.next < ts.length) (hk : lAt ts p.next ≠ []) : p.adv ts = { p with next := p.next + 1 } ∧ p.next + 1 < ts.length :=
  ⟨adv_next ht h (.inr hk), ht.last h (.inr hk)⟩

omit ht in
theorem leaf_nil {i : Nat} (h : leafT (tkAt ts i) = true) : lAt ts i ≠ [] := by
  intro e
  unfold leafT litT at h
  simp only [Bool.or_eq_true, beq_iff_eq] at h
  rcases h with ((h | h) | h) | h
  · exact (hF i).pos (by omega) e
  · have h' : lAt ts i = kTrue := h
    rw [e] at h'; cases h'
  · have h' : lAt ts i = kFalse := h
    rw [e] at h'; cases h'
  · exact (hF i).pos (by omega) e

/-- what stands in brackets. -/
theorem insideA {d : Nat} {ex : Ex} (hd : d + 1 ≤ 16) (hx : ExA ts (d + 1) ex) {p : PS} {i dl off : Nat} (hp : p.next = i + 1) (hlt : i + 1 < ts.length) (hdep : p.depth = d + 1) (hdl : p.delays = dl) (hoff : p.nodes.length = off + 1) :
    InA ts d i dl off p (insideF ts ex p (mkN ts i dl ndZero)) := by
  have ed : ((d + 1 : Nat) : Int) = (d : Int) + 1 := by omega
  have l0 : p.hd ts = tkAt ts (i + 1) := by unfold PS.hd; rw [hp]
  unfold insideF
  rw [l0]
  split
  · -- not
    rename_i hn
    have hn' : lAt ts (i + 1) = kNot := hn
    obtain ⟨ea, hl2⟩ := adv_kw ht (p := p) (by rw [hp]; exact hlt) (by rw [hp, hn']; decide)
    rw [hp] at hl2
    unfold notF
    rw [ea, hp]
    cases he : ex { p with next := i + 1 + 1 } with
    | error k =>
      obtain ⟨hk, hA⟩ := hx.bad { p with next := i + 1 + 1 } k hl2 he hdep
      refine ⟨hk, fun Y hY => ?_⟩
      obtain ⟨n, hn2⟩ := hA Y (by omega)
      rw [ed] at hn2
      exact ⟨n + 1, Ans.isNot hF hlt (by omega) hn' hn2⟩
    | ok v =>
      obtain ⟨r, p'⟩ := v
      obtain ⟨t, hs, hl, hr, hp', hA⟩ := hx.ok { p with next := i + 1 + 1 } r p' hl2 he hdep
      simp only at hs hl hr hp' hA
      refine ⟨.neg t, t.len + 1, flat ts t (i + 2) dl (off + 1), rfl, fun h1 h2 => ⟨h1, hn', hs, by rw [← h2]; unfold lAt; congr 2; omega⟩, by omega, ?_, ?_, fun Y n r hY hA2 => ?_⟩
      · simp only [flat]; congr 1; rw [hr, hoff]; rfl
      · rw [hp', hdl, hoff]; congr 1; omega
      · obtain ⟨n', hn2⟩ := hA Y n r (by omega) (by rw [ed, show i + 1 + 1 + t.len = i + (t.len + 1) + 1 by omega]; exact hA2)
        rw [ed] at hn2
        exact ⟨n' + 1, Ans.isNot hF hlt (by omega) hn' hn2⟩
  split
  · -- if
    rename_i _ hn
    have hn' : lAt ts (i + 1) = kIf := hn
    obtain ⟨ea, hl2⟩ := adv_kw ht (p := p) (by rw [hp]; exact hlt) (by rw [hp, hn']; decide)
    rw [hp] at hl2
    unfold choiceF
    rw [ea, hp]
    cases he : ex { p with next := i + 1 + 1 } with
    | error k =>
      obtain ⟨hk, hA⟩ := hx.bad { p with next := i + 1 + 1 } k hl2 he hdep
      refine ⟨hk, fun Y hY => ?_⟩
      obtain ⟨n, hn2⟩ := hA (69 :: 69 :: Y) (by simp; omega)
      rw [ed] at hn2
      exact ⟨n + 1, Ans.isIf hF hlt (by omega) hn' hn2⟩
    | ok v =>
      obtain ⟨r, p1⟩ := v
      obtain ⟨t, hs, hl, hr, hp1, hA⟩ := hx.ok { p with next := i + 1 + 1 } r p1 hl2 he hdep
      simp only at hs hl hr hp1 hA
      subst hp1
      simp only
      generalize hP1 : ({ next := i + 1 + 1 + t.len, depth := p.depth, delays := p.delays, decls := p.decls, nodes := p.nodes ++ flat ts t (i + 1 + 1) p.delays p.nodes.length } : PS) = p1
      have e1 : p1.next = i + 1 + 1 + t.len := by rw [← hP1]
      cases he2 : ex p1 with
      | error k =>
        obtain ⟨hk, hA3⟩ := hx.bad p1 k (by rw [e1]; exact hl) he2 (by rw [← hP1]; exact hdep)
        refine ⟨hk, fun Y hY => ?_⟩
        obtain ⟨n, hn3⟩ := hA3 (69 :: Y) (by simp; omega)
        rw [e1] at hn3
        obtain ⟨n2, hn2⟩ := hA (69 :: 69 :: Y) n _ (by simp; omega) hn3
        rw [ed] at hn2
        exact ⟨n2 + 1, Ans.isIf hF hlt (by omega) hn' hn2⟩
      | ok v2 =>
        obtain ⟨r2, p2⟩ := v2
        obtain ⟨t2, hs2, hll2, hr2, hp2, hA2⟩ := hx.ok p1 r2 p2 (by rw [e1]; exact hl) he2 (by rw [← hP1]; exact hdep)
        rw [e1] at hs2 hll2 hA2
        have e2 : p2.next = i + 1 + 1 + t.len + t2.len := by rw [hp2, e1]
        have d2 : p2.depth = d + 1 := by rw [hp2, ← hP1]; exact hdep
        simp only
        cases he3 : ex p2 with
        | error k =>
          obtain ⟨hk, hA3⟩ := hx.bad p2 k (by rw [e2]; exact hll2) he3 d2
          refine ⟨hk, fun Y hY => ?_⟩
          obtain ⟨n, hn3⟩ := hA3 Y (by omega)
          rw [e2] at hn3
          obtain ⟨n1, hn1⟩ := hA2 (69 :: Y) n _ (by simp; omega) hn3
          obtain ⟨n2, hn2⟩ := hA (69 :: 69 :: Y) n1 _ (by simp; omega) hn1
          rw [ed] at hn2
          exact ⟨n2 + 1, Ans.isIf hF hlt (by omega) hn' hn2⟩
        | ok v3 =>
          obtain ⟨r3, p3⟩ := v3
          obtain ⟨t3, hs3, hl3, hr3, hp3, hA3⟩ := hx.ok p2 r3 p3 (by rw [e2]; exact hll2) he3 d2
          rw [e2] at hs3 hl3 hA3
          have n1 : p1.nodes.length = off + 1 + t.size := by rw [← hP1]; simp [flat_len, hoff]
          have n2 : p2.nodes.length = off + 1 + t.size + t2.size := by rw [hp2]; simp [flat_len, n1]
          refine ⟨.ite t t2 t3, t.len + t2.len + t3.len + 1, flat ts t (i + 2) dl (off + 1) ++ (flat ts t2 (i + 2 + t.len) dl (off + 1 + t.size) ++ flat ts t3 (i + 2 + t.len + t2.len) dl (off + 1 + t.size + t2.size)), by simp [Ast.len], fun h1 h2 => ⟨h1, hn', hs, hs2, hs3, by rw [← h2]; unfold lAt; congr 2; omega⟩, by omega, ?_, ?_, fun Y n r hY hA9 => ?_⟩
          · simp only [flat]; congr 1; rw [hr, hr2, hr3, n1, n2, hoff]; rfl
          · rw [hp3, hp2, ← hP1]; simp only [hdl, hoff, List.length_append, flat_len]; congr 1
            · omega
            · simp [List.append_assoc]
          · obtain ⟨m3, hm3⟩ := hA3 Y n r (by omega) (by rw [ed, show i + 1 + 1 + t.len + t2.len + t3.len = i + (t.len + t2.len + t3.len + 1) + 1 by omega]; exact hA9)
            obtain ⟨m2, hm2⟩ := hA2 (69 :: Y) m3 r (by simp; omega) hm3
            obtain ⟨m1, hm1⟩ := hA (69 :: 69 :: Y) m2 r (by simp; omega) hm2
            rw [ed] at hm1
            exact ⟨m1 + 1, Ans.isIf hF hlt (by omega) hn' hm1⟩
  · -- a first part
    rename_i hno hni
    have hno' : lAt ts (i + 1) ≠ kNot := hno
    have hni' : lAt ts (i + 1) ≠ kIf := hni
    unfold infixF
    cases he : ex p with
    | error k =>
      obtain ⟨hk, hA⟩ := hx.bad p k (by rw [hp]; exact hlt) he hdep
      refine ⟨hk, fun Y hY => ?_⟩
      by_cases h40 : lAt ts (i + 1) = [40]
      · obtain ⟨n, hn2⟩ := hA (79 :: Y) (by simp; omega)
        rw [hp, ed] at hn2
        exact ⟨n + 1, Ans.isOpen hF hlt (by omega) h40 hn2⟩
      · obtain ⟨e1, e2⟩ := hx.one p k he (by rw [hp]; exact h40)
        rw [hp] at e2
        rw [e1, hp]
        exact ⟨0, Ans.isNone hF hlt (by omega) hno' hni' e2 h40⟩
    | ok v =>
      obtain ⟨r, p1⟩ := v
      obtain ⟨t, hs, hl, hr, hp1, hA⟩ := hx.ok p r p1 (by rw [hp]; exact hlt) he hdep
      have e1 : p1.next = i + 1 + t.len := by rw [hp1, hp]
      have d1 : p1.depth = d + 1 := by rw [hp1]; exact hdep
      have dl1 : p1.delays = dl := by rw [hp1]; exact hdl
      have n1 : p1.nodes.length = off + 1 + t.size := by rw [hp1]; simp [flat_len, hoff]
      rw [hp] at hs hl hA
      have hh1 : p1.hd ts = tkAt ts (i + 1 + t.len) := by unfold PS.hd; rw [e1]
      -- the list's reader comes to the token behind the first part
      have hcome : ∀ Y n r, Y.length ≤ 5 + 3 * d → (∀ x : UInt8, (x = 76 ∧ t = .leaf ∧ litT (tkAt ts (i + 1)) = true) ∨ (x = 79 ∧ ¬ (t = .leaf ∧ litT (tkAt ts (i + 1)) = true)) → Ans ts n (x :: Y) ((d : Int) + 1) (i + 1 + t.len) r) → ∃ n', Ans ts n' (73 :: Y) ((d : Int) + 1) (i + 1) r := by
        intro Y n r hY hAn
        by_cases hlf : t = .leaf
        · subst hlf
          by_cases hlit : litT (tkAt ts (i + 1)) = true
          · exact ⟨n + 1, Ans.isLit hF hlt (by omega) hlit (hAn 76 (.inl ⟨rfl, rfl, hlit⟩))⟩
          · exact ⟨n + 1, Ans.isName hF hlt (by omega) hs.1 hlit (hAn 79 (.inr ⟨rfl, fun h => hlit h.2⟩))⟩
        · have h40 : lAt ts (i + 1) = [40] := by
            cases t with
            | leaf => exact absurd rfl hlf
            | neg a => exact hs.1
            | ite a b c => exact hs.1
            | dly b => exact hs.1
            | bin a b => exact hs.1
          obtain ⟨n2, hn2⟩ := hA (79 :: Y) n r (by simp; omega) (by rw [ed]; exact hAn 79 (.inr ⟨rfl, fun h => hlf h.1⟩))
          rw [ed] at hn2
          exact ⟨n2 + 1, Ans.isOpen hF hlt (by omega) h40 hn2⟩
      have hnd : p1.nodes.getD r ndZero = (flat ts t (i + 1) dl (off + 1)).getD 0 ndZero := by
        rw [hr, hp1, hdl, hp, hoff]
        simp only
        rw [List.getD_eq_getElem?_getD, List.getD_eq_getElem?_getD, List.getElem?_append_right (by omega), hoff]
        simp
      have hil := isLit_flat t (i + 1) dl (off + 1) hs
      simp only
      rw [hnd]
      split
      · -- the delay
        rename_i hc
        obtain ⟨hc1, hc2⟩ := hc
        rw [hh1] at hc2
        have hc2' : lAt ts (i + 1 + t.len) = kFby := hc2
        obtain ⟨rfl, hlit⟩ := hil.1 hc1
        have hc3 : lAt ts (i + 1 + 1) = kFby := hc2'
        obtain ⟨ea, hl2⟩ := adv_kw ht (p := p1) (by rw [e1]; exact hl) (by rw [e1, hc2']; decide)
        rw [e1] at hl2
        have e1' : p1.next = i + 2 := e1
        have hl2' : i + 3 < ts.length := hl2
        unfold delayF
        rw [ea]
        simp only [e1', dl1]
        generalize hQ : ({ next := i + 2 + 1, depth := p1.depth, delays := dl + 1, decls := p1.decls, nodes := p1.nodes } : PS) = q
        have q1 : q.next = i + 3 := by rw [← hQ]
        have q2 : q.depth = d + 1 := by rw [← hQ]; exact d1
        have q3 : q.delays = dl + 1 := by rw [← hQ]
        have q4 : q.nodes = p1.nodes := by rw [← hQ]
        have q5 : q.decls = p1.decls := by rw [← hQ]
        cases he2 : ex q with
        | error k =>
          obtain ⟨hk, hA3⟩ := hx.bad q k (by rw [q1]; exact hl2') he2 q2
          refine ⟨hk, fun Y hY => ?_⟩
          obtain ⟨n, hn3⟩ := hA3 Y (by omega)
          rw [q1, ed] at hn3
          refine hcome Y (n + 1) _ hY (fun x hx => ?_)
          rcases hx with ⟨rfl, _, _⟩ | ⟨_, hx⟩
          · exact Ans.isFby hF hl (by omega) hc2' hn3
          · exact absurd ⟨rfl, hlit⟩ hx
        | ok v2 =>
          obtain ⟨r2, p2⟩ := v2
          obtain ⟨t2, hs2, hll2, hr2, hp2, hA2⟩ := hx.ok q r2 p2 (by rw [q1]; exact hl2') he2 q2
          rw [q1] at hs2 hll2 hA2
          refine ⟨.dly t2, t2.len + 2, mkN ts (i + 1) dl (leafN0 (tkAt ts (i + 1))) :: flat ts t2 (i + 3) (dl + 1) (off + 2), by simp [Ast.len], fun h1 h2 => ⟨h1, hlit, hc3, hs2, by rw [← h2]; unfold lAt; congr 2; omega⟩, by omega, ?_, ?_, fun Y n r hY hA9 => ?_⟩
          · simp only [flat]; congr 1; rw [hr, hr2, q4, n1, hoff]; rfl
          · rw [hp2, q1, q2, q3, q4, q5, hp1, hdl, hp, hoff]
            simp only [List.length_append, hoff, flat]
            rw [← hdl, ← hdep]
            congr 1
            · omega
            · simp
          · obtain ⟨n2, hn2⟩ := hA2 Y n r (by omega) (by rw [ed, show i + 3 + t2.len = i + (t2.len + 2) + 1 by omega]; exact hA9)
            rw [ed] at hn2
            refine hcome Y (n2 + 1) r hY (fun x hx => ?_)
            rcases hx with ⟨rfl, _, _⟩ | ⟨_, hx⟩
            · exact Ans.isFby hF hl (by omega) hc2' hn2
            · exact absurd ⟨rfl, hlit⟩ hx
      · -- an operator
        rename_i hc
        have hc' : ¬ ((t = .leaf ∧ litT (tkAt ts (i + 1)) = true) ∧ lAt ts (i + 1 + t.len) = kFby) := fun h => hc ⟨hil.2 h.1, by rw [hh1]; exact h.2⟩
        unfold infixRest
        rw [hh1]
        cases ho : opOf (lAt ts (i + 1 + t.len)) with
        | none =>
          simp only
          rw [e1]
          refine ⟨hl, fun Y hY => hcome Y 0 _ hY (fun x hx => ?_)⟩
          rcases hx with ⟨rfl, h2⟩ | ⟨rfl, h2⟩
          · exact Ans.noOp hF 76 (.inl ⟨rfl, fun h => hc' ⟨h2, h⟩⟩) hl (by omega) ho
          · exact Ans.noOp hF 79 (.inr rfl) hl (by omega) ho
        | some op =>
          simp only
          have hos : (opOf (lAt ts (i + 1 + t.len))).isSome = true := by rw [ho]; rfl
          obtain ⟨ea, hl2⟩ := adv_kw ht (p := p1) (by rw [e1]; exact hl) (by rw [e1]; exact (op_ne hos).2.2.1)
          rw [e1] at hl2 ea
          rw [ea]
          have hstep : ∀ Y n r, Y.length ≤ 5 + 3 * d → Ans ts n (69 :: Y) ((d : Int) + 1) (i + 1 + t.len + 1) r → ∃ n', Ans ts n' (73 :: Y) ((d : Int) + 1) (i + 1) r := fun Y n r hY h => hcome Y (n + 1) r hY (fun x hx => by
            rcases hx with ⟨rfl, _⟩ | ⟨rfl, _⟩
            · exact Ans.isOp hF 76 (.inl rfl) hl (by omega) hos h
            · exact Ans.isOp hF 79 (.inr rfl) hl (by omega) hos h)
          cases he2 : ex { p1 with next := i + 1 + t.len + 1 } with
          | error k =>
            obtain ⟨hk, hA3⟩ := hx.bad { p1 with next := i + 1 + t.len + 1 } k hl2 he2 d1
            refine ⟨hk, fun Y hY => ?_⟩
            obtain ⟨n, hn3⟩ := hA3 Y (by omega)
            rw [ed] at hn3
            exact hstep Y n _ hY hn3
          | ok v2 =>
            obtain ⟨r2, p2⟩ := v2
            obtain ⟨t2, hs2, hll2, hr2, hp2, hA2⟩ := hx.ok { p1 with next := i + 1 + t.len + 1 } r2 p2 hl2 he2 d1
            simp only at hs2 hll2 hr2 hp2 hA2
            have ei : i + 1 + t.len + 1 = i + 2 + t.len := by omega
            rw [ei] at hs2 hll2 hA2
            refine ⟨.bin t t2, t.len + t2.len + 1, flat ts t (i + 1) dl (off + 1) ++ flat ts t2 (i + 2 + t.len) dl (off + 1 + t.size), by simp [Ast.len], fun h1 h2 => ⟨h1, hs, hos, hs2, by rw [← h2]; unfold lAt; congr 2; omega⟩, by omega, ?_, ?_, fun Y n r hY hA9 => ?_⟩
            · simp only [flat]; congr 1; rw [hr, hr2, n1, hoff, ho]; rfl
            · rw [hp2, ei, hp1, hdl, hp, hoff]
              simp only [List.length_append, flat_len, hoff]
              rw [← hdl]
              congr 1
              · omega
              · simp [List.append_assoc]
            · obtain ⟨n2, hn2⟩ := hA2 Y n r (by omega) (by rw [ed, show i + 2 + t.len + t2.len = i + (t.len + t2.len + 1) + 1 by omega]; exact hA9)
              rw [ed, ← ei] at hn2
              exact hstep Y n2 r hY hn2

end

end Go.Proofs.Ytmndgoapkmhglab

/- Plain mathematics: both readers find the same declarations, or the same first token that cannot stand. -/
namespace Go.Proofs.Ytmndgoapkmhglab

section
variable {ts : List Tk} (ht : TsOk ts) (hF : ∀ i, TkF (tkAt ts i))
include ht hF

theorem bracketA {d : Nat} {ex : Ex} (hd : d + 1 ≤ 16) (hx : ExA ts (d + 1) ex) {p : PS} (hp : p.next < ts.length) (hdep : p.depth = d) (h40 : lAt ts p.next = [40]) :
    (∀ r p', bracketF ts ex p = .ok (r, p') → ∃ t : Ast, Sp ts t p.next ∧ p.next + t.len < ts.length ∧ r = p.nodes.length ∧
      p' = { p with next := p.next + t.len, nodes := p.nodes ++ flat ts t p.next p.delays p.nodes.length } ∧
      ∀ X n r, X.length ≤ 4 + 3 * d → Ans ts n X d (p.next + t.len) r → ∃ n', Ans ts n' (69 :: X) d p.next r) ∧
    (∀ k, bracketF ts ex p = .error k → k < ts.length ∧ ∀ X, X.length ≤ 4 + 3 * d → ∃ n, Ans ts n (69 :: X) d p.next ((tkAt ts k).pos : Int)) := by
  obtain ⟨_, hl1⟩ := adv_kw ht (p := p) hp (by rw [h40]; decide)
  obtain ⟨ea, _⟩ := adv_kw ht (p := p.add ts ndZero) hp (by show lAt ts p.next ≠ []; rw [h40]; decide)
  have hd16 : (d : Int) < 16 := by omega
  have hnd : (p.add ts ndZero).nodes.getD p.nodes.length ndZero = mkN ts p.next p.delays ndZero := by
    simp [PS.add, mkN, PS.hd]
  have hin := insideA ht hF hd hx (p := { (p.add ts ndZero).adv ts with depth := p.depth + 1 }) (i := p.next) (dl := p.delays) (off := p.nodes.length) (by rw [ea]; rfl) hl1 (by show p.depth + 1 = d + 1; rw [hdep]) (by rw [ea]; rfl) (by rw [ea]; simp [PS.add])
  unfold bracketF
  rw [hnd]
  generalize hq : ({ (p.add ts ndZero).adv ts with depth := p.depth + 1 } : PS) = q at hin ⊢
  have qn : q.nodes = p.nodes ++ [mkN ts p.next p.delays ndZero] := by rw [← hq, ea]; rfl
  have qd : q.depth = d + 1 := by rw [← hq]; show p.depth + 1 = _; rw [hdep]
  have ql : q.delays = p.delays := by rw [← hq, ea]; rfl
  have qc : q.decls = p.decls := by rw [← hq, ea]; rfl
  cases he : insideF ts ex q (mkN ts p.next p.delays ndZero) with
  | error k =>
    rw [he] at hin
    obtain ⟨hk, hA⟩ := hin
    refine ⟨fun r p' h => (by cases h), fun k' h => ?_⟩
    cases h
    refine ⟨hk, fun X hX => ?_⟩
    obtain ⟨n, hn⟩ := hA (41 :: X) (by simp; omega)
    exact ⟨n + 1, Ans.opens hF hp (by omega) h40 hd16 hn⟩
  | ok v =>
    obtain ⟨n', p2⟩ := v
    rw [he] at hin
    obtain ⟨t, m, rest, hm, hsp, hl2, hfl, hp2, hA⟩ := hin
    simp only
    have hset : p2.nodes.set p.nodes.length n' = p.nodes ++ flat ts t p.next p.delays p.nodes.length := by
      rw [hp2, hfl]; simp only [qn]; simp
    have h2n : p2.next = p.next + m + 1 := by rw [hp2]
    unfold PS.take
    have hh : (PS.hd ts { p2 with depth := p2.depth - 1, nodes := p2.nodes.set p.nodes.length n' }) = tkAt ts (p.next + m + 1) := by unfold PS.hd; simp only [h2n]
    rw [hh]
    have hdm : (d : Int) + 1 - 1 = (d : Int) := by omega
    by_cases h41 : lAt ts (p.next + m + 1) = [41]
    · rw [if_pos (show (tkAt ts (p.next + m + 1)).l = [41] from h41)]
      simp only
      obtain ⟨ea2, hl3⟩ := adv_kw ht (p := { p2 with depth := p2.depth - 1, nodes := p2.nodes.set p.nodes.length n' }) (by simp only [h2n]; exact hl2) (by simp only [h2n]; rw [h41]; decide)
      simp only [h2n] at hl3
      refine ⟨fun r p' h => ?_, fun k' h => (by cases h)⟩
      rw [ea2] at h
      cases h
      refine ⟨t, hsp h40 h41, by rw [hm]; omega, rfl, ?_, fun X n r hX hAn => ?_⟩
      · rw [hset, h2n, hp2]
        simp only [qd, ql, qc, hm, ← hdep]
        rfl
      · obtain ⟨n2, hn2⟩ := hA (41 :: X) (n + 1) r (by simp; omega) (Ans.close hF hl2 (by omega) h41 (by rw [hdm, show p.next + m + 1 + 1 = p.next + t.len by omega]; exact hAn))
        exact ⟨n2 + 1, Ans.opens hF hp (by omega) h40 hd16 hn2⟩
    · rw [if_neg (show ¬ (tkAt ts (p.next + m + 1)).l = [41] from h41)]
      simp only
      refine ⟨fun r p' h => (by cases h), fun k' h => ?_⟩
      cases h
      rw [h2n]
      refine ⟨hl2, fun X hX => ?_⟩
      obtain ⟨n2, hn2⟩ := hA (41 :: X) 0 ((tkAt ts (p.next + m + 1)).pos : Int) (by simp; omega) (Ans.nosign hF 41 (by omega) hl2 (by omega) h41)
      exact ⟨n2 + 1, Ans.opens hF hp (by omega) h40 hd16 hn2⟩

theorem exprA : ∀ f d, d + f = 16 → ExA ts d (exprF ts f) := by
  have hatom : ∀ (p : PS) (br : Except Nat (Nat × PS)), lAt ts p.next ≠ [40] → atomF ts p br = if leafT (tkAt ts p.next) = true then .ok (leafF ts p (leafN0 (tkAt ts p.next))) else .error p.next := by
    intro p br h40
    unfold atomF
    rw [if_neg (show ¬ (p.hd ts).l = [40] from h40)]
    unfold leafN0 leafT litT PS.hd
    by_cases h1 : (tkAt ts p.next).l = kTrue
    · simp [h1]
    by_cases h2 : (tkAt ts p.next).l = kFalse
    · rw [if_neg h1, if_pos h2, if_neg h1, if_pos h2]; simp [h2]
    by_cases h3 : (tkAt ts p.next).kind = 3
    · simp [h1, h2, h3]
    by_cases h4 : (tkAt ts p.next).kind = 1
    · simp [h1, h2, h4]
    · simp [h1, h2, h3, h4]
  have hleaf : ∀ (d : Nat) (p : PS) (br : Except Nat (Nat × PS)), d ≤ 16 → p.next < ts.length → lAt ts p.next ≠ [40] →
      (∀ r p', atomF ts p br = .ok (r, p') → ∃ t : Ast, Sp ts t p.next ∧ p.next + t.len < ts.length ∧ r = p.nodes.length ∧
        p' = { p with next := p.next + t.len, nodes := p.nodes ++ flat ts t p.next p.delays p.nodes.length } ∧
        ∀ X n r, X.length ≤ 4 + 3 * d → Ans ts n X d (p.next + t.len) r → ∃ n', Ans ts n' (69 :: X) d p.next r) ∧
      (∀ k, atomF ts p br = .error k → k < ts.length ∧ ∀ X, X.length ≤ 4 + 3 * d → ∃ n, Ans ts n (69 :: X) d p.next ((tkAt ts k).pos : Int)) := by
    intro d p br hd hp h40
    rw [hatom p br h40]
    by_cases hl : leafT (tkAt ts p.next) = true
    · rw [if_pos hl]
      obtain ⟨_, hl1⟩ := adv_kw ht (p := p) hp (leaf_nil hF hl)
      refine ⟨fun r p' h => ?_, fun k h => (by cases h)⟩
      cases h
      refine ⟨.leaf, ⟨hl, h40⟩, hl1, rfl, ?_, fun X n r hX hA => ⟨n + 1, ?_⟩⟩
      · obtain ⟨ea, _⟩ := adv_kw ht (p := p.add ts (leafN0 (tkAt ts p.next))) hp (leaf_nil hF hl)
        rw [ea]; rfl
      · exact Ans.leaf hF hp (by omega) hl h40 hA
    · rw [if_neg hl]
      refine ⟨fun r p' h => (by cases h), fun k h => ?_⟩
      cases h
      exact ⟨hp, fun X hX => ⟨0, Ans.noleaf hF hp (by omega) (by simpa using hl) h40⟩⟩
  intro f
  induction f with
  | zero =>
    intro d hd
    refine ⟨fun p r p' hp he hdep => ?_, fun p k hp he hdep => ?_, fun p k he h40 => ?_⟩
    · by_cases h40 : lAt ts p.next = [40]
      · exfalso
        have he' : atomF ts p (.error p.next) = .ok (r, p') := he
        unfold atomF at he'
        rw [if_pos (show (p.hd ts).l = [40] from h40)] at he'
        cases he'
      · exact (hleaf d p _ (by omega) hp h40).1 r p' he
    · by_cases h40 : lAt ts p.next = [40]
      · have he' : atomF ts p (.error p.next) = .error k := he
        unfold atomF at he'
        rw [if_pos (show (p.hd ts).l = [40] from h40)] at he'
        cases he'
        exact ⟨hp, fun X hX => ⟨0, Ans.deep hF hp (by omega) h40 (by omega)⟩⟩
      · exact (hleaf d p _ (by omega) hp h40).2 k he
    · have he' : atomF ts p (.error p.next) = .error k := he
      rw [hatom p _ h40] at he'
      split at he'
      · cases he'
      · rename_i hl; cases he'; exact ⟨rfl, by simpa using hl⟩
  | succ f ih =>
    intro d hd
    have hx := ih (d + 1) (by omega)
    refine ⟨fun p r p' hp he hdep => ?_, fun p k hp he hdep => ?_, fun p k he h40 => ?_⟩
    · have he' : atomF ts p (bracketF ts (exprF ts f) p) = .ok (r, p') := he
      by_cases h40 : lAt ts p.next = [40]
      · unfold atomF at he'
        rw [if_pos (show (p.hd ts).l = [40] from h40)] at he'
        exact (bracketA ht hF (by omega) hx hp hdep h40).1 r p' he'
      · exact (hleaf d p _ (by omega) hp h40).1 r p' he'
    · have he' : atomF ts p (bracketF ts (exprF ts f) p) = .error k := he
      by_cases h40 : lAt ts p.next = [40]
      · unfold atomF at he'
        rw [if_pos (show (p.hd ts).l = [40] from h40)] at he'
        exact (bracketA ht hF (by omega) hx hp hdep h40).2 k he'
      · exact (hleaf d p _ (by omega) hp h40).2 k he'
    · have he' : atomF ts p (bracketF ts (exprF ts f) p) = .error k := he
      rw [hatom p _ h40] at he'
      split at he'
      · cases he'
      · rename_i hl; cases he'; exact ⟨rfl, by simpa using hl⟩

end

/-- a declaration: its kind (0 an input, 1 a number, 2 a truth), its first token, its expression. -/
structure Dl where
  kind : Nat
  i : Nat
  t : Ast

def Dl.len (x : Dl) : Nat := if x.kind = 0 then 3 else x.t.len + 6

def DlOk (ts : List Tk) (x : Dl) : Prop :=
  (x.kind = 0 ∧ lAt ts x.i = kIn ∧ (tkAt ts (x.i + 1)).kind = 1 ∧ lAt ts (x.i + 2) = [59]) ∨
  (((x.kind = 1 ∧ lAt ts x.i = kInt) ∨ (x.kind = 2 ∧ lAt ts x.i = kBool)) ∧ (tkAt ts (x.i + 1)).kind = 1 ∧ lAt ts (x.i + 2) = kAt ∧ ((tkAt ts (x.i + 3)).kind = 3 ∧ valOf (lAt ts (x.i + 3)) < 4) ∧
    lAt ts (x.i + 4) = [61] ∧ Sp ts x.t (x.i + 5) ∧ lAt ts (x.i + 5 + x.t.len) = [59])

/-- declarations from token i on, up to the end. -/
def Spell (ts : List Tk) : List Dl → Nat → Prop
  | [], i => i < ts.length ∧ (tkAt ts i).kind = 0
  | x :: r, i => x.i = i ∧ i + x.len < ts.length ∧ DlOk ts x ∧ Spell ts r (i + x.len)

def nodesD (ts : List Tk) : List Dl → Nat → List Nd
  | [], _ => []
  | x :: r, off => if x.kind = 0 then nodesD ts r off else flat ts x.t (x.i + 5) 0 off ++ nodesD ts r (off + x.t.size)

def dcIn (ts : List Tk) (x : Dl) (a : Nat) : Dc := ⟨0, a, (tkAt ts (x.i + 1)).text, (tkAt ts (x.i + 1)).pos, 0, 0, 0⟩
def dcEq (ts : List Tk) (x : Dl) (b off : Nat) : Dc := ⟨x.kind, b, (tkAt ts (x.i + 1)).text, (tkAt ts (x.i + 1)).pos, valOf (lAt ts (x.i + 3)), off, off + x.t.size⟩
def declsD (ts : List Tk) : List Dl → Nat → Nat → Nat → List Dc
  | [], _, _, _ => []
  | x :: r, off, a, b => if x.kind = 0 then dcIn ts x a :: declsD ts r off (a + 1) b else dcEq ts x b off :: declsD ts r (off + x.t.size) a (b + 1)

def insN (l : List Dc) : Nat := (l.filter fun d => d.kind == 0).length
theorem sameSort_ins (d : Dc) (l : List Dc) (h : d.kind = 0) : sameSort d l = insN l := by
  unfold sameSort insN; rw [h]; congr 1; apply List.filter_congr; intro a _; simp

section
variable {ts : List Tk} (ht : TsOk ts) (hF : ∀ i, TkF (tkAt ts i))
include ht hF

omit ht in
theorem Ans.name {n : Nat} {X : List UInt8} {d : Int} {i : Nat} {r : Int} (hi : i < ts.length) (hX : X.length ≤ 99) (h : (tkAt ts i).kind = 1) (hn : Ans ts n X d (i + 1) r) : Ans ts (n + 1) (97 :: X) d i r := by
  have hl : leafT (tkAt ts i) = true := by unfold leafT; rw [h]; simp
  obtain ⟨_, _, a, b⟩ := leaf_ne2 hF hl
  refine Ans.use hi hX (by decide) (m := []) ?_ a b hn
  have := c97 (tkAt ts i)
  unfold ruleF
  rw [if_neg (by decide), if_pos (by decide), this, h]; rfl
omit ht hF in
theorem Ans.noname {X : List UInt8} {d : Int} {i : Nat} (hi : i < ts.length) (hX : X.length ≤ 99) (h : (tkAt ts i).kind ≠ 1) : Ans ts 0 (97 :: X) d i ((tkAt ts i).pos : Int) := by
  refine Ans.fail 0 _ X d i hi hX (fun h => absurd h.1 (by decide)) ?_
  have := c97 (tkAt ts i)
  unfold ruleF
  rw [if_neg (by decide), if_pos (by decide), this]; simpa using h
omit ht in
theorem rule84 (i : Nat) (d : Int) : ruleF 84 (rtok (tkAt ts i)) d = ([], true, lAt ts i == kAt) := by
  unfold ruleF
  rw [if_neg (by decide), if_neg (by decide), if_pos (by decide), (hF i).eq (by decide)]
omit ht in
theorem Ans.isAt {n : Nat} {X : List UInt8} {d : Int} {i : Nat} {r : Int} (hi : i < ts.length) (hX : X.length ≤ 99) (h : lAt ts i = kAt) (hn : Ans ts n X d (i + 1) r) : Ans ts (n + 1) (84 :: X) d i r :=
  Ans.use hi hX (by decide) (m := []) (by have := rule84 hF i d; rw [h] at this; exact this) (by rw [h]; decide) (by rw [h]; decide) hn
omit ht in
theorem Ans.noAt {X : List UInt8} {d : Int} {i : Nat} (hi : i < ts.length) (hX : X.length ≤ 99) (h : lAt ts i ≠ kAt) : Ans ts 0 (84 :: X) d i ((tkAt ts i).pos : Int) :=
  Ans.fail 0 _ X d i hi hX (fun h => absurd h.1 (by decide)) (by
    show (ruleF 84 (rtok (tkAt ts i)) d).2.2 = false
    rw [rule84 hF]; simpa using h)
omit ht hF in
theorem rule81 (i : Nat) (d : Int) : (ruleF 81 (rtok (tkAt ts i)) d) = ([], true, decide ((tkAt ts i).kind = 3 ∧ valOf (lAt ts i) < 4)) := by
  have := c110 (tkAt ts i)
  unfold ruleF
  rw [if_neg (by decide), if_neg (by decide), if_neg (by decide), if_pos (by decide), this]
  by_cases h : (tkAt ts i).kind = 3
  · rw [rn3 h]; simp [h]
  · simp [h]
omit ht in
theorem Ans.place {n : Nat} {X : List UInt8} {d : Int} {i : Nat} {r : Int} (hi : i < ts.length) (hX : X.length ≤ 99) (h : (tkAt ts i).kind = 3 ∧ valOf (lAt ts i) < 4) (hn : Ans ts n X d (i + 1) r) : Ans ts (n + 1) (81 :: X) d i r := by
  have hl : leafT (tkAt ts i) = true := by unfold leafT litT; rw [h.1]; simp
  obtain ⟨_, _, a, b⟩ := leaf_ne2 hF hl
  exact Ans.use hi hX (by decide) (m := []) (by have := rule81 (ts := ts) i d; rw [decide_eq_true h] at this; exact this) a b hn
omit ht hF in
theorem Ans.noplace {X : List UInt8} {d : Int} {i : Nat} (hi : i < ts.length) (hX : X.length ≤ 99) (h : ¬ ((tkAt ts i).kind = 3 ∧ valOf (lAt ts i) < 4)) : Ans ts 0 (81 :: X) d i ((tkAt ts i).pos : Int) :=
  Ans.fail 0 _ X d i hi hX (fun h => absurd h.1 (by decide)) (by
    show (ruleF 81 (rtok (tkAt ts i)) d).2.2 = false
    rw [rule81]; simp only [decide_eq_false_iff_not]; exact h)
omit ht in
theorem rule80 (i : Nat) (d : Int) : ruleF 80 (rtok (tkAt ts i)) d = if lAt ts i = kIn then ([97, 59, 80], true, true) else ([97, 84, 81, 61, 69, 59, 80], true, lAt ts i == kInt || lAt ts i == kBool) := by
  unfold ruleF
  rw [if_pos (by decide), (hF i).if (by decide), (hF i).eq (by decide), (hF i).eq (by decide)]
omit ht in
theorem Ans.declIn {n : Nat} {i : Nat} {r : Int} (hi : i < ts.length) (h : lAt ts i = kIn) (hn : Ans ts n [97, 59, 80] 0 (i + 1) r) : Ans ts (n + 1) [80] 0 i r := by
  refine Ans.step n 80 [] 0 i r [97, 59, 80] true hi (by simp) (fun hk => (hF i).not0 (by show kwL.contains (lAt ts i) = true; rw [h]; decide) hk.2) ?_ ?_
  · have := rule80 hF i 0
    rw [if_pos h] at this
    exact this
  · rw [if_neg (by rw [h]; decide), if_neg (by rw [h]; decide), if_pos rfl]; exact hn
omit ht in
theorem Ans.declEq {n : Nat} {i : Nat} {r : Int} (hi : i < ts.length) (h : lAt ts i = kInt ∨ lAt ts i = kBool) (hn : Ans ts n [97, 84, 81, 61, 69, 59, 80] 0 (i + 1) r) : Ans ts (n + 1) [80] 0 i r := by
  refine Ans.step n 80 [] 0 i r [97, 84, 81, 61, 69, 59, 80] true hi (by simp) (fun hk => (hF i).not0 (by show kwL.contains (lAt ts i) = true; rcases h with h | h <;> rw [h] <;> decide) hk.2) ?_ ?_
  · have := rule80 hF i 0
    rcases h with h | h
    · rw [if_neg (by rw [h]; decide), h] at this; exact this
    · rw [if_neg (by rw [h]; decide), h] at this; exact this
  · rcases h with h | h
    · rw [if_neg (by rw [h]; decide), if_neg (by rw [h]; decide), if_pos rfl]; exact hn
    · rw [if_neg (by rw [h]; decide), if_neg (by rw [h]; decide), if_pos rfl]; exact hn
omit ht in
theorem Ans.nodecl {i : Nat} (hi : i < ts.length) (h0 : (tkAt ts i).kind ≠ 0) (h1 : lAt ts i ≠ kIn) (h2 : lAt ts i ≠ kInt) (h3 : lAt ts i ≠ kBool) : Ans ts 0 [80] 0 i ((tkAt ts i).pos : Int) := by
  refine Ans.fail 0 80 [] 0 i hi (by simp) (fun hk => h0 hk.2) ?_
  show (ruleF 80 (rtok (tkAt ts i)) 0).2.2 = false
  rw [rule80 hF, if_neg h1]; simp [h2, h3]

end

end Go.Proofs.Ytmndgoapkmhglab

/- Plain mathematics: both readers find the same declarations: the proof. -/
namespace Go.Proofs.Ytmndgoapkmhglab

section
variable {ts : List Tk} (ht : TsOk ts) (hF : ∀ i, TkF (tkAt ts i))
include ht hF

omit hF in
theorem takeY {p : PS} {l : List UInt8} (hl : l ≠ []) (hp : p.next < ts.length) (h : lAt ts p.next = l) : p.take ts l = .ok { p with next := p.next + 1 } ∧ p.next + 1 < ts.length := by
  obtain ⟨ea, hl1⟩ := adv_kw ht (p := p) hp (by rw [h]; exact hl)
  unfold PS.take
  rw [if_pos (show (p.hd ts).l = l from h), ea]
  exact ⟨rfl, hl1⟩
omit ht hF in
theorem takeN {p : PS} {l : List UInt8} (h : lAt ts p.next ≠ l) : p.take ts l = .error p.next := by
  unfold PS.take
  rw [if_neg (show ¬ (p.hd ts).l = l from h)]

/-- what one declaration leaves. -/
def afterD (ts : List Tk) (p : PS) (x : Dl) : PS :=
  { p with next := p.next + x.len, decls := p.decls ++ [if x.kind = 0 then dcIn ts x (insN p.decls) else dcEq ts x (eqsF p.decls).length p.nodes.length], nodes := p.nodes ++ (if x.kind = 0 then [] else flat ts x.t (x.i + 5) 0 p.nodes.length) }

theorem inputA {p : PS} (hp : p.next < ts.length) (h : lAt ts p.next = kIn) :
    (∀ p', inputF ts p = .ok p' → ∃ x : Dl, x.i = p.next ∧ p.next + x.len < ts.length ∧ DlOk ts x ∧ p' = afterD ts p x ∧ ∀ n r, Ans ts n [80] 0 (p.next + x.len) r → ∃ n', Ans ts n' [80] 0 p.next r) ∧
    (∀ k, inputF ts p = .error k → k < ts.length ∧ ∃ n, Ans ts n [80] 0 p.next ((tkAt ts k).pos : Int)) := by
  obtain ⟨ea, hl1⟩ := adv_kw ht (p := p) hp (by rw [h]; decide)
  unfold inputF
  rw [ea]
  have hh : PS.hd ts { p with next := p.next + 1 } = tkAt ts (p.next + 1) := rfl
  rw [hh]
  by_cases hk : (tkAt ts (p.next + 1)).kind = 1
  · rw [if_pos hk]
    have hne : lAt ts (p.next + 1) ≠ [] := (hF _).pos (by rw [hk]; decide)
    obtain ⟨eb, hl2⟩ := adv_kw ht (p := { p with next := p.next + 1 }) hl1 hne
    rw [eb]
    by_cases hs : lAt ts (p.next + 2) = [59]
    · obtain ⟨e3, hl3⟩ := takeY ht (p := PS.declare { p with next := p.next + 1 + 1 } ⟨0, 0, (tkAt ts (p.next + 1)).text, (tkAt ts (p.next + 1)).pos, 0, 0, 0⟩) (l := [59]) (by decide) hl2 hs
      have hl3' : p.next + 1 + 1 + 1 < ts.length := hl3
      rw [e3]
      refine ⟨fun p' he => ?_, fun k he => (by cases he)⟩
      cases he
      refine ⟨⟨0, p.next, .leaf⟩, rfl, hl3', .inl ⟨rfl, h, hk, hs⟩, ?_, fun n r hA => ⟨n + 1 + 1 + 1, ?_⟩⟩
      · unfold afterD PS.declare
        simp only [Dl.len, if_true, List.append_nil]
        congr 1
        rw [sameSort_ins _ _ rfl, Nat.zero_add]
        rfl
      · exact Ans.declIn hF hp h (Ans.name hF hl1 (by simp) hk (Ans.sign hF 59 (.inl rfl) hl2 (by simp) hs hA))
    · rw [takeN (p := PS.declare { p with next := p.next + 1 + 1 } ⟨0, 0, (tkAt ts (p.next + 1)).text, (tkAt ts (p.next + 1)).pos, 0, 0, 0⟩) (l := [59]) hs]
      refine ⟨fun p' he => (by cases he), fun k he => ?_⟩
      cases he
      exact ⟨hl2, 2, Ans.declIn hF hp h (Ans.name hF hl1 (by simp) hk (Ans.nosign hF 59 (.inl rfl) hl2 (by simp) hs))⟩
  · rw [if_neg hk]
    refine ⟨fun p' he => (by cases he), fun k he => ?_⟩
    cases he
    exact ⟨hl1, 1, Ans.declIn hF hp h (Ans.noname hl1 (by simp) hk)⟩

theorem equationA {p : PS} (kind : Nat) (hp : p.next < ts.length) (hdep : p.depth = 0) (hdl : p.delays = 0) (h : (kind = 1 ∧ lAt ts p.next = kInt) ∨ (kind = 2 ∧ lAt ts p.next = kBool)) :
    (∀ p', equationF ts kind p = .ok p' → ∃ x : Dl, x.i = p.next ∧ p.next + x.len < ts.length ∧ DlOk ts x ∧ p' = afterD ts p x ∧ ∀ n r, Ans ts n [80] 0 (p.next + x.len) r → ∃ n', Ans ts n' [80] 0 p.next r) ∧
    (∀ k, equationF ts kind p = .error k → k < ts.length ∧ ∃ n, Ans ts n [80] 0 p.next ((tkAt ts k).pos : Int)) := by
  have hor : lAt ts p.next = kInt ∨ lAt ts p.next = kBool := h.elim (fun h => .inl h.2) (fun h => .inr h.2)
  have hk0 : kind ≠ 0 := by omega
  obtain ⟨ea, hl1⟩ := adv_kw ht (p := p) hp (by rcases hor with h | h <;> rw [h] <;> decide)
  unfold equationF
  rw [ea]
  have hh : PS.hd ts { p with next := p.next + 1 } = tkAt ts (p.next + 1) := rfl
  rw [hh]
  by_cases hk : (tkAt ts (p.next + 1)).kind = 1
  case neg =>
    rw [if_neg hk]
    refine ⟨fun p' he => (by cases he), fun k he => ?_⟩
    cases he
    exact ⟨hl1, 1, Ans.declEq hF hp hor (Ans.noname hl1 (by simp) hk)⟩
  rw [if_pos hk]
  have hne : lAt ts (p.next + 1) ≠ [] := (hF _).pos (by rw [hk]; decide)
  obtain ⟨eb, hl2⟩ := adv_kw ht (p := { p with next := p.next + 1 }) hl1 hne
  have hl2' : p.next + 2 < ts.length := hl2
  rw [eb]
  by_cases hat : lAt ts (p.next + 2) = kAt
  case neg =>
    rw [takeN (p := { p with next := p.next + 1 + 1 }) (l := kAt) hat]
    refine ⟨fun p' he => (by cases he), fun k he => ?_⟩
    cases he
    exact ⟨hl2, 2, Ans.declEq hF hp hor (Ans.name hF hl1 (by simp) hk (Ans.noAt hF hl2 (by simp) hat))⟩
  obtain ⟨e3, hl3⟩ := takeY ht (p := { p with next := p.next + 1 + 1 }) (l := kAt) (by decide) hl2 hat
  have hl3' : p.next + 3 < ts.length := hl3
  rw [e3]
  simp only
  unfold placeF
  have hh3 : PS.hd ts { p with next := p.next + 1 + 1 + 1 } = tkAt ts (p.next + 3) := rfl
  rw [hh3]
  by_cases hpl : (tkAt ts (p.next + 3)).kind = 3 ∧ valOf (tkAt ts (p.next + 3)).l < 4
  case neg =>
    rw [if_neg hpl]
    refine ⟨fun p' he => (by cases he), fun k he => ?_⟩
    cases he
    exact ⟨hl3, 3, Ans.declEq hF hp hor (Ans.name hF hl1 (by simp) hk (Ans.isAt hF hl2 (by simp) hat (Ans.noplace hl3' (by simp) hpl)))⟩
  rw [if_pos hpl]
  have hne3 : lAt ts (p.next + 3) ≠ [] := (hF _).pos (by rw [hpl.1]; decide)
  obtain ⟨e4, hl4⟩ := adv_kw ht (p := { p with next := p.next + 1 + 1 + 1 }) hl3 hne3
  have hl4' : p.next + 4 < ts.length := hl4
  rw [e4]
  simp only
  by_cases heq : lAt ts (p.next + 4) = [61]
  case neg =>
    rw [takeN (p := { p with next := p.next + 1 + 1 + 1 + 1 }) (l := [61]) heq]
    refine ⟨fun p' he => (by cases he), fun k he => ?_⟩
    cases he
    exact ⟨hl4, 4, Ans.declEq hF hp hor (Ans.name hF hl1 (by simp) hk (Ans.isAt hF hl2 (by simp) hat (Ans.place hF hl3' (by simp) hpl (Ans.nosign hF 61 (.inr (.inl rfl)) hl4' (by simp) heq))))⟩
  obtain ⟨e5, hl5⟩ := takeY ht (p := { p with next := p.next + 1 + 1 + 1 + 1 }) (l := [61]) (by decide) hl4 heq
  have hl5' : p.next + 5 < ts.length := hl5
  rw [e5]
  simp only
  have hx := exprA ht hF 16 0 rfl
  have hcome : ∀ n r, Ans ts n (69 :: [59, 80]) 0 (p.next + 5) r → ∃ n', Ans ts n' [80] 0 p.next r := fun n r hA =>
    ⟨n + 1 + 1 + 1 + 1 + 1, Ans.declEq hF hp hor (Ans.name hF hl1 (by simp) hk (Ans.isAt hF hl2 (by simp) hat (Ans.place hF hl3' (by simp) hpl (Ans.sign hF 61 (.inr rfl) hl4' (by simp) heq hA))))⟩
  generalize hQ : ({ next := p.next + 1 + 1 + 1 + 1 + 1, depth := p.depth, delays := p.delays, decls := p.decls, nodes := p.nodes } : PS) = q
  have q1 : q.next = p.next + 5 := by rw [← hQ]
  have q2 : q.depth = 0 := by rw [← hQ]; exact hdep
  have q3 : q.delays = 0 := by rw [← hQ]; exact hdl
  have q4 : q.nodes = p.nodes := by rw [← hQ]
  have q5 : q.decls = p.decls := by rw [← hQ]
  cases he : exprF ts 16 q with
  | error k =>
    simp only
    obtain ⟨hkl, hA⟩ := hx.bad q k (by rw [q1]; exact hl5') he q2
    refine ⟨fun p' he => (by cases he), fun k he => ?_⟩
    cases he
    obtain ⟨n, hn⟩ := hA [59, 80] (by simp)
    rw [q1] at hn
    exact ⟨hkl, hcome n _ hn⟩
  | ok v =>
    obtain ⟨r0, p4⟩ := v
    simp only
    obtain ⟨t, hs, hl, hr, hp4, hA⟩ := hx.ok q r0 p4 (by rw [q1]; exact hl5') he q2
    rw [q1] at hs hl hA
    have n4 : p4.next = p.next + 5 + t.len := by rw [hp4, q1]
    by_cases hs9 : lAt ts (p.next + 5 + t.len) = [59]
    · obtain ⟨e9, hl9⟩ := takeY ht (p := p4.declare ⟨kind, 0, (tkAt ts (p.next + 1)).text, (tkAt ts (p.next + 1)).pos, valOf (tkAt ts (p.next + 3)).l, r0, p4.nodes.length⟩) (l := [59]) (by decide) (by show p4.next < _; rw [n4]; exact hl) (by show lAt ts p4.next = _; rw [n4]; exact hs9)
      have hl9' : p4.next + 1 < ts.length := hl9
      rw [n4] at hl9'
      rw [e9]
      refine ⟨fun p' he => ?_, fun k he => (by cases he)⟩
      cases he
      refine ⟨⟨kind, p.next, t⟩, rfl, by simp [Dl.len, hk0]; omega, .inr ⟨h, hk, hat, hpl, heq, hs, hs9⟩, ?_, fun n r hA9 => ?_⟩
      · unfold afterD PS.declare
        rw [sameSort_eqs _ _ hk0]
        simp only [Dl.len, if_neg hk0, n4, Nat.zero_add]
        rw [hp4, q2, q3, q4, q5, q1, hr, q4, ← hdep]
        simp only [dcEq, List.length_append, flat_len]
        congr 1
        · omega
        · omega
      · obtain ⟨n2, hn2⟩ := hA [59, 80] (n + 1) r (by simp) (Ans.sign hF 59 (.inl rfl) hl (by simp) hs9 (by
          have e : p.next + 5 + t.len + 1 = p.next + (⟨kind, p.next, t⟩ : Dl).len := by simp [Dl.len, hk0]; omega
          rw [e]; exact hA9))
        exact hcome n2 r hn2
    · rw [takeN (p := p4.declare ⟨kind, 0, (tkAt ts (p.next + 1)).text, (tkAt ts (p.next + 1)).pos, valOf (tkAt ts (p.next + 3)).l, r0, p4.nodes.length⟩) (l := [59]) (by show lAt ts p4.next ≠ _; rw [n4]; exact hs9)]
      refine ⟨fun p' he => (by cases he), fun k he => ?_⟩
      have ek : k = p.next + 5 + t.len := by rw [← n4]; cases he; rfl
      subst ek
      obtain ⟨n2, hn2⟩ := hA [59, 80] 0 ((tkAt ts (p.next + 5 + t.len)).pos : Int) (by simp) (Ans.nosign hF 59 (.inl rfl) hl (by simp) hs9)
      exact ⟨hl, hcome n2 _ hn2⟩

theorem declarationA {p : PS} (hp : p.next < ts.length) (hdep : p.depth = 0) (hdl : p.delays = 0) (h0 : (tkAt ts p.next).kind ≠ 0) :
    (∀ p', declarationF ts p = .ok p' → ∃ x : Dl, x.i = p.next ∧ p.next + x.len < ts.length ∧ DlOk ts x ∧ p' = afterD ts p x ∧ ∀ n r, Ans ts n [80] 0 (p.next + x.len) r → ∃ n', Ans ts n' [80] 0 p.next r) ∧
    (∀ k, declarationF ts p = .error k → k < ts.length ∧ ∃ n, Ans ts n [80] 0 p.next ((tkAt ts k).pos : Int)) := by
  unfold declarationF
  by_cases h1 : lAt ts p.next = kIn
  · rw [if_pos (show (p.hd ts).l = kIn from h1)]; exact inputA ht hF hp h1
  rw [if_neg (show ¬ (p.hd ts).l = kIn from h1)]
  by_cases h2 : lAt ts p.next = kInt
  · rw [if_pos (show (p.hd ts).l = kInt from h2)]; exact equationA ht hF 1 hp hdep hdl (.inl ⟨rfl, h2⟩)
  rw [if_neg (show ¬ (p.hd ts).l = kInt from h2)]
  by_cases h3 : lAt ts p.next = kBool
  · rw [if_pos (show (p.hd ts).l = kBool from h3)]; exact equationA ht hF 2 hp hdep hdl (.inr ⟨rfl, h3⟩)
  rw [if_neg (show ¬ (p.hd ts).l = kBool from h3)]
  refine ⟨fun p' he => (by cases he), fun k he => ?_⟩
  cases he
  exact ⟨hp, 0, Ans.nodecl hF hp h0 h1 h2 h3⟩

theorem declsA : ∀ f (p : PS), ts.length ≤ f + p.next → p.next < ts.length → p.depth = 0 → p.delays = 0 →
    (∀ p', declsF ts f p = .ok p' → ∃ L, Spell ts L p.next ∧ p'.decls = p.decls ++ declsD ts L p.nodes.length (insN p.decls) (eqsF p.decls).length ∧ p'.nodes = p.nodes ++ nodesD ts L p.nodes.length ∧ ∃ n, Ans ts n [80] 0 p.next (-1)) ∧
    (∀ k, declsF ts f p = .error k → k < ts.length ∧ ∃ n, Ans ts n [80] 0 p.next ((tkAt ts k).pos : Int)) := by
  intro f
  induction f with
  | zero => intro p h1 h2; omega
  | succ f ih =>
    intro p hf hp hdep hdl
    unfold declsF
    by_cases h0 : (tkAt ts p.next).kind = 0
    · rw [if_pos (show (p.hd ts).kind = 0 from h0)]
      refine ⟨fun p' he => ?_, fun k he => (by cases he)⟩
      cases he
      exact ⟨[], ⟨hp, h0⟩, by simp [declsD], by simp [nodesD], 0, Ans.done 0 [] 0 p.next hp (by simp) h0⟩
    · rw [if_neg (show ¬ (p.hd ts).kind = 0 from h0)]
      obtain ⟨hok, hbad⟩ := declarationA ht hF hp hdep hdl h0
      cases he : declarationF ts p with
      | error k =>
        refine ⟨fun p' he => (by cases he), fun k' he' => ?_⟩
        cases he'
        exact hbad k he
      | ok q =>
        obtain ⟨x, hxi, hxl, hxo, hq, hA⟩ := hok q he
        simp only
        have hlen : 0 < x.len := by unfold Dl.len; split <;> omega
        have qn : q.next = p.next + x.len := by rw [hq]; rfl
        obtain ⟨ok2, bad2⟩ := ih q (by rw [qn]; omega) (by rw [qn]; exact hxl) (by rw [hq]; exact hdep) (by rw [hq]; exact hdl)
        rw [qn] at ok2 bad2
        refine ⟨fun p' he' => ?_, fun k he' => ?_⟩
        · obtain ⟨L, hL, hd, hn, n, hAn⟩ := ok2 p' he'
          obtain ⟨n2, hn2⟩ := hA n _ hAn
          refine ⟨x :: L, ⟨hxi, hxl, hxo, hL⟩, ?_, ?_, n2, hn2⟩
          · rw [hd, hq]
            simp only [afterD, declsD]
            by_cases hk : x.kind = 0
            · simp only [hk, if_true]
              simp [insN, eqsF, dcIn, List.filter_append]
            · simp only [if_neg hk]
              have hk2 : (x.kind == 0) = false := by simpa using hk
              simp [insN, eqsF, dcEq, List.filter_append, hk, flat_len]
          · rw [hn, hq]
            simp only [afterD, nodesD]
            by_cases hk : x.kind = 0
            · simp only [hk, if_true]; simp
            · simp only [if_neg hk]; simp [flat_len]
        · obtain ⟨hk, n, hAn⟩ := bad2 k he'
          obtain ⟨n2, hn2⟩ := hA n _ hAn
          exact ⟨hk, n2, hn2⟩

end

/-- the text's parts. -/
theorem parseA (s : ByteArray) (hs : s.size ≤ 1500) :
    (∀ p, parseF s = .ok p → ∃ L, Spell (toks s) L 0 ∧ p.decls = declsD (toks s) L 0 0 0 ∧ p.nodes = nodesD (toks s) L 0 ∧ ∃ n, Ans (toks s) n [80] 0 0 (-1)) ∧
    (∀ k, parseF s = .error k → k < (toks s).length ∧ ∃ n, Ans (toks s) n [80] 0 0 ((tkAt (toks s) k).pos : Int)) := by
  have ht := toks_ok s hs
  have h := declsA ht (toks_F s) (toks s).length pZero (by simp) ht.pos rfl rfl
  refine ⟨fun p hp => ?_, fun k hk => h.2 k hk⟩
  obtain ⟨L, h1, h2, h3, h4⟩ := h.1 p hp
  exact ⟨L, h1, by rw [h2]; rfl, by rw [h3]; rfl, h4⟩

end Go.Proofs.Ytmndgoapkmhglab

/- Plain mathematics: what the document's own reader looks up in the tokens. -/
namespace Go.Proofs.Ytmndgoapkmhglab

def dstep (ts : List Tk) (k : Nat) (d : Int) : Int := if lAt ts k = [40] then d + 1 else if lAt ts k = [41] then d - 1 else d
def bhF (ts : List Tk) : Nat → Nat → Int → Nat
  | 0, _, _ => ts.length
  | f + 1, k, d => if dstep ts k d ≤ 0 then k + 1 else bhF ts f (k + 1) (dstep ts k d)
/-- the token behind the expression that begins at i. -/
def behindF (ts : List Tk) (i : Nat) : Nat := bhF ts (ts.length - i) i 0

theorem bhF_le (ts : List Tk) : ∀ f k d, f + k = ts.length → bhF ts f k d ≤ ts.length := by
  intro f
  induction f with
  | zero => intro k d _; exact Nat.le_refl _
  | succ f ih =>
    intro k d h
    unfold bhF
    split
    · omega
    · exact ih _ _ (by omega)
theorem behindF_le (ts : List Tk) (i : Nat) (h : i ≤ ts.length) : behindF ts i ≤ ts.length := bhF_le ts _ _ _ (by omega)

theorem bhF_gt (ts : List Tk) : ∀ f k d, f + k = ts.length → k < ts.length → k < bhF ts f k d := by
  intro f
  induction f with
  | zero => intro k d h hk; exact hk
  | succ f ih =>
    intro k d h hk
    unfold bhF
    split
    · omega
    · by_cases h1 : k + 1 < ts.length
      · have := ih (k + 1) (dstep ts k d) (by omega) h1; omega
      · have : f = 0 := by omega
        subst this
        exact hk
theorem behindF_gt (ts : List Tk) (i : Nat) (h : i < ts.length) : i < behindF ts i := bhF_gt ts _ _ _ (by omega) h

section
variable {ts : List Tk} (hF : ∀ i, TkF (tkAt ts i))
include hF

omit hF in
/-- no bracket: the count stays. -/
theorem bh_pass {f k : Nat} {d : Int} (h1 : lAt ts k ≠ [40]) (h2 : lAt ts k ≠ [41]) (hd : 0 < d) : bhF ts (f + 1) k d = bhF ts f (k + 1) d := by
  have : dstep ts k d = d := by unfold dstep; rw [if_neg h1, if_neg h2]
  simp only [bhF, this]
  rw [if_neg (by omega)]
omit hF in
theorem bh_open {f k : Nat} {d : Int} (h1 : lAt ts k = [40]) (hd : 0 ≤ d) : bhF ts (f + 1) k d = bhF ts f (k + 1) (d + 1) := by
  have : dstep ts k d = d + 1 := by unfold dstep; rw [if_pos h1]
  simp only [bhF, this]
  rw [if_neg (by omega)]
omit hF in
theorem bh_close {f k : Nat} {d : Int} (h1 : lAt ts k = [41]) (hd : 0 < d) : bhF ts (f + 1) k (d + 1) = bhF ts f (k + 1) d := by
  have : dstep ts k (d + 1) = d := by unfold dstep; rw [if_neg (by rw [h1]; decide), if_pos h1]; omega
  simp only [bhF, this]
  rw [if_neg (by omega)]

/-- within brackets an expression is passed over; its brackets, but for the last. -/
theorem bh_over : ∀ (t : Ast) (i f : Nat) (d : Int), Sp ts t i → 0 < d → bhF ts (f + t.len) i d = bhF ts f (i + t.len) d := by
  intro t
  induction t with
  | leaf =>
    intro i f d hs hd
    obtain ⟨_, _, a, b⟩ := leaf_ne2 hF hs.1
    exact bh_pass a b hd
  | neg a iha =>
    intro i f d hs hd
    obtain ⟨h1, h2, h3, h4⟩ := hs
    have e : f + (Ast.neg a).len = (f + 1) + a.len + 1 + 1 := by simp [Ast.len]; omega
    rw [e, bh_open h1 (by omega), bh_pass (by rw [h2]; decide) (by rw [h2]; decide) (by omega), iha (i + 1 + 1) (f + 1) _ h3 (by omega), bh_close (by rw [← h4]) hd]
    congr 1; simp [Ast.len]; omega
  | ite a b c iha ihb ihc =>
    intro i f d hs hd
    obtain ⟨h1, h2, h3, h4, h5, h6⟩ := hs
    have e : f + (Ast.ite a b c).len = (f + 1) + c.len + b.len + a.len + 1 + 1 := by simp [Ast.len]; omega
    rw [e, bh_open h1 (by omega), bh_pass (by rw [h2]; decide) (by rw [h2]; decide) (by omega), iha (i + 1 + 1) _ _ h3 (by omega), ihb (i + 1 + 1 + a.len) _ _ h4 (by omega), ihc (i + 1 + 1 + a.len + b.len) _ _ h5 (by omega), bh_close (by rw [← h6]) hd]
    congr 1; simp [Ast.len]; omega
  | dly b ihb =>
    intro i f d hs hd
    obtain ⟨h1, h2, h3, h4, h5⟩ := hs
    obtain ⟨_, _, x, y⟩ := leaf_ne2 hF (i := i + 1) (by unfold leafT; rw [h2]; rfl)
    have e : f + (Ast.dly b).len = (f + 1) + b.len + 1 + 1 + 1 := by simp [Ast.len]; omega
    rw [e, bh_open h1 (by omega), bh_pass x y (by omega), bh_pass (by rw [h3]; decide) (by rw [h3]; decide) (by omega), ihb (i + 1 + 1 + 1) (f + 1) _ h4 (by omega), bh_close (by rw [← h5]) hd]
    congr 1; simp [Ast.len]; omega
  | bin a b iha ihb =>
    intro i f d hs hd
    obtain ⟨h1, h2, h3, h4, h5⟩ := hs
    obtain ⟨x, y, _, _⟩ := op_ne h3
    have e : f + (Ast.bin a b).len = (f + 1) + b.len + 1 + a.len + 1 := by simp [Ast.len]; omega
    have e2 : i + 1 + a.len + 1 = i + 2 + a.len := by omega
    rw [e, bh_open h1 (by omega), iha (i + 1) _ _ h2 (by omega), bh_pass x y (by omega), e2, ihb (i + 2 + a.len) (f + 1) _ h4 (by omega), bh_close (by rw [← h5]) hd]
    congr 1; simp [Ast.len]; omega

/-- an expression ends where its last token does. -/
theorem behind_sp (t : Ast) (i : Nat) (hs : Sp ts t i) (hi : i + t.len ≤ ts.length) : behindF ts i = i + t.len := by
  have hlast : ∀ f k, lAt ts k = [41] → bhF ts (f + 1) k 1 = k + 1 := by
    intro f k h
    have : dstep ts k 1 = 0 := by unfold dstep; rw [if_neg (by rw [h]; decide), if_pos h]; omega
    simp only [bhF, this]
    rw [if_pos (by omega)]
  unfold behindF
  cases t with
  | leaf =>
    obtain ⟨_, _, a, b⟩ := leaf_ne2 hF hs.1
    have hl : (Ast.leaf).len = 1 := rfl
    rw [hl] at hi ⊢
    have e : ts.length - i = (ts.length - i - 1) + 1 := by omega
    have : dstep ts i 0 = 0 := by unfold dstep; rw [if_neg a, if_neg b]
    rw [e]
    simp only [bhF, this]
    rw [if_pos (by omega)]
  | neg a =>
    obtain ⟨h1, h2, h3, h4⟩ := hs
    have hl : (Ast.neg a).len = a.len + 3 := rfl
    rw [hl] at hi ⊢
    have e : ts.length - i = (ts.length - i - (a.len + 3)) + 1 + a.len + 1 + 1 := by omega
    rw [e, bh_open h1 (by omega), bh_pass (by rw [h2]; decide) (by rw [h2]; decide) (by omega), bh_over hF a (i + 1 + 1) _ _ h3 (by omega)]
    have := hlast (ts.length - i - (a.len + 3)) (i + 1 + 1 + a.len) h4
    rw [show (0 : Int) + 1 = 1 by omega, this]; omega
  | ite a b c =>
    obtain ⟨h1, h2, h3, h4, h5, h6⟩ := hs
    have hl : (Ast.ite a b c).len = a.len + b.len + c.len + 3 := rfl
    rw [hl] at hi ⊢
    have e : ts.length - i = (ts.length - i - (a.len + b.len + c.len + 3)) + 1 + c.len + b.len + a.len + 1 + 1 := by omega
    rw [e, bh_open h1 (by omega), bh_pass (by rw [h2]; decide) (by rw [h2]; decide) (by omega), bh_over hF a (i + 1 + 1) _ _ h3 (by omega), bh_over hF b (i + 1 + 1 + a.len) _ _ h4 (by omega), bh_over hF c (i + 1 + 1 + a.len + b.len) _ _ h5 (by omega)]
    have := hlast (ts.length - i - (a.len + b.len + c.len + 3)) (i + 1 + 1 + a.len + b.len + c.len) h6
    rw [show (0 : Int) + 1 = 1 by omega, this]; omega
  | dly b =>
    obtain ⟨h1, h2, h3, h4, h5⟩ := hs
    obtain ⟨_, _, x, y⟩ := leaf_ne2 hF (i := i + 1) (by unfold leafT; rw [h2]; rfl)
    have hl : (Ast.dly b).len = b.len + 4 := rfl
    rw [hl] at hi ⊢
    have e : ts.length - i = (ts.length - i - (b.len + 4)) + 1 + b.len + 1 + 1 + 1 := by omega
    rw [e, bh_open h1 (by omega), bh_pass x y (by omega), bh_pass (by rw [h3]; decide) (by rw [h3]; decide) (by omega), bh_over hF b (i + 1 + 1 + 1) _ _ h4 (by omega)]
    have := hlast (ts.length - i - (b.len + 4)) (i + 1 + 1 + 1 + b.len) h5
    rw [show (0 : Int) + 1 = 1 by omega, this]; omega
  | bin a b =>
    obtain ⟨h1, h2, h3, h4, h5⟩ := hs
    obtain ⟨x, y, _, _⟩ := op_ne h3
    have hl : (Ast.bin a b).len = a.len + b.len + 3 := rfl
    rw [hl] at hi ⊢
    have e : ts.length - i = (ts.length - i - (a.len + b.len + 3)) + 1 + b.len + 1 + a.len + 1 := by omega
    have e2 : i + 1 + a.len + 1 = i + 2 + a.len := by omega
    rw [e, bh_open h1 (by omega), bh_over hF a (i + 1) _ _ h2 (by omega), bh_pass x y (by omega), e2, bh_over hF b (i + 2 + a.len) _ _ h4 (by omega)]
    have := hlast (ts.length - i - (a.len + b.len + 3)) (i + 2 + a.len + b.len) h5
    rw [show (0 : Int) + 1 = 1 by omega, this]; omega

end

/-- the names of an expression: where each stands, and whether behind a delay. -/
def nmD (ts : List Tk) : Ast → Nat → Bool → List (Nat × Bool)
  | .leaf, i, dl => if (tkAt ts i).kind = 1 then [(i, dl)] else []
  | .neg a, i, dl => nmD ts a (i + 2) dl
  | .ite a b c, i, dl => nmD ts a (i + 2) dl ++ (nmD ts b (i + 2 + a.len) dl ++ nmD ts c (i + 2 + a.len + b.len) dl)
  | .dly b, i, _ => nmD ts b (i + 3) true
  | .bin a b, i, dl => nmD ts a (i + 1) dl ++ nmD ts b (i + 2 + a.len) dl

def isNm (ts : List Tk) (k : Nat) : Bool := (tkAt ts k).kind == 1

section
variable {ts : List Tk} (hF : ∀ i, TkF (tkAt ts i))
include hF

theorem kw_nm {i : Nat} (h : kwL.contains (lAt ts i) = true) : isNm ts i = false := by
  unfold isNm; rw [beq_eq_false_iff_ne]; exact (hF i).not1 h
theorem lit_nm {i : Nat} (h : litT (tkAt ts i) = true) : isNm ts i = false := by
  unfold litT at h
  simp only [Bool.or_eq_true, beq_iff_eq] at h
  rcases h with (h | h) | h
  · unfold isNm; rw [h]; rfl
  · exact kw_nm hF (by show kwL.contains (tkAt ts i).l = true; rw [h]; decide)
  · exact kw_nm hF (by show kwL.contains (tkAt ts i).l = true; rw [h]; decide)
omit hF in
theorem op_kw {l : List UInt8} (h : (opOf l).isSome = true) : kwL.contains l = true := by
  unfold opOf at h
  split at h; · rename_i e; rw [e]; decide
  split at h; · rename_i e; rw [e]; decide
  split at h; · rename_i e; rw [e]; decide
  split at h; · rename_i e; rw [e]; decide
  split at h; · rename_i e; rw [e]; decide
  split at h; · rename_i e; rw [e]; decide
  split at h; · rename_i e; rw [e]; decide
  split at h; · rename_i e; rw [e]; decide
  · cases h

omit hF in
theorem range_split (i a b : Nat) : List.range' i (a + b) = List.range' i a ++ List.range' (i + a) b := by
  rw [← List.range'_append_1]

/-- the names are the tokens that are names. -/
theorem nm_filter : ∀ (t : Ast) (i : Nat) (dl : Bool), Sp ts t i → (List.range' i t.len).filter (isNm ts) = (nmD ts t i dl).map Prod.fst := by
  have one : ∀ i, isNm ts i = false → (List.range' i 1).filter (isNm ts) = [] := by
    intro i h; simp [List.range', h]
  intro t
  induction t with
  | leaf =>
    intro i dl hs
    simp only [nmD, Ast.len, List.range']
    by_cases h : (tkAt ts i).kind = 1
    · rw [if_pos h]; simp [isNm, h]
    · rw [if_neg h]; simp [isNm, h]
  | neg a iha =>
    intro i dl hs
    obtain ⟨h1, h2, h3, h4⟩ := hs
    have e : (Ast.neg a).len = 1 + (1 + (a.len + 1)) := by simp [Ast.len]; omega
    rw [e, range_split, range_split, range_split, List.filter_append, List.filter_append, List.filter_append, one _ (kw_nm hF (by rw [h1]; decide)), one _ (kw_nm hF (by rw [h2]; decide)), show i + 1 + 1 = i + 2 by omega, iha (i + 2) dl h3, one _ (kw_nm hF (by rw [h4]; decide))]
    simp [nmD]
  | ite a b c iha ihb ihc =>
    intro i dl hs
    obtain ⟨h1, h2, h3, h4, h5, h6⟩ := hs
    have e : (Ast.ite a b c).len = 1 + (1 + (a.len + (b.len + (c.len + 1)))) := by simp [Ast.len]; omega
    rw [e, range_split, range_split, range_split, range_split, range_split, List.filter_append, List.filter_append, List.filter_append, List.filter_append, List.filter_append, one _ (kw_nm hF (by rw [h1]; decide)), one _ (kw_nm hF (by rw [h2]; decide)), show i + 1 + 1 = i + 2 by omega, iha (i + 2) dl h3, ihb _ dl h4, ihc _ dl h5, one _ (kw_nm hF (by rw [h6]; decide))]
    simp [nmD]
  | dly b ihb =>
    intro i dl hs
    obtain ⟨h1, h2, h3, h4, h5⟩ := hs
    have e : (Ast.dly b).len = 1 + (1 + (1 + (b.len + 1))) := by simp [Ast.len]; omega
    rw [e, range_split, range_split, range_split, range_split, List.filter_append, List.filter_append, List.filter_append, List.filter_append, one _ (kw_nm hF (by rw [h1]; decide)), one _ (lit_nm hF h2), show i + 1 + 1 = i + 2 by omega, one _ (kw_nm hF (by rw [h3]; decide)), show i + 2 + 1 = i + 3 by omega, ihb (i + 3) true h4, one _ (kw_nm hF (by rw [h5]; decide))]
    simp [nmD]
  | bin a b iha ihb =>
    intro i dl hs
    obtain ⟨h1, h2, h3, h4, h5⟩ := hs
    have e : (Ast.bin a b).len = 1 + (a.len + (1 + (b.len + 1))) := by simp [Ast.len]; omega
    rw [e, range_split, range_split, range_split, range_split, List.filter_append, List.filter_append, List.filter_append, List.filter_append, one _ (kw_nm hF (by rw [h1]; decide)), iha (i + 1) dl h2, one _ (kw_nm hF (op_kw h3)), show i + 1 + a.len + 1 = i + 2 + a.len by omega, ihb _ dl h4, one _ (kw_nm hF (by rw [h5]; decide))]
    simp [nmD]

/-- a name's node. -/
def nmNd (ts : List Tk) (x : Nat × Bool) : Nd := { mkN ts x.1 (if x.2 then 1 else 0) { ndZero with kind := 2, name := (tkAt ts x.1).text } with delayed := x.2 }

omit hF in
theorem mkN_kind (i dl : Nat) (n : Nd) : (mkN ts i dl n).kind = n.kind := rfl

omit hF in
theorem leafN0_name {t : Tk} (h : TkF t) (hk : t.kind = 1) : leafN0 t = { ndZero with kind := 2, name := t.text } := by
  have hn : ∀ l, kwL.contains l = true → t.l ≠ l := fun l hl e => by have := h.k1 hk; rw [e, hl] at this; cases this
  unfold leafN0
  rw [if_neg (hn _ (by decide)), if_neg (hn _ (by decide)), if_neg (by rw [hk]; decide)]
omit hF in
theorem leafN0_no {t : Tk} (h : leafT t = true) (hk : t.kind ≠ 1) : (leafN0 t).kind ≠ 2 := by
  unfold leafN0
  split; · simp
  split; · simp
  split; · simp
  · rename_i h1 h2 h3
    unfold leafT litT at h
    simp [h1, h2, h3, hk] at h

theorem flat_names : ∀ (t : Ast) (i dl off : Nat), Sp ts t i → (flat ts t i dl off).filter (fun n => n.kind == 2) = (nmD ts t i (decide (0 < dl))).map (nmNd ts) := by
  intro t
  induction t with
  | leaf =>
    intro i dl off hs
    simp only [flat, nmD]
    by_cases h : (tkAt ts i).kind = 1
    · rw [if_pos h, leafN0_name (hF i) h]
      simp [mkN, nmNd]
    · rw [if_neg h]
      have := leafN0_no hs.1 h
      simp [mkN, this]
  | neg a iha =>
    intro i dl off hs
    obtain ⟨h1, h2, h3, h4⟩ := hs
    simp only [flat, nmD]
    rw [List.filter_cons_of_neg (by simp [mkN]), iha _ _ _ h3]
  | ite a b c iha ihb ihc =>
    intro i dl off hs
    obtain ⟨h1, h2, h3, h4, h5, h6⟩ := hs
    simp only [flat, nmD]
    rw [List.filter_cons_of_neg (by simp [mkN]), List.filter_append, List.filter_append, iha _ _ _ h3, ihb _ _ _ h4, ihc _ _ _ h5, List.map_append, List.map_append]
  | dly b ihb =>
    intro i dl off hs
    obtain ⟨h1, h2, h3, h4, h5⟩ := hs
    have hk : (tkAt ts (i + 1)).kind ≠ 1 := by have := lit_nm hF h2; unfold isNm at this; simpa using this
    have := leafN0_no (t := tkAt ts (i + 1)) (by unfold leafT; rw [h2]; rfl) hk
    simp only [flat, nmD]
    rw [List.filter_cons_of_neg (by simp [mkN]), List.filter_cons_of_neg (by simp [mkN, this]), ihb _ _ _ h4, show decide (0 < dl + 1) = true by simp]
  | bin a b iha ihb =>
    intro i dl off hs
    obtain ⟨h1, h2, h3, h4, h5⟩ := hs
    simp only [flat, nmD]
    rw [List.filter_cons_of_neg (by simp [mkN]), List.filter_append, iha _ _ _ h2, ihb _ _ _ h4, List.map_append]

end

end Go.Proofs.Ytmndgoapkmhglab

/- Plain mathematics: too many declarations, and names: both readers find the same. -/
namespace Go.Proofs.Ytmndgoapkmhglab

theorem spell_mem {ts : List Tk} : ∀ (L : List Dl) (i : Nat), Spell ts L i → ∀ y ∈ L, i ≤ y.i ∧ y.i + y.len < ts.length ∧ DlOk ts y := by
  intro L
  induction L with
  | nil => intro i _ y hy; simp at hy
  | cons x r ih =>
    intro i h y hy
    obtain ⟨h1, h2, h3, h4⟩ := h
    rcases List.mem_cons.1 hy with rfl | hy
    · exact ⟨by omega, by omega, h3⟩
    · have := ih _ h4 y hy; exact ⟨by omega, this.2⟩
theorem Dl.len_pos (x : Dl) : 3 ≤ x.len := by unfold Dl.len; split <;> omega
theorem spell_mid {ts : List Tk} {x : Dl} {L2 : List Dl} : ∀ (L1 : List Dl) (i : Nat), Spell ts (L1 ++ x :: L2) i → (∀ y ∈ L1, y.i + y.len ≤ x.i) ∧ (∀ y ∈ L2, x.i + x.len ≤ y.i) ∧ i ≤ x.i ∧ x.i + x.len < ts.length ∧ DlOk ts x ∧ Spell ts L2 (x.i + x.len) := by
  intro L1
  induction L1 with
  | nil =>
    intro i h
    obtain ⟨h1, h2, h3, h4⟩ := h
    rw [← h1] at h2 h4
    exact ⟨fun y hy => by simp at hy, fun y hy => (spell_mem _ _ h4 y hy).1, by omega, h2, h3, h4⟩
  | cons z L1 ih =>
    intro i h
    obtain ⟨h1, h2, h3, h4⟩ := h
    obtain ⟨a, b, c, d⟩ := ih _ h4
    refine ⟨fun y hy => ?_, b, by omega, d⟩
    rcases List.mem_cons.1 hy with rfl | hy
    · omega
    · exact a y hy

def eqL (L : List Dl) : List Dl := L.filter fun x => x.kind != 0
def inL (L : List Dl) : List Dl := L.filter fun x => x.kind == 0
def posD (ts : List Tk) (x : Dl) : Nat := (tkAt ts (x.i + 1)).pos
def nameD (ts : List Tk) (x : Dl) : ByteArray := (tkAt ts (x.i + 1)).text

/-- the lesser of two. -/
def less : Option Nat → Option Nat → Option Nat
  | none, k => k
  | some a, none => some a
  | some a, some b => some (if b < a then b else a)
def manyR (ts : List Tk) (L : List Dl) : Option Nat := less (((eqL L)[12]?).map (posD ts)) (((inL L)[4]?).map (posD ts))

theorem less_left {a : Nat} {o : Option Nat} (h : ∀ b, o = some b → a < b) : less (some a) o = some a := by
  cases o with
  | none => rfl
  | some b => have := h b rfl; simp only [less]; rw [if_neg (by omega)]
theorem less_right {b : Nat} {o : Option Nat} (h : ∀ a, o = some a → b < a) : less o (some b) = some b := by
  cases o with
  | none => rfl
  | some a => have := h a rfl; simp only [less]; rw [if_pos this]

/-- tokens stand one behind the other. -/
def PosLt (ts : List Tk) : Prop := ∀ i j, i < j → j < ts.length → (tkAt ts i).pos < (tkAt ts j).pos

theorem many_eq {ts : List Tk} (hP : PosLt ts) : ∀ (L : List Dl) (i off a b : Nat), Spell ts L i → a ≤ 4 → b ≤ 12 →
    tooManyF (declsD ts L off a b) = less (((eqL L)[12 - b]?).map (posD ts)) (((inL L)[4 - a]?).map (posD ts)) := by
  intro L
  induction L with
  | nil => intro i off a b _ _ _; simp [declsD, tooManyF, eqL, inL, less]
  | cons x r ih =>
    intro i off a b h ha hb
    obtain ⟨h1, h2, h3, h4⟩ := h
    have hx := Dl.len_pos x
    have hlt : ∀ (l : List Dl) (k : Nat), (∀ y ∈ l, y ∈ r) → ∀ c, (l[k]?).map (posD ts) = some c → posD ts x < c := by
      intro l k hl c hc
      rw [Option.map_eq_some_iff] at hc
      obtain ⟨y, hy, rfl⟩ := hc
      have hm := spell_mem _ _ h4 y (hl y (List.mem_of_getElem? hy))
      have := Dl.len_pos y
      exact hP _ _ (by omega) (by omega)
    by_cases hk : x.kind = 0
    · have e1 : inL (x :: r) = x :: inL r := by simp [inL, hk]
      have e2 : eqL (x :: r) = eqL r := by simp [eqL, hk]
      simp only [declsD, if_pos hk, tooManyF]
      have em : most (dcIn ts x a) = 4 := by simp [most, dcIn]
      rw [em, e1, e2]
      by_cases h4a : 4 ≤ a
      · have : a = 4 := by omega
        subst this
        rw [if_pos (show 4 ≤ (dcIn ts x 4).number from Nat.le_refl _)]
        rw [show 4 - 4 = 0 by omega, List.getElem?_cons_zero, Option.map_some, less_right (hlt (eqL r) (12 - b) (fun y hy => (List.mem_filter.1 hy).1))]
        rfl
      · rw [if_neg (show ¬ 4 ≤ (dcIn ts x a).number from h4a), ih _ off (a + 1) b h4 (by omega) hb, show 4 - a = (4 - (a + 1)) + 1 by omega, List.getElem?_cons_succ]
    · have e1 : inL (x :: r) = inL r := by simp [inL, hk]
      have e2 : eqL (x :: r) = x :: eqL r := by simp [eqL, hk]
      simp only [declsD, if_neg hk, tooManyF]
      have em : most (dcEq ts x b off) = 12 := by simp [most, dcEq, hk]
      rw [em, e1, e2]
      by_cases h12 : 12 ≤ b
      · have : b = 12 := by omega
        subst this
        rw [if_pos (show 12 ≤ (dcEq ts x 12 off).number from Nat.le_refl _)]
        rw [show 12 - 12 = 0 by omega, List.getElem?_cons_zero, Option.map_some, less_left (hlt (inL r) (4 - a) (fun y hy => (List.mem_filter.1 hy).1))]
        rfl
      · rw [if_neg (show ¬ 12 ≤ (dcEq ts x b off).number from h12), ih _ _ a (b + 1) h4 ha (by omega), show 12 - b = (12 - (b + 1)) + 1 by omega, List.getElem?_cons_succ]

/-- names. -/
def hereR (L : List Dl) (k : Nat) : Bool := L.any fun x => x.i + 1 == k
def someR (ts : List Tk) (L : List Dl) (k : Nat) : Bool := L.any fun x => (nameD ts x).data.toList == lAt ts k
def aheadR (ts : List Tk) (L : List Dl) (k : Nat) : Bool := L.any fun x => (nameD ts x).data.toList == lAt ts k && decide (x.i + 1 < k)
def qNm (ts : List Tk) (L : List Dl) (k : Nat) : Bool := (hereR L k && aheadR ts L k) || !someR ts L k
def badNm (ts : List Tk) (L : List Dl) (k : Nat) : Bool := isNm ts k && qNm ts L k
def namesR (ts : List Tk) (L : List Dl) : Option Nat := ((List.range' 0 ts.length).find? (badNm ts L)).map fun k => (tkAt ts k).pos

theorem any_congr_mem {α : Type} {p q : α → Bool} : ∀ {l : List α}, (∀ x ∈ l, p x = q x) → l.any p = l.any q := by
  intro l
  induction l with
  | nil => intro _; rfl
  | cons x l ih =>
    intro h
    rw [List.any_cons, List.any_cons, h x (List.mem_cons_self ..), ih (fun y hy => h y (List.mem_cons_of_mem _ hy))]

theorem badNode_find : ∀ l : List Nd, badNodeF l = ((l.filter fun n => n.kind == 2).find? fun n => decide (n.decl < 0)).map Nd.pos := by
  intro l
  induction l with
  | nil => rfl
  | cons n l ih =>
    unfold badNodeF
    by_cases hk : n.kind = 2
    · rw [List.filter_cons_of_pos (by simp [hk])]
      by_cases hd : n.decl < 0
      · rw [if_pos ⟨hk, hd⟩, List.find?_cons_of_pos (by simpa using hd)]; rfl
      · rw [if_neg (fun h => hd h.2), List.find?_cons_of_neg (by simpa using hd), ih]
    · rw [if_neg (fun h => hk h.1), List.filter_cons_of_neg (by simp [hk]), ih]

theorem findF_neg (l : List Dc) (name : ByteArray) : findF l name < 0 ↔ (l.any fun d => d.name.data.toList == name.data.toList) = false := by
  unfold findF
  split
  · rename_i i h
    rw [List.findIdx?_eq_some_iff_getElem] at h
    obtain ⟨h1, h2, _⟩ := h
    constructor
    · intro h; omega
    · intro h
      rw [List.any_eq_false] at h
      exact absurd h2 (h _ (List.getElem_mem h1))
  · rename_i h
    rw [List.findIdx?_eq_none_iff] at h
    constructor
    · intro _
      rw [List.any_eq_false]
      intro d hd
      have := h d hd
      rw [this]; simp
    · intro _; omega

theorem findF_own (l1 : List Dc) (d : Dc) (l2 : List Dc) : findF (l1 ++ d :: l2) d.name ≠ (l1.length : Int) ↔ (l1.any fun e => e.name.data.toList == d.name.data.toList) = true := by
  constructor
  · intro h
    cases ha : (l1.any fun e => e.name.data.toList == d.name.data.toList) with
    | true => rfl
    | false =>
      exfalso
      apply h
      refine findF_hit _ _ l1.length (by simp) ?_ ?_
      · rw [List.getElem_append_right (Nat.le_refl _)]; simp
      · intro j hj
        rw [List.getElem_append_left hj]
        rw [List.any_eq_false] at ha
        have := ha _ (List.getElem_mem hj)
        simpa using this
  · intro h
    rw [List.any_eq_true] at h
    obtain ⟨e, he, h2⟩ := h
    obtain ⟨j, hj, rfl⟩ := List.getElem_of_mem he
    unfold findF
    split
    · rename_i i hi
      rw [List.findIdx?_eq_some_iff_getElem] at hi
      obtain ⟨g1, g2, g3⟩ := hi
      intro e
      have ei : i = l1.length := by omega
      have := g3 j (by omega)
      rw [List.getElem_append_left hj] at this
      exact this h2
    · omega

theorem declsD_names (ts : List Tk) : ∀ (L : List Dl) (off a b : Nat), (declsD ts L off a b).map Dc.name = L.map (nameD ts) := by
  intro L
  induction L with
  | nil => intro off a b; rfl
  | cons x r ih =>
    intro off a b
    simp only [declsD]
    split
    · rw [List.map_cons, ih]; rfl
    · rw [List.map_cons, ih]; rfl

theorem any_names {l : List Dc} {L : List Dl} {ts : List Tk} (h : l.map Dc.name = L.map (nameD ts)) (w : List UInt8) : (l.any fun d => d.name.data.toList == w) = L.any fun x => (nameD ts x).data.toList == w := by
  have e1 : (l.any fun d => d.name.data.toList == w) = (l.map Dc.name).any fun n => n.data.toList == w := by rw [List.any_map]; rfl
  have e2 : (L.any fun x => (nameD ts x).data.toList == w) = (L.map (nameD ts)).any fun n => n.data.toList == w := by rw [List.any_map]; rfl
  rw [e1, e2, h]

theorem find_one {p : Nat → Bool} (k : Nat) (h : p k = false) : (List.range' k 1).find? p = none := by simp [List.range', h]
theorem badNm_no {ts : List Tk} {L : List Dl} {k : Nat} (h : isNm ts k = false) : badNm ts L k = false := by unfold badNm; rw [h]; rfl

theorem find_part {ts : List Tk} (hF : ∀ i, TkF (tkAt ts i)) (L : List Dl) (t : Ast) (i : Nat) (hs : Sp ts t i) :
    (List.range' i t.len).find? (badNm ts L) = ((nmD ts t i false).map Prod.fst).find? (qNm ts L) := by
  rw [← nm_filter hF t i false hs, List.find?_filter]
  congr 1
  funext a
  unfold badNm
  cases isNm ts a <;> cases qNm ts L a <;> rfl

theorem find_nodes {ts : List Tk} (all : List Dc) (L : List Dl) (hn : all.map Dc.name = L.map (nameD ts)) : ∀ (l : List (Nat × Bool)), (∀ x ∈ l, hereR L x.1 = false) →
    (((l.map (nmNd ts)).map (bindF all)).find? fun n => decide (n.decl < 0)).map Nd.pos = ((l.map Prod.fst).find? (qNm ts L)).map fun k => (tkAt ts k).pos := by
  intro l
  induction l with
  | nil => intro _; rfl
  | cons x l ih =>
    intro h
    have hx := h x (List.mem_cons_self ..)
    have hb : bindF all (nmNd ts x) = { nmNd ts x with decl := findF all (tkAt ts x.1).text } := by
      unfold bindF; rw [if_pos (by rfl)]; rfl
    have hq : qNm ts L x.1 = decide ((bindF all (nmNd ts x)).decl < 0) := by
      rw [hb]
      unfold qNm
      rw [hx, Bool.false_and, Bool.false_or, Bool.eq_iff_iff, decide_eq_true_iff]
      show _ ↔ findF all (tkAt ts x.1).text < 0
      rw [findF_neg, any_names hn]
      unfold someR
      simp [Tk.l]
    simp only [List.map_cons]
    by_cases hd : (bindF all (nmNd ts x)).decl < 0
    · rw [List.find?_cons_of_pos (by simpa using hd), List.find?_cons_of_pos (by rw [hq]; simpa using hd)]
      simp only [Option.map_some]
      rw [hb]; rfl
    · rw [List.find?_cons_of_neg (by simpa using hd), List.find?_cons_of_neg (by rw [hq]; simpa using hd)]
      exact ih (fun y hy => h y (List.mem_cons_of_mem _ hy))

theorem nm_in {ts : List Tk} : ∀ (t : Ast) (i : Nat) (dl : Bool), ∀ x ∈ nmD ts t i dl, i ≤ x.1 ∧ x.1 < i + t.len := by
  intro t
  induction t with
  | leaf =>
    intro i dl x hx
    simp only [nmD] at hx
    split at hx
    · simp at hx; subst hx; simp [Ast.len]
    · simp at hx
  | neg a iha => intro i dl x hx; have := iha _ _ x hx; simp only [Ast.len]; omega
  | ite a b c iha ihb ihc =>
    intro i dl x hx
    simp only [nmD, List.mem_append] at hx
    simp only [Ast.len]
    rcases hx with hx | hx | hx
    · have := iha _ _ x hx; omega
    · have := ihb _ _ x hx; omega
    · have := ihc _ _ x hx; omega
  | dly b ihb => intro i dl x hx; have := ihb _ _ x hx; simp only [Ast.len]; omega
  | bin a b iha ihb =>
    intro i dl x hx
    simp only [nmD, List.mem_append] at hx
    simp only [Ast.len]
    rcases hx with hx | hx
    · have := iha _ _ x hx; omega
    · have := ihb _ _ x hx; omega

theorem bind_filter (all : List Dc) (l : List Nd) : ((l.map (bindF all)).filter fun n => n.kind == 2) = (l.filter fun n => n.kind == 2).map (bindF all) := by
  rw [List.filter_map]
  congr 1
  apply List.filter_congr
  intro n _
  simp [Function.comp, (bindF_keep all n).1]

/-- the nodes of a segment. -/
theorem seg_mid {N1 N2 N3 : List Nd} {a b : Nat} (ha : a = N1.length) (hb : b = N1.length + N2.length) : seg (N1 ++ (N2 ++ N3)) a b = N2 := by
  subst ha; subst hb
  unfold seg
  rw [List.drop_left, Nat.add_sub_cancel_left, List.take_left]

theorem names_eq {ts : List Tk} (hF : ∀ i, TkF (tkAt ts i)) (hE : ∀ i, (tkAt ts i).kind = 0 → ts.length ≤ i + 1) (L : List Dl) (hL : Spell ts L 0) (all : List Dc) (hn : all.map Dc.name = L.map (nameD ts)) :
    ∀ (L2 L1 : List Dl) (i off a b : Nat) (D1 : List Dc) (N1 : List Nd), L = L1 ++ L2 → Spell ts L2 i → i ≤ ts.length → all = D1 ++ declsD ts L2 off a b → D1.length = L1.length → N1.length = off →
      badNameF all (N1 ++ (nodesD ts L2 off).map (bindF all)) L1.length (declsD ts L2 off a b) = ((List.range' i (ts.length - i)).find? (badNm ts L)).map fun k => (tkAt ts k).pos := by
  intro L2
  induction L2 with
  | nil =>
    intro L1 i off a b D1 N1 hsplit hsp hi _ _ _
    simp only [declsD, badNameF]
    obtain ⟨h1, h2⟩ := hsp
    have h3 := hE i h2
    have e : ts.length - i = 1 := by omega
    rw [e, find_one i (badNm_no (by unfold isNm; rw [h2]; rfl))]
    rfl
  | cons x r ih =>
    intro L1 i off a b D1 N1 hsplit hsp hi hall hlen hN1
    have hmid := spell_mid L1 0 (by rw [← hsplit]; exact hL)
    obtain ⟨hb1, hb2, _, hxl, hxo, _⟩ := hmid
    obtain ⟨hxi, hl2, hxo', hsp'⟩ := hsp
    have hlx := Dl.len_pos x
    have hd1 : D1.map Dc.name = L1.map (nameD ts) := by
      rw [hall, hsplit, List.map_append, List.map_append, declsD_names] at hn
      exact (List.append_inj' hn (by simp)).1
    have hown : ∀ d : Dc, d.name = nameD ts x → ∀ rest, all = D1 ++ d :: rest → (findF all d.name ≠ (L1.length : Int) ↔ aheadR ts L (x.i + 1) = true) := by
      intro d hd rest ha
      rw [ha, ← hlen, findF_own, any_names hd1]
      unfold aheadR
      rw [hsplit, List.any_append, hd]
      have e1 : (L1.any fun y => (nameD ts y).data.toList == lAt ts (x.i + 1) && decide (y.i + 1 < x.i + 1)) = L1.any fun y => (nameD ts y).data.toList == (nameD ts x).data.toList := by
        apply any_congr_mem
        intro y hy
        have := hb1 y hy
        have := Dl.len_pos y
        rw [decide_eq_true (by omega), Bool.and_true]; rfl
      have e2 : ((x :: r).any fun y => (nameD ts y).data.toList == lAt ts (x.i + 1) && decide (y.i + 1 < x.i + 1)) = false := by
        rw [List.any_eq_false]
        intro y hy
        have : ¬ y.i + 1 < x.i + 1 := by
          rcases List.mem_cons.1 hy with rfl | hy
          · omega
          · have := hb2 y hy; omega
        simp [this]
      rw [e1, e2, Bool.or_false]
    have hnmx : isNm ts (x.i + 1) = true := by
      unfold isNm
      rcases hxo with ⟨_, _, h, _⟩ | ⟨_, h, _⟩ <;> rw [h] <;> rfl
    have hqx : qNm ts L (x.i + 1) = aheadR ts L (x.i + 1) := by
      have h1 : hereR L (x.i + 1) = true := by
        unfold hereR; rw [List.any_eq_true]; exact ⟨x, by rw [hsplit]; simp, by simp⟩
      have h2 : someR ts L (x.i + 1) = true := by
        unfold someR; rw [List.any_eq_true]; exact ⟨x, by rw [hsplit]; simp, by simp [nameD, Tk.l]⟩
      unfold qNm; rw [h1, h2]; simp
    have hbx : badNm ts L (x.i + 1) = aheadR ts L (x.i + 1) := by unfold badNm; rw [hnmx, hqx]; rfl
    by_cases hk : x.kind = 0
    · have hin : lAt ts x.i = kIn ∧ lAt ts (x.i + 2) = [59] := by
        rcases hxo with ⟨_, h1, _, h2⟩ | ⟨h, _⟩
        · exact ⟨h1, h2⟩
        · omega
      have hlen3 : x.len = 3 := by unfold Dl.len; rw [if_pos hk]
      have er : ts.length - i = 1 + (1 + (1 + (ts.length - (i + x.len)))) := by omega
      simp only [declsD, if_pos hk, nodesD] at hall ⊢
      rw [er, range_split, range_split, range_split, List.find?_append, List.find?_append, List.find?_append, find_one i (badNm_no (kw_nm hF (by rw [← hxi, hin.1]; decide))), find_one (i + 1 + 1) (badNm_no (kw_nm hF (by rw [← hxi]; show kwL.contains (lAt ts (x.i + 2)) = true; rw [hin.2]; decide)))]
      simp only [badNameF, Option.none_or]
      have ho := hown (dcIn ts x a) rfl _ hall
      by_cases hah : aheadR ts L (x.i + 1) = true
      · rw [if_pos (ho.2 hah)]
        have : (List.range' (i + 1) 1).find? (badNm ts L) = some (i + 1) := by simp [List.range', ← hxi, hbx, hah]
        rw [this]; simp [dcIn, hxi]
      · rw [if_neg (fun h => hah (ho.1 h))]
        have : (List.range' (i + 1) 1).find? (badNm ts L) = none := find_one _ (by rw [← hxi, hbx]; simpa using hah)
        rw [this, Option.none_or]
        have hseg : seg (N1 ++ (nodesD ts r off).map (bindF all)) (dcIn ts x a).root (dcIn ts x a).fin = [] := by simp [seg, dcIn]
        rw [hseg]
        simp only [badNodeF]
        have := ih (L1 ++ [x]) (i + x.len) off (a + 1) b (D1 ++ [dcIn ts x a]) N1 (by rw [hsplit]; simp) hsp' (by omega) (by rw [hall]; simp) (by simp [hlen]) hN1
        rw [List.length_append, List.length_singleton] at this
        rw [this, show i + 1 + 1 + 1 = i + x.len by omega]
    · have heq : (lAt ts x.i = kInt ∨ lAt ts x.i = kBool) ∧ lAt ts (x.i + 2) = kAt ∧ (tkAt ts (x.i + 3)).kind = 3 ∧ lAt ts (x.i + 4) = [61] ∧ Sp ts x.t (x.i + 5) ∧ lAt ts (x.i + 5 + x.t.len) = [59] := by
        rcases hxo with ⟨h, _⟩ | ⟨h0, _, h2, h3, h4, h5, h6⟩
        · exact absurd h hk
        · exact ⟨h0.elim (fun h => .inl h.2) (fun h => .inr h.2), h2, h3.1, h4, h5, h6⟩
      obtain ⟨k0, k2, k3, k4, k5, k6⟩ := heq
      have hlen6 : x.len = x.t.len + 6 := by unfold Dl.len; rw [if_neg hk]
      have er : ts.length - i = 1 + (1 + (1 + (1 + (1 + (x.t.len + (1 + (ts.length - (i + x.len)))))))) := by omega
      simp only [declsD, if_neg hk, nodesD] at hall ⊢
      have f0 := find_one i (p := badNm ts L) (badNm_no (kw_nm hF (by rw [← hxi]; rcases k0 with h | h <;> rw [h] <;> decide)))
      have f2 := find_one (i + 1 + 1) (p := badNm ts L) (badNm_no (kw_nm hF (by rw [← hxi]; show kwL.contains (lAt ts (x.i + 2)) = true; rw [k2]; decide)))
      have f3 := find_one (i + 1 + 1 + 1) (p := badNm ts L) (badNm_no (by rw [← hxi]; show isNm ts (x.i + 3) = false; unfold isNm; rw [k3]; rfl))
      have f4 := find_one (i + 1 + 1 + 1 + 1) (p := badNm ts L) (badNm_no (kw_nm hF (by rw [← hxi]; show kwL.contains (lAt ts (x.i + 4)) = true; rw [k4]; decide)))
      have f6 := find_one (i + 1 + 1 + 1 + 1 + 1 + x.t.len) (p := badNm ts L) (badNm_no (kw_nm hF (by rw [← hxi]; show kwL.contains (lAt ts (x.i + 5 + x.t.len)) = true; rw [k6]; decide)))
      have f5 := find_part hF L x.t (i + 1 + 1 + 1 + 1 + 1) (by rw [← hxi]; exact k5)
      rw [er, range_split, range_split, range_split, range_split, range_split, range_split, range_split, List.find?_append, List.find?_append, List.find?_append, List.find?_append, List.find?_append, List.find?_append, List.find?_append, f0, f2, f3, f4, f5, f6]
      simp only [badNameF, Option.none_or]
      have ho := hown (dcEq ts x b off) rfl _ hall
      by_cases hah : aheadR ts L (x.i + 1) = true
      · rw [if_pos (ho.2 hah)]
        have : (List.range' (i + 1) 1).find? (badNm ts L) = some (i + 1) := by simp [List.range', ← hxi, hbx, hah]
        rw [this]; simp [dcEq, hxi]
      · rw [if_neg (fun h => hah (ho.1 h))]
        have : (List.range' (i + 1) 1).find? (badNm ts L) = none := find_one _ (by rw [← hxi, hbx]; simpa using hah)
        rw [this, Option.none_or]
        have hseg : seg (N1 ++ (flat ts x.t (x.i + 5) 0 off ++ nodesD ts r (off + x.t.size)).map (bindF all)) (dcEq ts x b off).root (dcEq ts x b off).fin = (flat ts x.t (x.i + 5) 0 off).map (bindF all) := by
          rw [List.map_append]
          exact seg_mid hN1.symm (by simp [dcEq, flat_len, hN1])
        rw [hseg, badNode_find, bind_filter, flat_names hF _ _ _ _ k5]
        have hhere : ∀ y ∈ nmD ts x.t (x.i + 5) false, hereR L y.1 = false := by
          intro y hy
          have hy2 := nm_in _ _ _ y hy
          unfold hereR
          rw [List.any_eq_false]
          intro z hz
          have : z.i + 1 ≠ y.1 := by
            rw [hsplit] at hz
            rcases List.mem_append.1 hz with hz | hz
            · have := hb1 z hz; have := Dl.len_pos z; omega
            · rcases List.mem_cons.1 hz with rfl | hz
              · omega
              · have := hb2 z hz; omega
          simpa using this
        have hfn := find_nodes all L hn (nmD ts x.t (x.i + 5) false) hhere
        rw [show decide (0 < 0) = false by decide, hfn, show i + 1 + 1 + 1 + 1 + 1 = x.i + 5 by omega]
        cases hff : ((nmD ts x.t (x.i + 5) false).map Prod.fst).find? (qNm ts L) with
        | some k => simp
        | none =>
          simp only [Option.map_none, Option.none_or]
          have := ih (L1 ++ [x]) (i + x.len) (off + x.t.size) a (b + 1) (D1 ++ [dcEq ts x b off]) (N1 ++ (flat ts x.t (x.i + 5) 0 off).map (bindF all)) (by rw [hsplit]; simp) hsp' (by omega) (by rw [hall]; simp) (by simp [hlen]) (by simp [flat_len, hN1])
          rw [List.length_append, List.length_singleton, List.append_assoc, ← List.map_append] at this
          rw [this, show x.i + 5 + x.t.len + 1 = i + x.len by omega]

end Go.Proofs.Ytmndgoapkmhglab

/- Plain mathematics: what is wanted of an expression: both readers find the same. -/
namespace Go.Proofs.Ytmndgoapkmhglab

def nameT (ts : List Tk) (L : List Dl) (k : Nat) : Bool := (eqL L).any fun x => (nameD ts x).data.toList == lAt ts k && x.kind == 2
def opR (l : List UInt8) : Nat := if l = kFby then 63 else if l = [43] ∨ l = [45] ∨ l = [42] ∨ l = [47] then 110 else 116
/-- what the expression at a token is: 110 a number, 116 a truth, 63 whatever is wanted. -/
def isR (ts : List Tk) (L : List Dl) (i : Nat) : Nat :=
  if (tkAt ts i).kind = 1 then (if nameT ts L i then 116 else 110)
  else if (tkAt ts i).kind = 3 then 110
  else if lAt ts i ≠ [40] then 116
  else if lAt ts (i + 1) = kNot then 116 else if lAt ts (i + 1) = kIf then 63
  else opR (lAt ts (behindF ts (i + 1)))
def bothR (l : List UInt8) : Nat := if l = [38] ∨ l = [124] then 116 else 110
def badR (ts : List Tk) (L : List Dl) (i w : Nat) : Bool := isR ts L i != 63 && isR ts L i != w
def wrongR (ts : List Tk) (L : List Dl) : Ast → Nat → Nat → Option Nat
  | .leaf, i, w => if badR ts L i w then some (tkAt ts i).pos else none
  | .neg a, i, w => if badR ts L i w then some (tkAt ts i).pos else wrongR ts L a (i + 2) 116
  | .ite a b c, i, w => if badR ts L i w then some (tkAt ts i).pos else (wrongR ts L a (i + 2) 116).or ((wrongR ts L b (i + 2 + a.len) w).or (wrongR ts L c (i + 2 + a.len + b.len) w))
  | .dly b, i, w => if badR ts L i w then some (tkAt ts i).pos else (if badR ts L (i + 1) w then some (tkAt ts (i + 1)).pos else none).or (wrongR ts L b (i + 3) w)
  | .bin a b, i, w => if badR ts L i w then some (tkAt ts i).pos else (wrongR ts L a (i + 1) (bothR (lAt ts (i + 1 + a.len)))).or (wrongR ts L b (i + 2 + a.len) (bothR (lAt ts (i + 1 + a.len))))
def wB (b : Bool) : Nat := if b then 116 else 110
def typesR (ts : List Tk) (L : List Dl) : Option Nat := (eqL L).findSome? fun x => wrongR ts L x.t (x.i + 5) (wB (x.kind == 2))

theorem findF_name (l : List Dc) {a b : ByteArray} (h : a.data.toList = b.data.toList) : findF l a = findF l b := by unfold findF; rw [h]

/-- the names of a program that are right. -/
structure NamesOk (ts : List Tk) (L : List Dl) (ds : List Dc) : Prop where
  own : ∀ j (hj : j < ds.length), findF ds (ds[j]'hj).name = (j : Int)
  two : ds.map (fun d => (d.name, d.kind)) = L.map fun x => (nameD ts x, x.kind)

theorem any_two {ts : List Tk} {ds : List Dc} {L : List Dl} (h : ds.map (fun d => (d.name, d.kind)) = L.map fun x => (nameD ts x, x.kind)) (p : ByteArray × Nat → Bool) : (ds.any fun d => p (d.name, d.kind)) = L.any fun x => p (nameD ts x, x.kind) := by
  have e1 : (ds.any fun d => p (d.name, d.kind)) = (ds.map (fun d => (d.name, d.kind))).any p := by rw [List.any_map]; rfl
  have e2 : (L.any fun x => p (nameD ts x, x.kind)) = (L.map fun x => (nameD ts x, x.kind)).any p := by rw [List.any_map]; rfl
  rw [e1, e2, h]

theorem NamesOk.truth {ts : List Tk} {L : List Dl} {ds : List Dc} (h : NamesOk ts L ds) (k : Nat) (h0 : 0 ≤ findF ds (tkAt ts k).text) : (kindAt ds (findF ds (tkAt ts k).text) == 2) = nameT ts L k := by
  have e1 : nameT ts L k = ds.any fun d => d.name.data.toList == lAt ts k && d.kind == 2 := by
    have := any_two h.two (fun q => q.1.data.toList == lAt ts k && q.2 == 2)
    rw [this]
    unfold nameT eqL
    rw [List.any_filter]
    apply any_congr_mem
    intro x _
    cases hx : (x.kind == 2) with
    | false => simp
    | true =>
      have : x.kind = 2 := by simpa using hx
      simp [this]
  rw [e1, Bool.eq_iff_iff]
  constructor
  · intro hk
    unfold findF at h0 hk
    split at h0
    · rename_i i hi
      rw [hi] at hk
      rw [List.findIdx?_eq_some_iff_getElem] at hi
      obtain ⟨g1, g2, _⟩ := hi
      rw [List.any_eq_true]
      refine ⟨ds[i]'g1, List.getElem_mem g1, ?_⟩
      have hk' : (ds[i]'g1).kind = 2 := by
        unfold kindAt at hk
        simp only [Int.toNat_natCast] at hk
        rw [List.getD_eq_getElem?_getD, List.getElem?_eq_getElem g1] at hk
        simpa using hk
      rw [hk']
      simpa [Tk.l] using g2
    · omega
  · intro ha
    rw [List.any_eq_true] at ha
    obtain ⟨d, hd, h2⟩ := ha
    obtain ⟨j, hj, rfl⟩ := List.getElem_of_mem hd
    rw [Bool.and_eq_true, beq_iff_eq, beq_iff_eq] at h2
    have := h.own j hj
    rw [findF_name ds (b := (tkAt ts k).text) h2.1] at this
    rw [this]
    unfold kindAt
    rw [Int.toNat_natCast, List.getD_eq_getElem?_getD, List.getElem?_eq_getElem hj]
    simpa using h2.2

theorem nm_true {ts : List Tk} : ∀ (t : Ast) (i : Nat), ∀ x ∈ nmD ts t i true, x.2 = true := by
  intro t
  induction t with
  | leaf =>
    intro i x hx
    simp only [nmD] at hx
    split at hx
    · simp at hx; subst hx; rfl
    · simp at hx
  | neg a iha => intro i x hx; exact iha _ x hx
  | ite a b c iha ihb ihc =>
    intro i x hx
    simp only [nmD, List.mem_append] at hx
    rcases hx with hx | hx | hx
    · exact iha _ x hx
    · exact ihb _ x hx
    · exact ihc _ x hx
  | dly b ihb => intro i x hx; exact ihb _ x hx
  | bin a b iha ihb =>
    intro i x hx
    simp only [nmD, List.mem_append] at hx
    rcases hx with hx | hx
    · exact iha _ x hx
    · exact ihb _ x hx

theorem sp_first {ts : List Tk} (hF : ∀ i, TkF (tkAt ts i)) {t : Ast} {i : Nat} (h : Sp ts t i) : lAt ts i ≠ kNot ∧ lAt ts i ≠ kIf := by
  cases t with
  | leaf => exact ⟨(leaf_ne2 hF h.1).1, (leaf_ne2 hF h.1).2.1⟩
  | neg a => rw [h.1]; decide
  | ite a b c => rw [h.1]; decide
  | dly b => rw [h.1]; decide
  | bin a b => rw [h.1]; decide

section
variable {ts : List Tk} (hF : ∀ i, TkF (tkAt ts i)) {L : List Dl}
include hF

theorem isR_open {i : Nat} (h : lAt ts i = [40]) : isR ts L i = if lAt ts (i + 1) = kNot then 116 else if lAt ts (i + 1) = kIf then 63 else opR (lAt ts (behindF ts (i + 1))) := by
  unfold isR
  have h' : kwL.contains (tkAt ts i).l = true := by show kwL.contains (lAt ts i) = true; rw [h]; decide
  rw [if_neg ((hF i).not1 h'), if_neg ((hF i).not3 h'), if_neg (by simp [h])]

omit hF in
theorem bad_any {i w : Nat} (h : isR ts L i = 63) : badR ts L i w = false := by unfold badR; rw [h]; rfl
omit hF in
theorem bad_truth {i : Nat} {b : Bool} (x : Bool) (h : isR ts L i = wB x) : badR ts L i (wB b) = !(b == x) := by
  unfold badR; rw [h]; cases b <;> cases x <;> rfl

/-- the first node of an expression fits, if it is what is wanted. -/
theorem fits_first {ds : List Dc} (hN : NamesOk ts L ds) {i : Nat} (hlf : leafT (tkAt ts i) = true) (h40 : lAt ts i ≠ [40]) (hdecl : (tkAt ts i).kind = 1 → 0 ≤ findF ds (tkAt ts i).text) (dl : Nat) (b : Bool) :
    fitsF ds (bindF ds (mkN ts i dl (leafN0 (tkAt ts i)))) b = !badR ts L i (wB b) := by
  by_cases h1 : (tkAt ts i).kind = 1
  · have hi : isR ts L i = wB (nameT ts L i) := by unfold isR; rw [if_pos h1]; rfl
    rw [bad_truth _ hi, leafN0_name (hF i) h1, Bool.not_not, ← hN.truth i (hdecl h1)]
    unfold bindF
    rw [if_pos (by rfl)]
    unfold fitsF
    rw [if_neg (by simp [mkN]), if_neg (by simp [mkN]), if_pos (by simp [mkN])]
    rfl
  · have hb : bindF ds (mkN ts i dl (leafN0 (tkAt ts i))) = mkN ts i dl (leafN0 (tkAt ts i)) := by
      unfold bindF; rw [if_neg (show ¬ (mkN ts i dl (leafN0 (tkAt ts i))).kind = 2 from leafN0_no hlf h1)]
    rw [hb]
    by_cases h3 : (tkAt ts i).kind = 3
    · have hi : isR ts L i = wB false := by unfold isR; rw [if_neg h1, if_pos h3]; rfl
      rw [bad_truth _ hi, Bool.not_not]
      have hl : leafN0 (tkAt ts i) = { ndZero with kind := 0, value := valOf (tkAt ts i).l } := by
        have hn : ∀ l, kwL.contains l = true → (tkAt ts i).l ≠ l := fun l hl e => by have := (hF i).k3 h3; rw [e, hl] at this; cases this
        unfold leafN0; rw [if_neg (hn _ (by decide)), if_neg (hn _ (by decide)), if_pos h3]
      rw [hl]; cases b <;> rfl
    · have hi : isR ts L i = wB true := by unfold isR; rw [if_neg h1, if_neg h3, if_pos h40]; rfl
      rw [bad_truth _ hi, Bool.not_not]
      have hl : (mkN ts i dl (leafN0 (tkAt ts i))).kind = 1 := by
        unfold leafT litT at hlf
        simp only [Bool.or_eq_true, beq_iff_eq, h1, h3, or_false, false_or] at hlf
        rw [mkN_kind]
        unfold leafN0
        rcases hlf with h | h
        · rw [if_pos h]
        · by_cases e : (tkAt ts i).l = kTrue
          · rw [if_pos e]
          · rw [if_neg e, if_pos h]
      unfold fitsF
      rw [if_neg (by rw [hl]; decide), if_pos (.inl hl)]; cases b <;> rfl

omit hF in
theorem badType_cons (ds : List Dc) (i : Nat) (n : Nd) (r : List Nd) (tr : List Bool) : badTypeF ds i (n :: r) tr = if fitsF ds n (tr.getD i false) = true then badTypeF ds (i + 1) r (tell n (tr.getD i false) tr) else some n.pos := rfl

omit hF in
theorem getD_set_ne {l : List Bool} {i j : Nat} {v : Bool} (h : i ≠ j) : (l.set i v).getD j false = l.getD j false := by
  rw [List.getD_eq_getElem?_getD, List.getD_eq_getElem?_getD, List.getElem?_set_ne h]
omit hF in
theorem getD_set_eq {l : List Bool} {i : Nat} {v : Bool} (h : i < l.length) : (l.set i v).getD i false = v := by
  rw [List.getD_eq_getElem?_getD, List.getElem?_set_self h]; rfl

/-- what a pass over the nodes of an expression finds. -/
theorem pass_expr {ds : List Dc} (hN : NamesOk ts L ds) : ∀ (t : Ast) (i dl off : Nat) (tr : List Bool) (rest : List Nd), Sp ts t i → i + t.len ≤ ts.length → (∀ x ∈ nmD ts t i false, 0 ≤ findF ds (tkAt ts x.1).text) → off + t.size ≤ tr.length →
    ∃ tr' : List Bool, tr'.length = tr.length ∧ (∀ j, off + t.size ≤ j → tr'.getD j false = tr.getD j false) ∧
      badTypeF ds off ((flat ts t i dl off).map (bindF ds) ++ rest) tr = (wrongR ts L t i (wB (tr.getD off false))).or (badTypeF ds (off + t.size) rest tr') := by
  have other : ∀ (n : Nd) (i dl : Nat), n.kind ≠ 2 → bindF ds (mkN ts i dl n) = mkN ts i dl n := fun n i dl h => by unfold bindF; rw [if_neg (show ¬ (mkN ts i dl n).kind = 2 from h)]
  intro t
  induction t with
  | leaf =>
    intro i dl off tr rest hs hl hd hlen
    refine ⟨tr, rfl, fun _ _ => rfl, ?_⟩
    simp only [flat, List.map_cons, List.map_nil, List.singleton_append]
    rw [badType_cons, fits_first hF hN hs.1 hs.2 (fun hk => hd (i, false) (by simp [nmD, hk])) dl]
    simp only [wrongR, Ast.size]
    have ht : tell (bindF ds (mkN ts i dl (leafN0 (tkAt ts i)))) (tr.getD off false) tr = tr := by
      have hk : (bindF ds (mkN ts i dl (leafN0 (tkAt ts i)))).kind ≤ 2 := by
        rw [(bindF_keep ds _).1, mkN_kind]
        unfold leafN0
        split; · simp
        split; · simp
        split; · simp
        · simp
      unfold tell
      rw [if_neg (by omega), if_neg (by omega), if_neg (by omega), if_neg (by omega)]
    rw [ht]
    have hp : (bindF ds (mkN ts i dl (leafN0 (tkAt ts i)))).pos = (tkAt ts i).pos := by unfold bindF; split <;> rfl
    rw [hp]
    cases badR ts L i (wB (tr.getD off false)) <;> simp
  | neg a iha =>
    intro i dl off tr rest hs hl hd hlen
    obtain ⟨h1, h2, h3, h4⟩ := hs
    have pa := a.size_pos
    simp only [Ast.len, Ast.size] at hl hlen ⊢
    simp only [flat, List.map_cons, List.cons_append]
    rw [other _ _ _ (by simp), badType_cons]
    have hi : isR ts L i = wB true := by rw [isR_open hF h1, if_pos h2]; rfl
    have hf : fitsF ds (mkN ts i dl { ndZero with kind := 3, a := off + 1 }) (tr.getD off false) = !badR ts L i (wB (tr.getD off false)) := by
      rw [bad_truth _ hi]; unfold fitsF; simp [mkN]
    rw [hf]
    simp only [wrongR]
    cases hb : badR ts L i (wB (tr.getD off false)) with
    | true => exact ⟨tr, rfl, fun _ _ => rfl, by simp [mkN]⟩
    | false =>
      have ht : tell (mkN ts i dl { ndZero with kind := 3, a := off + 1 }) (tr.getD off false) tr = tr.set (off + 1) true := by unfold tell; simp [mkN]
      rw [ht]
      obtain ⟨tr', e1, e2, e3⟩ := iha (i + 2) dl (off + 1) (tr.set (off + 1) true) rest h3 (by omega) hd (by simp; omega)
      refine ⟨tr', by rw [e1]; simp, fun j hj => by rw [e2 j (by omega), getD_set_ne (by omega)], ?_⟩
      rw [if_pos (by simp), e3, getD_set_eq (by omega)]
      simp only [Bool.false_eq_true, if_false]
      rw [show off + 1 + a.size = off + (a.size + 1) by omega]
      rfl
  | ite a b c iha ihb ihc =>
    intro i dl off tr rest hs hl hd hlen
    obtain ⟨h1, h2, h3, h4, h5, h6⟩ := hs
    have pa := a.size_pos
    have pb := b.size_pos
    have pc := c.size_pos
    simp only [Ast.len, Ast.size] at hl hlen ⊢
    simp only [flat, List.map_cons, List.cons_append, List.map_append, List.append_assoc]
    rw [other _ _ _ (by simp), badType_cons]
    have hi : isR ts L i = 63 := by rw [isR_open hF h1, if_neg (by rw [h2]; decide), if_pos h2]
    have hf : fitsF ds (mkN ts i dl { ndZero with kind := 4, a := off + 1, b := off + 1 + a.size, c := off + 1 + a.size + b.size }) (tr.getD off false) = true := by
      unfold fitsF; simp [mkN]
    rw [hf, if_pos rfl]
    simp only [wrongR]
    rw [bad_any hi]
    have ht : tell (mkN ts i dl { ndZero with kind := 4, a := off + 1, b := off + 1 + a.size, c := off + 1 + a.size + b.size }) (tr.getD off false) tr = ((tr.set (off + 1) true).set (off + 1 + a.size) (tr.getD off false)).set (off + 1 + a.size + b.size) (tr.getD off false) := by unfold tell; simp [mkN]
    rw [ht]
    generalize hv : tr.getD off false = v
    generalize htr : ((tr.set (off + 1) true).set (off + 1 + a.size) v).set (off + 1 + a.size + b.size) v = tr0
    have l0 : tr0.length = tr.length := by rw [← htr]; simp
    have ga : tr0.getD (off + 1) false = true := by rw [← htr, getD_set_ne (by omega), getD_set_ne (by omega), getD_set_eq (by omega)]
    have gb : tr0.getD (off + 1 + a.size) false = v := by rw [← htr, getD_set_ne (by omega), getD_set_eq (by simp; omega)]
    have gc : tr0.getD (off + 1 + a.size + b.size) false = v := by rw [← htr, getD_set_eq (by simp; omega)]
    have go : ∀ j, off + (a.size + b.size + c.size + 1) ≤ j → tr0.getD j false = tr.getD j false := fun j hj => by rw [← htr, getD_set_ne (by omega), getD_set_ne (by omega), getD_set_ne (by omega)]
    obtain ⟨t1, x1, y1, z1⟩ := iha (i + 2) dl (off + 1) tr0 ((flat ts b (i + 2 + a.len) dl (off + 1 + a.size)).map (bindF ds) ++ ((flat ts c (i + 2 + a.len + b.len) dl (off + 1 + a.size + b.size)).map (bindF ds) ++ rest)) h3 (by omega) (fun x hx => hd x (by simp only [nmD, List.mem_append]; exact .inl hx)) (by omega)
    obtain ⟨t2, x2, y2, z2⟩ := ihb (i + 2 + a.len) dl (off + 1 + a.size) t1 ((flat ts c (i + 2 + a.len + b.len) dl (off + 1 + a.size + b.size)).map (bindF ds) ++ rest) h4 (by omega) (fun x hx => hd x (by simp only [nmD, List.mem_append]; exact .inr (.inl hx))) (by omega)
    obtain ⟨t3, x3, y3, z3⟩ := ihc (i + 2 + a.len + b.len) dl (off + 1 + a.size + b.size) t2 rest h5 (by omega) (fun x hx => hd x (by simp only [nmD, List.mem_append]; exact .inr (.inr hx))) (by omega)
    refine ⟨t3, by omega, fun j hj => by rw [y3 j (by omega), y2 j (by omega), y1 j (by omega), go j hj], ?_⟩
    rw [z1, z2, z3, ga, y1 _ (by omega), gb, y2 _ (by omega), y1 _ (by omega), gc]
    simp only [Bool.false_eq_true, if_false]
    rw [show off + 1 + a.size + b.size + c.size = off + (a.size + b.size + c.size + 1) by omega, Option.or_assoc, Option.or_assoc]
    rfl
  | dly b ihb =>
    intro i dl off tr rest hs hl hd hlen
    obtain ⟨h1, h2, h3, h4, h5⟩ := hs
    have hlf : leafT (tkAt ts (i + 1)) = true := by unfold leafT; rw [h2]; rfl
    obtain ⟨n1, n2, n3, _⟩ := leaf_ne2 hF hlf
    have pb := b.size_pos
    simp only [Ast.len, Ast.size] at hl hlen ⊢
    simp only [flat, List.map_cons, List.cons_append]
    rw [other _ _ _ (by simp), badType_cons]
    have hbh : behindF ts (i + 1) = i + 2 := behind_sp hF .leaf (i + 1) ⟨hlf, n3⟩ (by simp only [Ast.len]; omega)
    have hi : isR ts L i = 63 := by rw [isR_open hF h1, if_neg n1, if_neg n2, hbh]; unfold opR; rw [if_pos h3]
    have hf : fitsF ds (mkN ts i dl { ndZero with kind := 5, a := off + 1, b := off + 2 }) (tr.getD off false) = true := by
      unfold fitsF; simp [mkN]
    rw [hf, if_pos rfl]
    simp only [wrongR]
    rw [bad_any hi]
    have ht : tell (mkN ts i dl { ndZero with kind := 5, a := off + 1, b := off + 2 }) (tr.getD off false) tr = (tr.set (off + 1) (tr.getD off false)).set (off + 2) (tr.getD off false) := by unfold tell; simp [mkN]
    rw [ht]
    generalize hv : tr.getD off false = v
    generalize htr : (tr.set (off + 1) v).set (off + 2) v = tr0
    have l0 : tr0.length = tr.length := by rw [← htr]; simp
    have ga : tr0.getD (off + 1) false = v := by rw [← htr, getD_set_ne (by omega), getD_set_eq (by omega)]
    have gb : tr0.getD (off + 2) false = v := by rw [← htr, getD_set_eq (by simp; omega)]
    have go : ∀ j, off + (b.size + 2) ≤ j → tr0.getD j false = tr.getD j false := fun j hj => by rw [← htr, getD_set_ne (by omega), getD_set_ne (by omega)]
    have hk1 : (tkAt ts (i + 1)).kind ≠ 1 := by have := lit_nm hF h2; unfold isNm at this; simpa using this
    rw [badType_cons, ga, fits_first hF hN hlf n3 (fun hk => absurd hk hk1) dl]
    have ht2 : tell (bindF ds (mkN ts (i + 1) dl (leafN0 (tkAt ts (i + 1))))) v tr0 = tr0 := by
      have hk : (bindF ds (mkN ts (i + 1) dl (leafN0 (tkAt ts (i + 1))))).kind ≤ 2 := by
        rw [(bindF_keep ds _).1, mkN_kind]
        unfold leafN0
        split; · simp
        split; · simp
        split; · simp
        · simp
      unfold tell
      rw [if_neg (by omega), if_neg (by omega), if_neg (by omega), if_neg (by omega)]
    have hp : (bindF ds (mkN ts (i + 1) dl (leafN0 (tkAt ts (i + 1))))).pos = (tkAt ts (i + 1)).pos := by unfold bindF; split <;> rfl
    rw [ht2, hp]
    cases hb : badR ts L (i + 1) (wB v) with
    | true => exact ⟨tr, rfl, fun _ _ => rfl, by simp⟩
    | false =>
      obtain ⟨t1, x1, y1, z1⟩ := ihb (i + 3) (dl + 1) (off + 2) tr0 rest h4 (by omega) (fun x hx => by
        have := hd
        simp only [nmD] at this
        have hmem : (x.1, true) ∈ nmD ts b (i + 3) true := by
          have hx1 : x.1 ∈ (nmD ts b (i + 3) false).map Prod.fst := List.mem_map.2 ⟨x, hx, rfl⟩
          rw [← nm_filter hF b (i + 3) false h4, nm_filter hF b (i + 3) true h4] at hx1
          obtain ⟨y, hy, he⟩ := List.mem_map.1 hx1
          have hyt : y.2 = true := nm_true b (i + 3) y hy
          have e : y = (x.1, true) := Prod.ext he hyt
          rw [← e]; exact hy
        exact this (x.1, true) hmem) (by omega)
      refine ⟨t1, by omega, fun j hj => by rw [y1 j (by omega), go j (by omega)], ?_⟩
      rw [if_pos (by simp), z1, gb]
      simp only [Bool.false_eq_true, if_false, Option.none_or]
      rw [show off + 2 + b.size = off + (b.size + 2) by omega]
  | bin a b iha ihb =>
    intro i dl off tr rest hs hl hd hlen
    obtain ⟨h1, h2, h3, h4, h5⟩ := hs
    obtain ⟨n1, n2⟩ := sp_first hF h2
    have pa := a.size_pos
    have pb := b.size_pos
    simp only [Ast.len, Ast.size] at hl hlen ⊢
    simp only [flat, List.map_cons, List.cons_append, List.map_append, List.append_assoc]
    rw [other _ _ _ (by simp), badType_cons]
    have hbh : behindF ts (i + 1) = i + 1 + a.len := behind_sp hF a (i + 1) h2 (by omega)
    generalize ho : lAt ts (i + 1 + a.len) = o at h3 ⊢
    have hcs : (opR o = wB (makesT ((opOf o).getD 0))) ∧ bothR o = wB (takesT ((opOf o).getD 0)) := by
      revert h3
      unfold opOf
      split; · rename_i e; subst e; intro _; decide
      split; · rename_i e; subst e; intro _; decide
      split; · rename_i e; subst e; intro _; decide
      split; · rename_i e; subst e; intro _; decide
      split; · rename_i e; subst e; intro _; decide
      split; · rename_i e; subst e; intro _; decide
      split; · rename_i e; subst e; intro _; decide
      split; · rename_i e; subst e; intro _; decide
      · intro h; cases h
    have hi : isR ts L i = wB (makesT ((opOf o).getD 0)) := by rw [isR_open hF h1, if_neg n1, if_neg n2, hbh, ho]; exact hcs.1
    have hf : fitsF ds (mkN ts i dl { ndZero with kind := 6, op := (opOf o).getD 0, a := off + 1, b := off + 1 + a.size }) (tr.getD off false) = !badR ts L i (wB (tr.getD off false)) := by
      rw [bad_truth _ hi]; unfold fitsF; simp [mkN]
    rw [hf]
    simp only [wrongR]
    rw [ho]
    cases hb : badR ts L i (wB (tr.getD off false)) with
    | true => exact ⟨tr, rfl, fun _ _ => rfl, by simp [mkN]⟩
    | false =>
      have ht : tell (mkN ts i dl { ndZero with kind := 6, op := (opOf o).getD 0, a := off + 1, b := off + 1 + a.size }) (tr.getD off false) tr = (tr.set (off + 1) (takesT ((opOf o).getD 0))).set (off + 1 + a.size) (takesT ((opOf o).getD 0)) := by unfold tell; simp [mkN]
      rw [ht, hcs.2]
      generalize hv : takesT ((opOf o).getD 0) = v
      generalize htr : (tr.set (off + 1) v).set (off + 1 + a.size) v = tr0
      have l0 : tr0.length = tr.length := by rw [← htr]; simp
      have ga : tr0.getD (off + 1) false = v := by rw [← htr, getD_set_ne (by omega), getD_set_eq (by omega)]
      have gb : tr0.getD (off + 1 + a.size) false = v := by rw [← htr, getD_set_eq (by simp; omega)]
      have go : ∀ j, off + (a.size + b.size + 1) ≤ j → tr0.getD j false = tr.getD j false := fun j hj => by rw [← htr, getD_set_ne (by omega), getD_set_ne (by omega)]
      obtain ⟨t1, x1, y1, z1⟩ := iha (i + 1) dl (off + 1) tr0 ((flat ts b (i + 2 + a.len) dl (off + 1 + a.size)).map (bindF ds) ++ rest) h2 (by omega) (fun x hx => hd x (by simp only [nmD, List.mem_append]; exact .inl hx)) (by omega)
      obtain ⟨t2, x2, y2, z2⟩ := ihb (i + 2 + a.len) dl (off + 1 + a.size) t1 rest h4 (by omega) (fun x hx => hd x (by simp only [nmD, List.mem_append]; exact .inr hx)) (by omega)
      refine ⟨t2, by omega, fun j hj => by rw [y2 j (by omega), y1 j (by omega), go j (by omega)], ?_⟩
      rw [if_pos (by simp), z1, z2, ga, y1 _ (by omega), gb]
      simp only [Bool.false_eq_true, if_false]
      rw [show off + 1 + a.size + b.size = off + (a.size + b.size + 1) by omega, Option.or_assoc]

end

end Go.Proofs.Ytmndgoapkmhglab

/- Plain mathematics: types, over all declarations. -/
namespace Go.Proofs.Ytmndgoapkmhglab

/-- the table says of each equation to come what it is. -/
def TrOk : List Dl → Nat → List Bool → Prop
  | [], _, _ => True
  | x :: r, off, tr => if x.kind = 0 then TrOk r off tr else tr.getD off false = (x.kind == 2) ∧ TrOk r (off + x.t.size) tr
def totN : List Dl → Nat
  | [] => 0
  | x :: r => if x.kind = 0 then totN r else x.t.size + totN r
theorem nodesD_len (ts : List Tk) : ∀ (L : List Dl) (off : Nat), (nodesD ts L off).length = totN L := by
  intro L
  induction L with
  | nil => intro off; rfl
  | cons x r ih =>
    intro off
    simp only [nodesD, totN]
    split
    · exact ih off
    · rw [List.length_append, flat_len, ih]

theorem TrOk.congr : ∀ (L : List Dl) (off : Nat) (tr tr' : List Bool), (∀ j, off ≤ j → tr'.getD j false = tr.getD j false) → TrOk L off tr → TrOk L off tr' := by
  intro L
  induction L with
  | nil => intro off tr tr' _ _; trivial
  | cons x r ih =>
    intro off tr tr' h hT
    simp only [TrOk] at hT ⊢
    split
    · rename_i hk; rw [if_pos hk] at hT; exact ih off tr tr' h hT
    · rename_i hk; rw [if_neg hk] at hT; exact ⟨by rw [h off (Nat.le_refl _)]; exact hT.1, ih _ tr tr' (fun j hj => h j (by omega)) hT.2⟩

theorem roots_below (ts : List Tk) : ∀ (L : List Dl) (off a b : Nat) (tr : List Bool) (j : Nat), j < off → (roots (declsD ts L off a b) tr).getD j false = tr.getD j false := by
  intro L
  induction L with
  | nil => intro off a b tr j _; rfl
  | cons x r ih =>
    intro off a b tr j hj
    simp only [declsD]
    split
    · simp only [roots]
      rw [if_neg (show ¬ (dcIn ts x a).kind = 2 by show ¬ (0 : Nat) = 2; decide)]
      exact ih off (a + 1) b tr j hj
    · simp only [roots]
      rw [ih (off + x.t.size) a (b + 1) _ j (by omega)]
      split
      · rw [getD_set_ne (show (dcEq ts x b off).root ≠ j by show off ≠ j; omega)]
      · rfl
theorem roots_len (ds : List Dc) : ∀ (tr : List Bool), (roots ds tr).length = tr.length := by
  induction ds with
  | nil => intro tr; rfl
  | cons d r ih => intro tr; simp only [roots]; rw [ih]; split <;> simp

theorem roots_ok (ts : List Tk) : ∀ (L : List Dl) (off a b : Nat) (tr : List Bool), (∀ j, off ≤ j → tr.getD j false = false) → off + totN L ≤ tr.length → TrOk L off (roots (declsD ts L off a b) tr) := by
  intro L
  induction L with
  | nil => intro off a b tr _ _; trivial
  | cons x r ih =>
    intro off a b tr h hl
    simp only [totN] at hl
    simp only [declsD, TrOk]
    by_cases hk : x.kind = 0
    · rw [if_pos hk] at hl
      rw [if_pos hk, if_pos hk]
      simp only [roots]
      rw [if_neg (show ¬ (dcIn ts x a).kind = 2 by show ¬ (0 : Nat) = 2; decide)]
      exact ih off (a + 1) b tr h hl
    · rw [if_neg hk] at hl
      rw [if_neg hk, if_neg hk]
      have hp := x.t.size_pos
      simp only [roots]
      have hr : (dcEq ts x b off).root = off := rfl
      have hkk : (dcEq ts x b off).kind = x.kind := rfl
      rw [hr, hkk]
      refine ⟨?_, ?_⟩
      · rw [roots_below ts r _ _ _ _ off (by omega)]
        by_cases h2 : x.kind = 2
        · rw [if_pos h2, getD_set_eq (by omega), h2]; rfl
        · rw [if_neg h2, h off (Nat.le_refl _)]
          exact (beq_eq_false_iff_ne.2 h2).symm
      · refine ih _ _ _ _ (fun j hj => ?_) ?_
        · split
          · rw [getD_set_ne (by omega)]; exact h j (by omega)
          · exact h j (by omega)
        · split
          · rw [List.length_set]; omega
          · omega

theorem types_eq {ts : List Tk} (hF : ∀ i, TkF (tkAt ts i)) {L : List Dl} {ds : List Dc} (hN : NamesOk ts L ds) :
    ∀ (L2 : List Dl) (i off : Nat) (tr : List Bool), Spell ts L2 i → TrOk L2 off tr → off + totN L2 ≤ tr.length → (∀ x ∈ L2, x.kind ≠ 0 → ∀ y ∈ nmD ts x.t (x.i + 5) false, 0 ≤ findF ds (tkAt ts y.1).text) →
      badTypeF ds off ((nodesD ts L2 off).map (bindF ds)) tr = (eqL L2).findSome? fun x => wrongR ts L x.t (x.i + 5) (wB (x.kind == 2)) := by
  intro L2
  induction L2 with
  | nil => intro i off tr _ _ _ _; rfl
  | cons x r ih =>
    intro i off tr hs hT hl hd
    obtain ⟨h1, h2, h3, h4⟩ := hs
    simp only [TrOk] at hT
    simp only [totN] at hl
    by_cases hk : x.kind = 0
    · rw [if_pos hk] at hT hl
      have e : eqL (x :: r) = eqL r := by simp [eqL, hk]
      simp only [nodesD, if_pos hk]
      rw [e]
      exact ih _ off tr h4 hT hl (fun y hy => hd y (List.mem_cons_of_mem _ hy))
    · rw [if_neg hk] at hT hl
      have e : eqL (x :: r) = x :: eqL r := by simp [eqL, hk]
      simp only [nodesD, if_neg hk]
      have hsp : Sp ts x.t (x.i + 5) := by
        rcases h3 with ⟨h, _⟩ | ⟨_, _, _, _, _, h, _⟩
        · exact absurd h hk
        · exact h
      have hlen : x.len = x.t.len + 6 := by unfold Dl.len; rw [if_neg hk]
      obtain ⟨tr', e1, e2, e3⟩ := pass_expr hF hN x.t (x.i + 5) 0 off tr ((nodesD ts r (off + x.t.size)).map (bindF ds)) hsp (by omega) (hd x (List.mem_cons_self ..) hk) (by omega)
      rw [List.map_append, e3, e, List.findSome?_cons, hT.1, ih _ (off + x.t.size) tr' h4 (hT.2.congr r _ tr tr' e2) (by omega) (fun y hy => hd y (List.mem_cons_of_mem _ hy))]
      cases wrongR ts L x.t (x.i + 5) (wB (x.kind == 2)) <;> rfl

end Go.Proofs.Ytmndgoapkmhglab

/- Plain mathematics: what hangs on itself: both readers find the same. -/
namespace Go.Proofs.Ytmndgoapkmhglab

def delayedR (ts : List Tk) (from' j : Nat) : Bool := (List.range' from' (j - from')).any fun f => lAt ts f == kFby && decide (j < behindF ts (f + 1))
def hangsR (ts : List Tk) (x : Dl) (name : List UInt8) : Bool := (List.range' (x.i + 5) x.t.len).any fun j => isNm ts j && (lAt ts j == name && !delayedR ts (x.i + 5) j)

theorem delayed_iff (ts : List Tk) (i j : Nat) : delayedR ts i j = true ↔ ∃ f, i ≤ f ∧ f < j ∧ lAt ts f = kFby ∧ j < behindF ts (f + 1) := by
  unfold delayedR
  rw [List.any_eq_true]
  constructor
  · rintro ⟨f, hf, h⟩
    rw [List.mem_range'_1] at hf
    rw [Bool.and_eq_true, beq_iff_eq, decide_eq_true_iff] at h
    exact ⟨f, hf.1, by omega, h.1, h.2⟩
  · rintro ⟨f, h1, h2, h3, h4⟩
    refine ⟨f, ?_, ?_⟩
    · rw [List.mem_range'_1]; omega
    · rw [Bool.and_eq_true, beq_iff_eq, decide_eq_true_iff]; exact ⟨h3, h4⟩

section
variable {ts : List Tk} (hF : ∀ i, TkF (tkAt ts i))
include hF

/-- what follows a delay ends within the expression. -/
theorem fby_in : ∀ (t : Ast) (i : Nat), Sp ts t i → i + t.len ≤ ts.length → ∀ f, i ≤ f → f < i + t.len → lAt ts f = kFby → behindF ts (f + 1) ≤ i + t.len := by
  intro t
  induction t with
  | leaf =>
    intro i hs hl f h1 h2 h3
    simp only [Ast.len] at h2
    have : f = i := by omega
    subst this
    exact absurd h3 (leaf_ne hF hs.1 (by decide) (by decide) (by decide))
  | neg a iha =>
    intro i hs hl f h1 h2 h3
    obtain ⟨k1, k2, k3, k4⟩ := hs
    simp only [Ast.len] at hl h2 ⊢
    by_cases c1 : f < i + 2
    · have : f = i ∨ f = i + 1 := by omega
      rcases this with rfl | rfl
      · rw [k1] at h3; cases h3
      · rw [k2] at h3; exact absurd h3 (by decide)
    by_cases c2 : f < i + 2 + a.len
    · have := iha (i + 2) k3 (by omega) f (by omega) c2 h3; omega
    · have : f = i + 2 + a.len := by omega
      subst this
      rw [k4] at h3; cases h3
  | ite a b c iha ihb ihc =>
    intro i hs hl f h1 h2 h3
    obtain ⟨k1, k2, k3, k4, k5, k6⟩ := hs
    simp only [Ast.len] at hl h2 ⊢
    by_cases c1 : f < i + 2
    · have : f = i ∨ f = i + 1 := by omega
      rcases this with rfl | rfl
      · rw [k1] at h3; cases h3
      · rw [k2] at h3; exact absurd h3 (by decide)
    by_cases c2 : f < i + 2 + a.len
    · have := iha (i + 2) k3 (by omega) f (by omega) c2 h3; omega
    by_cases c3 : f < i + 2 + a.len + b.len
    · have := ihb (i + 2 + a.len) k4 (by omega) f (by omega) c3 h3; omega
    by_cases c4 : f < i + 2 + a.len + b.len + c.len
    · have := ihc (i + 2 + a.len + b.len) k5 (by omega) f (by omega) c4 h3; omega
    · have : f = i + 2 + a.len + b.len + c.len := by omega
      subst this
      rw [k6] at h3; cases h3
  | dly b ihb =>
    intro i hs hl f h1 h2 h3
    obtain ⟨k1, k2, k3, k4, k5⟩ := hs
    simp only [Ast.len] at hl h2 ⊢
    by_cases c1 : f < i + 2
    · have : f = i ∨ f = i + 1 := by omega
      rcases this with rfl | rfl
      · rw [k1] at h3; cases h3
      · exact absurd h3 (leaf_ne hF (by unfold leafT; rw [k2]; rfl) (by decide) (by decide) (by decide))
    by_cases c2 : f = i + 2
    · subst c2
      have := behind_sp hF b (i + 2 + 1) k4 (by omega)
      omega
    by_cases c3 : f < i + 3 + b.len
    · have := ihb (i + 3) k4 (by omega) f (by omega) c3 h3; omega
    · have : f = i + 3 + b.len := by omega
      subst this
      rw [k5] at h3; cases h3
  | bin a b iha ihb =>
    intro i hs hl f h1 h2 h3
    obtain ⟨k1, k2, k3, k4, k5⟩ := hs
    simp only [Ast.len] at hl h2 ⊢
    by_cases c1 : f = i
    · subst c1; rw [k1] at h3; cases h3
    by_cases c2 : f < i + 1 + a.len
    · have := iha (i + 1) k2 (by omega) f (by omega) c2 h3; omega
    by_cases c3 : f = i + 1 + a.len
    · subst c3; exact absurd h3 (op_ne k3).2.2.2
    by_cases c4 : f < i + 2 + a.len + b.len
    · have := ihb (i + 2 + a.len) k4 (by omega) f (by omega) c4 h3; omega
    · have : f = i + 2 + a.len + b.len := by omega
      subst this
      rw [k5] at h3; cases h3

omit hF in
/-- a delay ahead of a part does not reach into it, if it does not lie open. -/
theorem delayed_shift {i j k : Nat} (hij : i ≤ j) (_hjk : j ≤ k) (h : ∀ f, i ≤ f → f < j → lAt ts f = kFby → behindF ts (f + 1) ≤ k) : delayedR ts i k = delayedR ts j k := by
  rw [Bool.eq_iff_iff, delayed_iff, delayed_iff]
  constructor
  · rintro ⟨f, h1, h2, h3, h4⟩
    by_cases c : f < j
    · have := h f h1 c h3; omega
    · exact ⟨f, by omega, h2, h3, h4⟩
  · rintro ⟨f, h1, h2, h3, h4⟩; exact ⟨f, by omega, h2, h3, h4⟩

theorem nm_delayed : ∀ (t : Ast) (i : Nat) (dl : Bool), Sp ts t i → i + t.len ≤ ts.length → ∀ x ∈ nmD ts t i dl, x.2 = (dl || delayedR ts i x.1) := by
  intro t
  induction t with
  | leaf =>
    intro i dl hs hl x hx
    simp only [nmD] at hx
    split at hx
    · simp only [List.mem_singleton] at hx
      subst hx
      have : delayedR ts i i = false := by unfold delayedR; simp
      rw [this, Bool.or_false]
    · simp at hx
  | neg a iha =>
    intro i dl hs hl x hx
    obtain ⟨k1, k2, k3, k4⟩ := hs
    simp only [Ast.len] at hl
    have hin := nm_in a (i + 2) dl x hx
    rw [iha (i + 2) dl k3 (by omega) x hx, delayed_shift (i := i) (j := i + 2) (by omega) hin.1]
    intro f h1 h2 h3
    have : f = i ∨ f = i + 1 := by omega
    rcases this with rfl | rfl
    · rw [k1] at h3; cases h3
    · rw [k2] at h3; exact absurd h3 (by decide)
  | ite a b c iha ihb ihc =>
    intro i dl hs hl x hx
    obtain ⟨k1, k2, k3, k4, k5, k6⟩ := hs
    simp only [Ast.len] at hl
    simp only [nmD, List.mem_append] at hx
    have hfirst : ∀ f, i ≤ f → f < i + 2 → lAt ts f = kFby → False := by
      intro f h1 h2 h3
      have : f = i ∨ f = i + 1 := by omega
      rcases this with rfl | rfl
      · rw [k1] at h3; cases h3
      · rw [k2] at h3; exact absurd h3 (by decide)
    rcases hx with hx | hx | hx
    · have hin := nm_in _ _ _ x hx
      rw [iha (i + 2) dl k3 (by omega) x hx, delayed_shift (i := i) (j := i + 2) (by omega) hin.1]
      intro f h1 h2 h3
      exact (hfirst f h1 h2 h3).elim
    · have hin := nm_in _ _ _ x hx
      rw [ihb (i + 2 + a.len) dl k4 (by omega) x hx, delayed_shift (i := i) (j := i + 2 + a.len) (by omega) hin.1]
      intro f h1 h2 h3
      by_cases c1 : f < i + 2
      · exact (hfirst f h1 c1 h3).elim
      · have := fby_in hF a (i + 2) k3 (by omega) f (by omega) h2 h3; omega
    · have hin := nm_in _ _ _ x hx
      rw [ihc (i + 2 + a.len + b.len) dl k5 (by omega) x hx, delayed_shift (i := i) (j := i + 2 + a.len + b.len) (by omega) hin.1]
      intro f h1 h2 h3
      by_cases c1 : f < i + 2
      · exact (hfirst f h1 c1 h3).elim
      by_cases c2 : f < i + 2 + a.len
      · have := fby_in hF a (i + 2) k3 (by omega) f (by omega) c2 h3; omega
      · have := fby_in hF b (i + 2 + a.len) k4 (by omega) f (by omega) h2 h3; omega
  | dly b ihb =>
    intro i dl hs hl x hx
    obtain ⟨k1, k2, k3, k4, k5⟩ := hs
    simp only [Ast.len] at hl
    have hin := nm_in b (i + 3) true x hx
    rw [nm_true b (i + 3) x hx]
    have : delayedR ts i x.1 = true := by
      rw [delayed_iff]
      refine ⟨i + 2, by omega, by omega, k3, ?_⟩
      rw [behind_sp hF b (i + 2 + 1) k4 (by omega)]; omega
    rw [this, Bool.or_true]
  | bin a b iha ihb =>
    intro i dl hs hl x hx
    obtain ⟨k1, k2, k3, k4, k5⟩ := hs
    simp only [Ast.len] at hl
    simp only [nmD, List.mem_append] at hx
    have hfirst : ∀ f, i ≤ f → f < i + 1 → lAt ts f = kFby → False := by
      intro f h1 h2 h3
      have : f = i := by omega
      subst this
      rw [k1] at h3; cases h3
    rcases hx with hx | hx
    · have hin := nm_in _ _ _ x hx
      rw [iha (i + 1) dl k2 (by omega) x hx, delayed_shift (i := i) (j := i + 1) (by omega) hin.1]
      intro f h1 h2 h3
      exact (hfirst f h1 h2 h3).elim
    · have hin := nm_in _ _ _ x hx
      rw [ihb (i + 2 + a.len) dl k4 (by omega) x hx, delayed_shift (i := i) (j := i + 2 + a.len) (by omega) hin.1]
      intro f h1 h2 h3
      by_cases c1 : f < i + 1
      · exact (hfirst f h1 c1 h3).elim
      by_cases c2 : f < i + 1 + a.len
      · have := fby_in hF a (i + 1) k2 (by omega) f (by omega) c2 h3; omega
      · have : f = i + 1 + a.len := by omega
        subst this
        exact absurd h3 (op_ne k3).2.2.2

theorem hangs_nm (x : Dl) (hs : Sp ts x.t (x.i + 5)) (hl : x.i + 5 + x.t.len ≤ ts.length) (name : List UInt8) : hangsR ts x name = (nmD ts x.t (x.i + 5) false).any fun y => lAt ts y.1 == name && !y.2 := by
  unfold hangsR
  rw [← List.any_filter, nm_filter hF x.t (x.i + 5) false hs, List.any_map]
  apply any_congr_mem
  intro y hy
  have := nm_delayed hF x.t (x.i + 5) false hs hl y hy
  simp only [Function.comp]
  rw [this, Bool.false_or]

end

/-- marks. -/
theorem markSeg_eq (ds : List Dc) (i : Nat) : ∀ (l : List Nd) (M : Mx) (a b : Nat), markSeg ds i l M a b = (M a b || (a == i && l.any fun n => n.kind == 2 && (!n.delayed && (kindAt ds n.decl != 0 && n.decl.toNat == b)))) := by
  intro l
  induction l with
  | nil => intro M a b; simp [markSeg]
  | cons n l ih =>
    intro M a b
    simp only [markSeg]
    rw [ih, List.any_cons]
    by_cases h : n.kind = 2 ∧ n.delayed = false ∧ kindAt ds n.decl ≠ 0
    · have hq : (kindAt ds n.decl != 0) = true := by rw [bne_iff_ne]; exact h.2.2
      rw [if_pos h, h.1, h.2.1, hq]
      unfold upd
      by_cases h2 : a = i ∧ b = n.decl.toNat
      · rw [if_pos h2, h2.1, h2.2]; simp
      · rw [if_neg h2]
        by_cases ha : a = i
        · have hb : (n.decl.toNat == b) = false := beq_eq_false_iff_ne.2 (fun e => h2 ⟨ha, e.symm⟩)
          rw [hb]; simp
        · have hb : (a == i) = false := beq_eq_false_iff_ne.2 ha
          rw [hb]; simp
    · rw [if_neg h]
      have : (n.kind == 2 && (!n.delayed && (kindAt ds n.decl != 0 && n.decl.toNat == b))) = false := by
        by_cases hk : n.kind = 2
        · cases hd : n.delayed with
          | true => simp
          | false =>
            have hq : kindAt ds n.decl = 0 := by
              by_cases hz : kindAt ds n.decl = 0
              · exact hz
              · exact absurd ⟨hk, hd, hz⟩ h
            simp [hq]
        · simp [hk]
      rw [this, Bool.false_or]

theorem markAll_eq (ds : List Dc) (ns : List Nd) : ∀ (l : List Dc) (i : Nat) (M : Mx) (a b : Nat), markAll ds ns i l M a b = (M a b || (decide (i ≤ a) && ((l[a - i]?).any fun d => (seg ns d.root d.fin).any fun n => n.kind == 2 && (!n.delayed && (kindAt ds n.decl != 0 && n.decl.toNat == b))))) := by
  intro l
  induction l with
  | nil => intro i M a b; simp [markAll]
  | cons d l ih =>
    intro i M a b
    simp only [markAll]
    rw [ih, markSeg_eq]
    by_cases h : a = i
    · subst h
      have h1 : decide (a + 1 ≤ a) = false := by rw [decide_eq_false_iff_not]; omega
      have h2 : decide (a ≤ a) = true := by rw [decide_eq_true_iff]; omega
      rw [h1, h2, Nat.sub_self, List.getElem?_cons_zero]
      simp
    · by_cases h2 : i ≤ a
      · have e : a - i = (a - (i + 1)) + 1 := by omega
        have g1 : (a == i) = false := beq_eq_false_iff_ne.2 h
        have g2 : decide (i ≤ a) = true := by rw [decide_eq_true_iff]; omega
        have g3 : decide (i + 1 ≤ a) = true := by rw [decide_eq_true_iff]; omega
        rw [e, List.getElem?_cons_succ, g1, g2, g3]
        simp
      · have g1 : (a == i) = false := beq_eq_false_iff_ne.2 h
        have g2 : decide (i ≤ a) = false := by rw [decide_eq_false_iff_not]; omega
        have g3 : decide (i + 1 ≤ a) = false := by rw [decide_eq_false_iff_not]; omega
        rw [g1, g2, g3]
        simp

/-- a relation whose other rows are empty is followed as the smaller one is. -/
theorem warsh_part {M rel : Mx} {isE : Nat → Bool} {cnt : Nat → Nat} (hc : ∀ k, cnt (k + 1) = if isE k then cnt k + 1 else cnt k) (h0 : cnt 0 = 0)
    (h1 : ∀ a b, isE a = false → M a b = false) (h2 : ∀ a b, isE a = true → isE b = true → M a b = rel (cnt a) (cnt b)) :
    ∀ k, (∀ a b, isE a = false → warsh M k a b = false) ∧ (∀ a b, isE a = true → isE b = true → warsh M k a b = warsh rel (cnt k) (cnt a) (cnt b)) := by
  intro k
  induction k with
  | zero => rw [h0]; exact ⟨h1, h2⟩
  | succ k ih =>
    obtain ⟨i1, i2⟩ := ih
    refine ⟨fun a b ha => ?_, fun a b ha hb => ?_⟩
    · simp only [warsh, phase]; rw [i1 a b ha, i1 a k ha]; rfl
    · simp only [warsh, phase]
      cases hk : isE k with
      | false => rw [hc, hk, i1 k b hk, i2 a b ha hb]; simp
      | true =>
        rw [hc, hk, i2 a b ha hb, i2 a k ha hk, i2 k b hk hb]
        rfl

end Go.Proofs.Ytmndgoapkmhglab

namespace Go.Proofs.Ytmndgoapkmhglab
open Go.RowKit
attribute [local go_sem ↓] Go.wp_at_zero Go.wp_at_succ

theorem Try.infoRTok : (Try.prog.info? 157).map (fun i => (i.zero, i.size, i.bytes)) = some (some (.agg #[.int .u8 0, .string ⟨#[]⟩, .int .i64 0, .int .i64 0]), 4, 40) := by kernel_rfl

def RTk.cells (t : RTk) : List Value := [.int .u8 (t.c : Int), .string t.word, .int .i64 (t.pos : Int), .int .i64 (t.n : Int)]
def rkCells (l : List RTk) : List Value := l.flatMap RTk.cells
theorem rkCells_snoc (l : List RTk) (t : RTk) : rkCells (l ++ [t]) = rkCells l ++ t.cells := by simp [rkCells]
theorem rk_len (t : RTk) : t.cells.length = 4 := rfl

set_option maxHeartbeats 2000000 in
set_option maxRecDepth 100000 in
theorem rtokens_any (s : ByteArray) (w : World) (hs : s.size ≤ 1500) :
    Calls Try.prog 57 #[.string s] w fun e w' => ∃ v, e = .returned v ∧ w'.ownsRow w.heap.size 157 4 v (rtoks s).length (rkCells (rtoks s)) ∧ Below w.heap.size w w' := by
  obtain ⟨i0, hi0, hz0, hz1, hz2⟩ := info_parts Try.infoRTok
  go_enter Try.func57, Try.ntmps57
  go_wp2
  go_loopw [3, 4] (fun v i wr => ∃ (k : Nat) (l : List Tk), k ≤ s.size ∧ i = .int .i64 k ∧ l ++ toksFrom s (s.size - k) k = toksFrom s s.size 0 ∧ l.length ≤ k ∧
      wr.ownsRow w.heap.size 157 4 v l.length (rkCells (l.map rtok)) ∧ Below w.heap.size w wr) (fun _ i _ => s.size - (intOf i).toNat)
  case atStart => exact ⟨0, [], by omega, rfl, by simp, by simp, World.ownsRow_nil _ _ _ _, Below.refl _ _⟩
  case round =>
    obtain ⟨k, l, hk, rfl, hl, hlen, hown, hbel⟩ := hrel
    have HL := hide hl
    clear hl
    by_cases hlt : k < s.size
    · have eb := byt_eq s k hlt
      have h4 := cls_le (byt s k)
      have j1 : (0 : Int) ≤ (k : Int) := by omega
      have j2 : (k : Int) < (s.size : Int) := by omega
      by_cases hb : cls (byt s k) = 0
      · have HB := hide hb
        have hr : rcls (byt s k) = 32 := by unfold rcls; rw [hb]; rfl
        clear hb h4
        go_wp2_with (go_at_call 88; refine (refclass_any _ _).mono ?_; rintro e w' ⟨rfl, hw'⟩; subst hw')
        go_roundw
        case rel => exact ⟨k + 1, l, by omega, by go_num, by rw [← toksFrom_blank s k hlt HB.out]; exact HL.out, by omega, hown, hbel⟩
        case measure => simp [intOf]; omega
      · have hr : ((rcls (byt s k) : Int) == 32) = false := by
          have := rcl_inj h4 (b := 0) (by omega)
          rw [show ((rcl 0 : Nat) : Int) = 32 from rfl] at this
          unfold rcls; rw [this]; simpa using hb
        have HB := hide hb
        have hgt := endOf_gt s k
        have hle := endOf_le s k hlt
        clear hb h4
        go_wp2_with fail
        refine (refclass_any _ _).mono ?_
        rintro e w1 ⟨rfl, hw1⟩
        subst hw1
        go_wp2_with fail
        refine (rtoken_any s k _ hs hlt HB.out).mono ?_
        rintro e w2 ⟨rfl, hb2⟩
        have hown2 := bel_own hown hb2
        have hbel2 : Below w.heap.size w w2 := hbel.trans (hb2.mono hbel.size)
        have hbs := hbel2.size
        obtain ⟨t, ht⟩ : ∃ t, t = rtok (tokAt s k) := ⟨_, rfl⟩
        have HTT := hide ht
        rw [← ht]
        generalize hE : endOf s k = E at *
        have HE := hide hE
        clear hown hbel hb2 ht hE
        go_wp2_with (at_builtin; refine wpList_append_lies _ rfl _ _ _ rfl w.heap.size 157 i0 _ 4 40 Try.underlying106 hi0 hz0 hz1 hz2 rfl (by omega) _ l.length (rkCells (l.map rtok)) rfl ((hown2.alloc _).alloc _) ⟨w2.heap.size + 1, 0, none⟩ 1 1 [.int .u8 (t.c : Int), .string t.word, .int .i64 (t.pos : Int), .int .i64 (t.n : Int)] rfl rfl (World.news_of_block (cs := #[.int .u8 (t.c : Int), .string t.word, .int .i64 (t.pos : Int), .int .i64 (t.n : Int)]) (t := 157) (fr := (0, 0)) (by have := heap_alloc_new (w2.alloc (.cells #[.int .u8 (t.c : Int), .string t.word, .int .i64 (t.pos : Int), .int .i64 (t.n : Int)] 157)) (.cells #[.int .u8 (t.c : Int), .string t.word, .int .i64 (t.pos : Int), .int .i64 (t.n : Int)] 157); simpa using this)) (by simp [Value.oneCell']) (by omega) (by unfold maxLen; omega) (by omega) (by simp; omega) (w2.heap.size + 2) (by simp) ?_; intro gg cap w3 hown3 hgrow hat hlt3)
        go_roundw
        case rel =>
          have e1 : endOf s k = E := HE.out
          refine ⟨E, l ++ [tokAt s k], hle, rfl, ?_, by simp; omega, ?_, ?_⟩
          · rw [List.append_assoc, ← e1]
            have := toksFrom_tok s k hlt HB.out
            rw [List.singleton_append, ← this]
            exact HL.out
          · rw [List.map_append, List.map_cons, List.map_nil, ← HTT.out, rkCells_snoc, List.length_append]
            exact hown3
          · exact ((hbel2.alloc hbel2.size _).alloc (by simp; omega) _).grown hgrow (by simp; omega) (fun j hj => ownBlock_ge hown2 j hj)
        case measure => simp [intOf]; omega
    · have hbs := hbel.size
      go_wp2_with (at_builtin; refine wpList_append_lies _ rfl _ _ _ rfl w.heap.size 157 i0 _ 4 40 Try.underlying106 hi0 hz0 hz1 hz2 rfl (by omega) _ l.length (rkCells (l.map rtok)) rfl (hown.alloc _) ⟨wr.heap.size, 0, none⟩ 1 1 [.int .u8 101, .string ⟨#[]⟩, .int .i64 (s.size : Int), .int .i64 0] rfl rfl (World.news_of_block (cs := #[.int .u8 101, .string ⟨#[]⟩, .int .i64 (s.size : Int), .int .i64 0]) (t := 157) (fr := (0, 0)) (heap_alloc_new wr _)) (by simp [Value.oneCell']) (by omega) (by unfold maxLen; omega) (by omega) (by simp; omega) (wr.heap.size + 1) (by simp) ?_; intro gg cap w1 hown1 hgrow hat hlt1)
      go_ret
      have hE : rtoks s = l.map rtok ++ [⟨101, ⟨#[]⟩, s.size, 0⟩] := by
        have h1 := HL.out
        rw [toksFrom_end s _ k (by omega), List.append_nil] at h1
        rw [rtoks, toks, ← h1, List.map_append]
        rfl
      refine ⟨_, rfl, ?_, ?_⟩
      · rw [hE, rkCells_snoc, List.length_append, List.length_map]
        exact hown1
      · exact (hbel.alloc hbel.size _).grown hgrow (by simp; omega) (fun j hj => ownBlock_ge hown j hj)

end Go.Proofs.Ytmndgoapkmhglab
