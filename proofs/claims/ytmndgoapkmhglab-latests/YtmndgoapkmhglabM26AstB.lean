import Derived.Test.YtmndgoapkmhglabM02Dig
import Derived.Test.YtmndgoapkmhglabM03RefClass
import Derived.Test.YtmndgoapkmhglabM24RefA
/- Plain mathematics: blanks behind signs; a text with a byte behind it; a text cut short; a text laid out. -/
namespace Go.Proofs.Ytmndgoapkmhglab

def sgn (c : UInt8) : Bool := c == 40 || c == 41 || c == 59 || c == 61
def gapB (i : Nat) : UInt8 := if i % 2 = 0 then 32 else 10
def wideL : Nat → List UInt8 → List UInt8
  | _, [] => []
  | i, c :: r => if sgn c then c :: gapB i :: wideL (i + 1) r else c :: wideL (i + 1) r
def mv (l : List UInt8) (a : Nat) : Nat := a + ((l.take a).filter sgn).length

theorem sgn_cls {c : UInt8} (h : sgn c = true) : cls c.toNat = 3 := by
  unfold sgn at h
  simp at h
  rcases h with ((h | h) | h) | h <;> subst h <;> decide
theorem gap_cls (i : Nat) : cls (gapB i).toNat = 0 := by
  unfold gapB; split <;> decide

theorem mv_cons (c : UInt8) (r : List UInt8) (j : Nat) : mv (c :: r) (j + 1) = mv r j + 1 + (if sgn c then 1 else 0) := by
  unfold mv
  rw [List.take_succ_cons, List.filter_cons]
  split
  · simp; omega
  · simp; omega

theorem wideL_cons (i : Nat) (c : UInt8) (r : List UInt8) : wideL i (c :: r) = if sgn c then c :: gapB i :: wideL (i + 1) r else c :: wideL (i + 1) r := rfl

theorem wide_tw {cl : Nat} (hcl : cl = 1 ∨ cl = 2) : ∀ (r : List UInt8) (i : Nat), (wideL i r).takeWhile (W cl) = r.takeWhile (W cl) ∧ (wideL i r).dropWhile (W cl) = wideL (i + (r.takeWhile (W cl)).length) (r.dropWhile (W cl)) := by
  intro r
  induction r with
  | nil => intro i; exact ⟨rfl, rfl⟩
  | cons c r ih =>
    intro i
    rw [wideL_cons]
    by_cases hs : sgn c = true
    · have hw : W cl c = false := by unfold W; rw [sgn_cls hs]; rcases hcl with h | h <;> rw [h] <;> rfl
      rw [if_pos hs]
      simp only [List.takeWhile_cons, List.dropWhile_cons, hw]
      refine ⟨rfl, ?_⟩
      simp [wideL, hs]
    · rw [if_neg hs]
      simp only [List.takeWhile_cons, List.dropWhile_cons]
      by_cases hw : W cl c = true
      · simp only [hw, if_true]
        obtain ⟨h1, h2⟩ := ih (i + 1)
        rw [h1, h2]
        refine ⟨rfl, ?_⟩
        simp only [List.length_cons]
        rw [show i + 1 + (r.takeWhile (W cl)).length = i + ((r.takeWhile (W cl)).length + 1) by omega]
      · simp only [hw]
        refine ⟨rfl, ?_⟩
        simp [wideL, hs]

theorem wide_len : ∀ (l : List UInt8) i, (wideL i l).length = mv l l.length := by
  intro l
  induction l with
  | nil => intro i; rfl
  | cons c r ih =>
    intro i
    unfold wideL
    rw [List.length_cons, mv_cons]
    split
    · simp [ih]
    · simp [ih]

/-- the filter of the words of a run without signs. -/
theorem mv_run {cl : Nat} (hcl : cl = 1 ∨ cl = 2) : ∀ (r : List UInt8) (j : Nat), mv r ((r.takeWhile (W cl)).length + j) = (r.takeWhile (W cl)).length + mv (r.dropWhile (W cl)) j := by
  intro r
  induction r with
  | nil => intro j; simp
  | cons c r ih =>
    intro j
    rw [List.takeWhile_cons, List.dropWhile_cons]
    by_cases hw : W cl c = true
    · simp only [hw, if_true, List.length_cons]
      have hs : sgn c = false := by
        cases h : sgn c
        · rfl
        · unfold W at hw; rw [sgn_cls h] at hw; rcases hcl with e | e <;> rw [e] at hw <;> cases hw
      rw [show (r.takeWhile (W cl)).length + 1 + j = (r.takeWhile (W cl)).length + j + 1 by omega, mv_cons, ih j, hs]
      simp; omega
    · simp [hw]

def Moved1 (m : Nat → Nat) (t t' : Tk) : Prop := t'.kind = t.kind ∧ t'.text = t.text ∧ t'.pos = m t.pos

theorem wide_tk (m : Nat → Nat) : ∀ n k k' i (l : List UInt8), l.length = n → (∀ j, m (k + j) = k' + mv l j) → All2 (Moved1 m) (tk k l) (tk k' (wideL i l)) := by
  intro n
  induction n using Nat.strongRecOn with
  | _ n ih =>
    intro k k' i l hn hm
    have hm0 : m k = k' := by have := hm 0; simpa [mv] using this
    cases l with
    | nil => exact trivial
    | cons c r =>
      simp only [List.length_cons] at hn
      by_cases h0 : cls c.toNat = 0
      · have hs : sgn c = false := by cases h : sgn c; rfl; rw [sgn_cls h] at h0; cases h0
        unfold wideL
        rw [hs]
        simp only [Bool.false_eq_true, if_false]
        rw [tk_blank h0, tk_blank h0]
        refine ih r.length (by omega) _ _ _ r rfl ?_
        intro j
        have := hm (j + 1)
        rw [mv_cons, hs] at this
        rw [show k + 1 + j = k + (j + 1) by omega, this]
        simp; omega
      · by_cases h12 : cls c.toNat = 1 ∨ cls c.toNat = 2
        · have hs : sgn c = false := by cases h : sgn c; rfl; rw [sgn_cls h] at h12; omega
          unfold wideL
          rw [hs]
          simp only [Bool.false_eq_true, if_false]
          rw [tk_word h12, tk_word h12]
          obtain ⟨h1, h2⟩ := wide_tw h12 r (i + 1)
          rw [h1, h2]
          refine ⟨⟨rfl, rfl, hm0.symm⟩, ?_⟩
          have hl := take_drop_len (W (cls c.toNat)) r
          refine ih _ (by omega) _ _ _ _ rfl ?_
          intro j
          have := hm ((r.takeWhile (W (cls c.toNat))).length + j + 1)
          rw [mv_cons, hs, mv_run h12] at this
          rw [show k + 1 + (r.takeWhile (W (cls c.toNat))).length + j = k + ((r.takeWhile (W (cls c.toNat))).length + j + 1) by omega, this]
          simp; omega
        · have h3 : 3 ≤ cls c.toNat := by omega
          unfold wideL
          by_cases hs : sgn c = true
          · rw [if_pos hs, tk_one h3, tk_one h3, tk_blank (gap_cls i)]
            refine ⟨⟨rfl, rfl, hm0.symm⟩, ?_⟩
            refine ih r.length (by omega) _ _ _ r rfl ?_
            intro j
            have := hm (j + 1)
            rw [mv_cons, hs] at this
            rw [show k + 1 + j = k + (j + 1) by omega, this]
            simp; omega
          · rw [if_neg hs, tk_one h3, tk_one h3]
            refine ⟨⟨rfl, rfl, hm0.symm⟩, ?_⟩
            refine ih r.length (by omega) _ _ _ r rfl ?_
            intro j
            have := hm (j + 1)
            rw [mv_cons, if_neg hs] at this
            rw [show k + 1 + j = k + (j + 1) by omega, this]
            omega

def wideS (s : ByteArray) : ByteArray := ⟨(wideL 0 s.data.toList).toArray⟩
theorem size_list (s : ByteArray) : s.size = s.data.toList.length := Array.length_toList.symm

theorem wide_toks (s : ByteArray) : All2 (Moved1 (mv s.data.toList)) (toks s) (toks (wideS s)) := by
  rw [toks_list, toks_list]
  refine All2.app (wide_tk _ _ 0 0 0 _ rfl (fun j => by rw [Nat.zero_add, Nat.zero_add])) ⟨⟨rfl, rfl, ?_⟩, trivial⟩
  show (wideS s).size = mv s.data.toList s.size
  rw [size_list, size_list]
  show (wideL 0 s.data.toList).length = _
  exact wide_len _ 0

theorem TsDig.all {ts : List Tk} (h : TsDig ts) (i : Nat) : DigTok (tkAt ts i) := by
  by_cases hi : i < ts.length
  · exact h i hi
  · have : tkAt ts i = tkEnd := by unfold tkAt; rw [List.getD_eq_getElem?_getD, List.getElem?_eq_none (by omega)]; rfl
    rw [this]
    intro hk
    cases hk

theorem moved_at {m : Nat → Nat} (h0 : m 0 = 0) {ts ts' : List Tk} (h : All2 (Moved1 m) ts ts') (i : Nat) : Moved1 m (tkAt ts i) (tkAt ts' i) :=
  All2.getD (R := Moved1 m) ⟨rfl, rfl, h0.symm⟩ i h

theorem wide_tsR (s : ByteArray) : TsR (fun a b => b = mv s.data.toList a) (toks s) (toks (wideS s)) := by
  have h := wide_toks s
  refine ⟨h.len, fun i => ?_⟩
  obtain ⟨h1, h2, h3⟩ := moved_at (by rfl) h i
  have hd := (toks_dig s).all i
  refine ⟨h1, h3, fun _ => by unfold Tk.l; rw [h2], fun hk => ?_, fun _ => h2⟩
  have := (hd hk).2
  exact ⟨this, by unfold Tk.l; rw [h2]; exact this⟩

theorem wide_text (s : ByteArray) (hs : s.size ≤ 1500) (hs' : (wideS s).size ≤ 1500) : textF (wideS s) = ((textF s).1, mv s.data.toList (textF s).2) := by
  have h := textR (P := fun a b => b = mv s.data.toList a) rfl s (wideS s) hs hs' (wide_tsR s)
  exact Prod.ext h.1 h.2

/- what is laid out -/
def gapL (a b : List UInt8) : List UInt8 := if a = [59] then [10] else if a = [40] ∨ b = [41] ∨ b = [59] then [] else [32]
def trimL : List UInt8 → List UInt8
  | [] => []
  | [c] => [c]
  | c :: d :: r => if c = 48 then trimL (d :: r) else c :: d :: r
def bareL (t : Tk) : List UInt8 := if t.kind = 3 then trimL t.l else t.l
def pieceL (ts : List Tk) (j : Nat) : List UInt8 := (if j = 0 then [] else gapL (tkAt ts (j - 1)).l (tkAt ts j).l) ++ bareL (tkAt ts j)
def outN (ts : List Tk) : Nat → List UInt8
  | 0 => []
  | j + 1 => outN ts j ++ pieceL ts j
def outF (s : ByteArray) : ByteArray := ⟨(outN (toks s) (toks s).length).toArray⟩

theorem wide_out (s : ByteArray) : outF (wideS s) = outF s := by
  have h := wide_toks s
  unfold outF
  rw [h.len]
  have hp : ∀ j, pieceL (toks (wideS s)) j = pieceL (toks s) j := by
    intro j
    obtain ⟨a1, a2, _⟩ := moved_at (by rfl) h j
    obtain ⟨b1, b2, _⟩ := moved_at (by rfl) h (j - 1)
    unfold pieceL bareL Tk.l
    rw [a1, a2, b2]
  have ho : ∀ n, outN (toks (wideS s)) n = outN (toks s) n := by
    intro n
    induction n with
    | zero => rfl
    | succ n ih => unfold outN; rw [ih, hp]
  rw [ho]

/- a byte behind; a text cut short -/
theorem text_ok {s : ByteArray} (hs : s.size ≤ 1500) (h : (textF s).1 = 0) : ∃ p, parseF s = .ok p := by
  unfold textF at h
  rw [if_neg (by omega)] at h
  cases hp : parseF s with
  | error e => rw [hp] at h; cases h
  | ok p => exact ⟨p, rfl⟩

theorem tkAt_left {a b : List Tk} {i : Nat} (h : i < a.length) : tkAt (a ++ b) i = tkAt a i := by
  unfold tkAt; rw [List.getD_eq_getElem?_getD, List.getD_eq_getElem?_getD, List.getElem?_append_left h]
theorem tkAt_mid {a b : List Tk} {t : Tk} : tkAt (a ++ t :: b) a.length = t := by
  unfold tkAt; rw [List.getD_eq_getElem?_getD, List.getElem?_append_right (Nat.le_refl _)]; simp
theorem tkAt_mem {a : List Tk} {i : Nat} (h : i < a.length) : tkAt a i ∈ a := by
  unfold tkAt; rw [List.getD_eq_getElem?_getD, List.getElem?_eq_getElem h]; exact List.getElem_mem h

theorem end_at (s : ByteArray) (hs : s.size ≤ 1500) (p : PS) (h : parseF s = .ok p) : p.next = (tk 0 s.data.toList).length ∧ (p.hd (toks s)).kind = 0 ∧ (p = pZero ∨ (tkAt (toks s) (p.next - 1)).l = [59]) := by
  have ht := toks_ok s hs
  obtain ⟨h1, h2, h3⟩ := declsEnd ht _ _ _ (pZero_wf ht).next (by simp) h
  refine ⟨?_, h1, h3⟩
  rw [toks_list] at h1 h2
  simp at h2
  by_cases e : p.next < (tk 0 s.data.toList).length
  · exfalso
    unfold PS.hd at h1
    rw [tkAt_left e] at h1
    exact (tk_kind _ _ _ rfl _ (tkAt_mem e)).1 h1
  · omega

theorem hash_text (s s' : ByteArray) (hs : s.size < 1500) (h : (textF s).1 = 0) (hl : s'.data.toList = s.data.toList ++ [35]) : textF s' = (2, s.size) := by
  have hs' : s'.size ≤ 1500 := by rw [size_list, hl, List.length_append, ← size_list]; simp; omega
  obtain ⟨p, hp⟩ := text_ok (by omega) h
  obtain ⟨h1, h2, _⟩ := end_at s (by omega) p hp
  have ht := toks_list s
  have ht' : toks s' = tk 0 s.data.toList ++ tokW s.size [35] 4 :: [⟨0, s'.size, ⟨#[]⟩⟩] := by
    rw [toks_list, hl, tk_split (c := 35) (by decide) [] _ 0 _ rfl, tk_nil, Nat.zero_add, ← size_list]
    simp
    rfl
  have hat : tkAt (toks s') (tk 0 s.data.toList).length = tokW s.size [35] 4 := by rw [ht']; exact tkAt_mid
  have hc : CutTs (tk 0 s.data.toList).length (toks s) (toks s') := by
    refine ⟨toks_ok s (by omega), by rw [ht]; simp, by rw [ht']; simp, ?_, ?_, ?_, ?_⟩
    · intro i hi; rw [ht, ht', tkAt_left hi, tkAt_left hi]
    · rw [hat]; show kindK [35] 4 ≠ 1; decide
    · rw [hat]; show kindK [35] 4 ≠ 3; decide
    · rw [hat]; show kwL.contains [35] = false; decide
  have he := declsC hc (.inl (by rw [hat]; exact kindK_pos [35] 4)) _ (toks s').length _ _ (Nat.zero_le _) (by simp) hp h2 (by rw [h1]; exact Nat.le_refl _)
  unfold textF
  rw [if_neg (by omega)]
  have hpe : parseF s' = .error (tk 0 s.data.toList).length := he
  rw [hpe]
  simp only
  rw [hat]
  rfl

theorem cut_text (s s' : ByteArray) (l1 l2 : List UInt8) (hs : s.size ≤ 1500) (h : (textF s).1 = 0) (hl : s.data.toList = l1 ++ 59 :: l2) (hn : (59 : UInt8) ∉ l2) (hl' : s'.data.toList = l1) : textF s' = (2, l1.length) := by
  have hsz : s.size = l1.length + 1 + l2.length := by rw [size_list, hl]; simp; omega
  have hs' : s'.size = l1.length := by rw [size_list, hl']
  obtain ⟨p, hp⟩ := text_ok hs h
  obtain ⟨h1, h2, h3⟩ := end_at s hs p hp
  have hA : tk 0 s.data.toList = tk 0 l1 ++ tokW l1.length [59] 3 :: tk (l1.length + 1) l2 := by
    rw [hl, tk_split (c := 59) (by decide) l2 _ 0 _ rfl, Nat.zero_add]; rfl
  have hne : p ≠ pZero := by
    intro e
    rw [e, hA] at h1
    simp [pZero] at h1
  have h4 := h3.resolve_left hne
  have ht2 : tk (l1.length + 1) l2 = [] := by
    cases hb : tk (l1.length + 1) l2 with
    | nil => rfl
    | cons t b =>
      exfalso
      have hlen : (tk 0 s.data.toList).length = (tk 0 l1).length + 1 + (b.length + 1) := by rw [hA, hb]; simp; omega
      rw [h1, hlen, toks_list, hA, hb] at h4
      have e1 : tkAt (tk 0 l1 ++ tokW l1.length [59] 3 :: t :: b ++ [⟨0, s.size, ⟨#[]⟩⟩]) ((tk 0 l1).length + 1 + (b.length + 1) - 1) = tkAt (t :: b) b.length := by
        unfold tkAt
        simp only [List.append_assoc, List.cons_append, List.getD_eq_getElem?_getD]
        rw [List.getElem?_append_right (by omega), show (tk 0 l1).length + 1 + (b.length + 1) - 1 - (tk 0 l1).length = b.length + 1 by omega, List.getElem?_cons_succ, ← List.cons_append, List.getElem?_append_left (by simp)]
      rw [e1] at h4
      have hm : tkAt (t :: b) b.length ∈ tk (l1.length + 1) l2 := by rw [hb]; exact tkAt_mem (by simp)
      obtain ⟨_, c, hc, hh, _⟩ := tk_kind _ _ _ rfl _ hm
      unfold Tk.l at h4
      rw [h4] at hh
      simp at hh
      subst hh
      exact hn hc
  rw [ht2] at hA
  have ht : toks s = tk 0 l1 ++ tokW l1.length [59] 3 :: [⟨0, s.size, ⟨#[]⟩⟩] := by rw [toks_list, hA]; simp
  have ht' : toks s' = tk 0 l1 ++ [⟨0, l1.length, ⟨#[]⟩⟩] := by rw [toks_list, hl', hs']
  have hat : tkAt (toks s') (tk 0 l1).length = ⟨0, l1.length, ⟨#[]⟩⟩ := by rw [ht']; exact tkAt_mid
  have hat2 : tkAt (toks s) (tk 0 l1).length = tokW l1.length [59] 3 := by rw [ht]; exact tkAt_mid
  have hc : CutTs (tk 0 l1).length (toks s) (toks s') := by
    refine ⟨toks_ok s hs, by rw [ht]; simp, by rw [ht']; simp, ?_, ?_, ?_, ?_⟩
    · intro i hi; rw [ht, ht', tkAt_left hi, tkAt_left hi]
    · rw [hat]; show (0:Nat) ≠ 1; decide
    · rw [hat]; show (0:Nat) ≠ 3; decide
    · rw [hat]; show kwL.contains [] = false; decide
  have he := declsC hc (.inr ⟨by rw [hat2]; exact kindK_pos [59] 3, by rw [hat2]; rfl⟩) _ (toks s').length _ _ (Nat.zero_le _) (by simp) hp h2 (by rw [h1, hA]; simp)
  unfold textF
  rw [if_neg (by omega)]
  have hpe : parseF s' = .error (tk 0 l1).length := he
  rw [hpe]
  simp only
  rw [hat]

end Go.Proofs.Ytmndgoapkmhglab

/- Plain mathematics: the tokens of what is laid out. -/
namespace Go.Proofs.Ytmndgoapkmhglab

/-- a token as the text's bytes make it. -/
def Fine (t : Tk) : Prop :=
  (∃ cl, (cl = 1 ∨ cl = 2) ∧ t.l ≠ [] ∧ (∀ c ∈ t.l, W cl c = true) ∧ t.kind = kindK t.l cl) ∨ (∃ c, t.l = [c] ∧ 3 ≤ cls c.toNat ∧ t.kind = kindK [c] (cls c.toNat))

theorem tw_all (p : UInt8 → Bool) : ∀ r : List UInt8, ∀ c ∈ r.takeWhile p, p c = true := by
  intro r
  induction r with
  | nil => intro c hc; simp at hc
  | cons d r ih =>
    intro c hc
    rw [List.takeWhile_cons] at hc
    split at hc
    · rename_i hd
      rcases List.mem_cons.1 hc with rfl | hc
      · exact hd
      · exact ih c hc
    · simp at hc

theorem tk_fine : ∀ n k (l : List UInt8), l.length = n → ∀ t ∈ tk k l, Fine t := by
  intro n
  induction n using Nat.strongRecOn with
  | _ n ih =>
    intro k l hn t ht
    cases l with
    | nil => rw [tk_nil] at ht; simp at ht
    | cons c r =>
      simp only [List.length_cons] at hn
      by_cases h0 : cls c.toNat = 0
      · rw [tk_blank h0] at ht
        exact ih r.length (by omega) (k + 1) r rfl t ht
      · by_cases h12 : cls c.toNat = 1 ∨ cls c.toNat = 2
        · rw [tk_word h12] at ht
          rcases List.mem_cons.1 ht with rfl | ht
          · refine .inl ⟨cls c.toNat, h12, by simp [Tk.l, tokW], ?_, by simp [Tk.l, tokW]⟩
            intro d hd
            have hd' : d ∈ c :: r.takeWhile (W (cls c.toNat)) := by simpa [Tk.l, tokW] using hd
            rcases List.mem_cons.1 hd' with rfl | hd'
            · exact W_self d
            · exact tw_all _ r d hd'
          · have hl := take_drop_len (W (cls c.toNat)) r
            exact ih _ (by omega) _ _ rfl t ht
        · rw [tk_one (by omega)] at ht
          rcases List.mem_cons.1 ht with rfl | ht
          · exact .inr ⟨c, by simp [Tk.l, tokW], by omega, by simp [tokW]⟩
          · exact ih r.length (by omega) (k + 1) r rfl t ht

/-- a rest that does not go on with a class. -/
def Stops (cl : Nat) (rest : List UInt8) : Prop := ∀ c, rest.head? = some c → W cl c = false

theorem tw_stop {p : UInt8 → Bool} : ∀ (w rest : List UInt8), (∀ c ∈ w, p c = true) → (∀ c, rest.head? = some c → p c = false) → (w ++ rest).takeWhile p = w ∧ (w ++ rest).dropWhile p = rest := by
  intro w
  induction w with
  | nil =>
    intro rest _ hr
    cases rest with
    | nil => exact ⟨rfl, rfl⟩
    | cons d r => simp [hr d rfl]
  | cons c w ih =>
    intro rest hw hr
    have hc := hw c (List.mem_cons_self ..)
    obtain ⟨h1, h2⟩ := ih rest (fun d hd => hw d (List.mem_cons_of_mem _ hd)) hr
    rw [List.cons_append, List.takeWhile_cons, List.dropWhile_cons, if_pos hc, if_pos hc, h1, h2]
    exact ⟨rfl, rfl⟩

theorem W_cls {cl : Nat} {c : UInt8} (h : W cl c = true) : cls c.toNat = cl := by unfold W at h; simpa using h

theorem tk_front {cl : Nat} (hcl : cl = 1 ∨ cl = 2) (k : Nat) (w rest : List UInt8) (hw : w ≠ []) (ha : ∀ c ∈ w, W cl c = true) (hr : Stops cl rest) : tk k (w ++ rest) = tokW k w cl :: tk (k + w.length) rest := by
  cases w with
  | nil => exact absurd rfl hw
  | cons c w =>
    have hc := W_cls (ha c (List.mem_cons_self ..))
    rw [List.cons_append, tk_word (by rw [hc]; exact hcl), hc]
    obtain ⟨h1, h2⟩ := tw_stop (p := W cl) w rest (fun d hd => ha d (List.mem_cons_of_mem _ hd)) hr
    rw [h1, h2, List.length_cons, show k + 1 + w.length = k + (w.length + 1) by omega]

theorem trim_ne {l : List UInt8} (h : l ≠ []) : trimL l ≠ [] := by
  induction l with
  | nil => exact absurd rfl h
  | cons c r ih =>
    cases r with
    | nil => exact h
    | cons d r =>
      unfold trimL
      split
      · exact ih (by simp)
      · exact h
theorem trim_mem : ∀ l : List UInt8, ∀ c ∈ trimL l, c ∈ l := by
  intro l
  induction l with
  | nil => intro c hc; exact hc
  | cons a r ih =>
    intro c hc
    cases r with
    | nil => exact hc
    | cons d r =>
      unfold trimL at hc
      split at hc
      · exact List.mem_cons_of_mem _ (ih c hc)
      · exact hc
theorem trim_trim : ∀ l : List UInt8, trimL (trimL l) = trimL l := by
  intro l
  induction l with
  | nil => rfl
  | cons a r ih =>
    cases r with
    | nil => rfl
    | cons d r =>
      by_cases h : a = 48
      · have e : trimL (a :: d :: r) = trimL (d :: r) := by rw [trimL, if_pos h]
        rw [e]; exact ih
      · have e : trimL (a :: d :: r) = a :: d :: r := by rw [trimL, if_neg h]
        rw [e, e]
theorem trim_val : ∀ l : List UInt8, valOf (trimL l) = valOf l := by
  intro l
  induction l with
  | nil => rfl
  | cons a r ih =>
    cases r with
    | nil => rfl
    | cons d r =>
      by_cases h : a = 48
      · have e : trimL (a :: d :: r) = trimL (d :: r) := by rw [trimL, if_pos h]
        rw [e, ih, h]
        unfold valOf
        simp
      · have e : trimL (a :: d :: r) = a :: d :: r := by rw [trimL, if_neg h]
        rw [e]

theorem kind3_cls {w : List UInt8} {cl : Nat} (h : kindK w cl = 3) : cl = 2 ∧ w.length ≤ 18 := by
  unfold kindK at h
  split at h
  · unfold wordK at h
    split at h
    · cases h
    split at h <;> cases h
  split at h
  · rename_i hc
    unfold numK at h
    split at h
    · cases h
    · exact ⟨hc, by omega⟩
  split at h <;> cases h

theorem trim_short : ∀ l : List UInt8, (trimL l).length ≤ l.length := by
  intro l
  induction l with
  | nil => exact Nat.le_refl _
  | cons c r ih =>
    cases r with
    | nil => exact Nat.le_refl _
    | cons d r =>
      unfold trimL
      split
      · exact Nat.le_trans ih (by simp)
      · exact Nat.le_refl _

/-- the same token laid out: as fine, of the same kind. -/
theorem fine_bare {t : Tk} (h : Fine t) : (∃ cl, (cl = 1 ∨ cl = 2) ∧ bareL t ≠ [] ∧ (∀ c ∈ bareL t, W cl c = true) ∧ kindK (bareL t) cl = t.kind) ∨ (∃ c, bareL t = [c] ∧ t.l = [c] ∧ 3 ≤ cls c.toNat ∧ t.kind = kindK [c] (cls c.toNat)) := by
  rcases h with ⟨cl, hcl, hne, hal, hk⟩ | ⟨c, hl, hc, hk⟩
  · left
    unfold bareL
    by_cases h3 : t.kind = 3
    · rw [if_pos h3]
      obtain ⟨rfl, h18⟩ := kind3_cls (hk ▸ h3)
      refine ⟨2, .inr rfl, trim_ne hne, fun c hc => hal c (trim_mem _ c hc), ?_⟩
      rw [h3]
      have := trim_short t.l
      unfold kindK numK
      rw [if_neg (by decide), if_pos rfl, if_neg (by omega)]
    · rw [if_neg h3]
      exact ⟨cl, hcl, hne, hal, hk.symm⟩
  · right
    refine ⟨c, ?_, hl, hc, hk⟩
    unfold bareL
    rw [if_neg, hl]
    intro h3
    have := (kind3_cls (hk ▸ h3)).1
    omega
/-- what follows a token, laid out. -/
def outG : List UInt8 → List Tk → List UInt8
  | prev, [] => gapL prev []
  | prev, t :: r => gapL prev t.l ++ (bareL t ++ outG t.l r)

theorem gap_head {a b : List UInt8} {cl : Nat} (hcl : cl = 1 ∨ cl = 2) (x : List UInt8) (h : gapL a b ≠ []) : Stops cl (gapL a b ++ x) := by
  intro c hc
  unfold gapL at h hc
  split at hc
  · simp at hc; subst hc; rcases hcl with rfl | rfl <;> decide
  split at hc
  · rename_i h1 h2; rw [if_neg h1, if_pos h2] at h; exact absurd rfl h
  · simp at hc; subst hc; rcases hcl with rfl | rfl <;> decide

theorem gap_none {a b : List UInt8} (h : gapL a b = []) : a = [40] ∨ b = [41] ∨ b = [59] := by
  unfold gapL at h
  split at h
  · cases h
  split at h
  · assumption
  · cases h

theorem outG_stops {t : Tk} {cl : Nat} (hcl : cl = 1 ∨ cl = 2) (ht : t.l ≠ [40]) (r : List Tk) (hf : ∀ u ∈ r, Fine u) : Stops cl (outG t.l r) := by
  cases r with
  | nil =>
    unfold outG
    by_cases h : gapL t.l [] = []
    · rcases gap_none h with h | h | h
      · exact absurd h ht
      · cases h
      · cases h
    · have := gap_head hcl [] h
      simpa using this
  | cons u r =>
    unfold outG
    by_cases h : gapL t.l u.l = []
    · rw [h, List.nil_append]
      intro c hc
      have hu : u.l = [41] ∨ u.l = [59] := by
        rcases gap_none h with h | h
        · exact absurd h ht
        · exact h
      have hb : bareL u = u.l := by
        rcases fine_bare (hf u (List.mem_cons_self ..)) with ⟨cl', hcl', _, hal, _⟩ | ⟨d, h1, h2, _⟩
        · unfold bareL
          split
          · rcases hu with e | e <;> rw [e] <;> rfl
          · rfl
        · rw [h1, h2]
      rw [hb] at hc
      rcases hu with e | e <;> rw [e] at hc <;> simp at hc <;> subst hc <;> rcases hcl with rfl | rfl <;> decide
    · exact gap_head hcl _ h

def OutR (t u : Tk) : Prop := u.kind = t.kind ∧ u.l = bareL t

theorem tk_gap (k : Nat) (a b x : List UInt8) : ∃ k', tk k (gapL a b ++ x) = tk k' x := by
  unfold gapL
  split
  · exact ⟨k + 1, by rw [List.singleton_append, tk_blank (by decide)]⟩
  split
  · exact ⟨k, rfl⟩
  · exact ⟨k + 1, by rw [List.singleton_append, tk_blank (by decide)]⟩

theorem out_front {t : Tk} (ht : Fine t) (r : List Tk) (hf : ∀ u ∈ r, Fine u) (k : Nat) : ∃ u k', OutR t u ∧ tk k (bareL t ++ outG t.l r) = u :: tk k' (outG t.l r) := by
  rcases fine_bare ht with ⟨cl, hcl, hne, hal, hk⟩ | ⟨c, h1, h2, hc, hk⟩
  · have hstop : Stops cl (outG t.l r) := by
      refine outG_stops hcl ?_ r hf
      intro e
      have hb : bareL t = [40] := by
        unfold bareL; rw [e]; split <;> rfl
      have := hal 40 (by rw [hb]; simp)
      rcases hcl with rfl | rfl <;> revert this <;> decide
    exact ⟨tokW k (bareL t) cl, _, ⟨hk, by simp [tokW, Tk.l]⟩, tk_front hcl k _ _ hne hal hstop⟩
  · refine ⟨tokW k [c] (cls c.toNat), k + 1, ⟨hk.symm, by rw [h1]; simp [tokW, Tk.l]⟩, ?_⟩
    rw [h1, List.singleton_append, tk_one hc]

theorem out_tk : ∀ (r : List Tk), (∀ u ∈ r, Fine u) → ∀ prev k, All2 OutR r (tk k (outG prev r)) := by
  intro r
  induction r with
  | nil =>
    intro _ prev k
    unfold outG
    obtain ⟨k', h⟩ := tk_gap k prev [] []
    rw [List.append_nil] at h
    rw [h]
    exact trivial
  | cons t r ih =>
    intro hf prev k
    unfold outG
    obtain ⟨k', h⟩ := tk_gap k prev t.l (bareL t ++ outG t.l r)
    rw [h]
    obtain ⟨u, k2, h1, h2⟩ := out_front (hf t (List.mem_cons_self ..)) r (fun u hu => hf u (List.mem_cons_of_mem _ hu)) k'
    rw [h2]
    exact ⟨h1, ih (fun u hu => hf u (List.mem_cons_of_mem _ hu)) t.l k2⟩

/-- the whole, laid out: the first token stands at the head. -/
def outL : List Tk → List UInt8
  | [] => []
  | t :: r => bareL t ++ outG t.l r

theorem outL_tk (r : List Tk) (hf : ∀ u ∈ r, Fine u) (k : Nat) : All2 OutR r (tk k (outL r)) := by
  cases r with
  | nil => exact trivial
  | cons t r =>
    unfold outL
    obtain ⟨u, k2, h1, h2⟩ := out_front (hf t (List.mem_cons_self ..)) r (fun u hu => hf u (List.mem_cons_of_mem _ hu)) k
    rw [h2]
    exact ⟨h1, out_tk r (fun u hu => hf u (List.mem_cons_of_mem _ hu)) t.l k2⟩

end Go.Proofs.Ytmndgoapkmhglab

/- Plain mathematics: tokens as the document's own reader has them, and the parts of a text. -/
namespace Go.Proofs.Ytmndgoapkmhglab

theorem kw_cases {l : List UInt8} (h : kwL.contains l = true) : (∃ c, l = [c] ∧ cls c.toNat = 3) ∨ (keptL.contains l = true ∧ ∃ c, c ∈ l ∧ cls c.toNat = 1) := by
  have h' : l ∈ kwL := by simpa using h
  simp only [kwL, List.mem_cons, List.not_mem_nil, or_false] at h'
  rcases h' with rfl | rfl | rfl | rfl | rfl | rfl | rfl | rfl | rfl | rfl | rfl | rfl | rfl | rfl | rfl | rfl | rfl | rfl | rfl | rfl
  all_goals first | exact .inl ⟨_, rfl, by decide⟩ | exact .inr ⟨by decide, 105, by decide, by decide⟩ | exact .inr ⟨by decide, 98, by decide, by decide⟩ | exact .inr ⟨by decide, 97, by decide, by decide⟩ | exact .inr ⟨by decide, 110, by decide, by decide⟩ | exact .inr ⟨by decide, 116, by decide, by decide⟩

/-- what the two readers of tokens have in common. -/
structure TkF (t : Tk) : Prop where
  kw : ∀ l, kwL.contains l = true → ((rtok t).l = l ↔ t.l = l)
  k0 : t.kind = 0 → kwL.contains t.l = false
  k1 : t.kind = 1 → kwL.contains t.l = false
  k3 : t.kind = 3 → kwL.contains t.l = false
  sg : ∀ x : Nat, x = 59 ∨ x = 61 ∨ x = 41 → (t.l = [UInt8.ofNat x] ↔ (t.kind = 4 ∧ (t.l.getD 0 0).toNat = x))
  pos : t.kind ≠ 0 → t.l ≠ []

theorem rtok_l (t : Tk) : (rtok t).l = if t.kind = 1 ∨ t.kind = 2 ∨ t.kind = 4 then t.l else [] := by
  unfold rtok RTk.l Tk.l
  simp only
  split <;> rfl

theorem kwL_nil : kwL.contains ([] : List UInt8) = false := by decide

theorem TkF.ofEnd (k : Nat) : TkF ⟨0, k, ⟨#[]⟩⟩ := by
  refine ⟨fun l hl => ?_, fun _ => kwL_nil, fun h => (by cases h), fun h => (by cases h), fun x hx => ?_, fun h => absurd rfl h⟩
  · rw [rtok_l]
    simp only [Tk.l]
    exact Iff.rfl
  · constructor
    · intro h; simp [Tk.l] at h
    · rintro ⟨h, _⟩; cases h

theorem TkF.ofFine {t : Tk} (h : Fine t) : TkF t := by
  rcases h with ⟨cl, hcl, hne, hall, hk⟩ | ⟨c, hc, h3, hk⟩
  · have hno : kwL.contains t.l = true → cl = 1 ∧ keptL.contains t.l = true := by
      intro hkw
      rcases kw_cases hkw with ⟨c, hc, h3⟩ | ⟨hkp, c, hc, h1⟩
      · have := W_cls (hall c (by rw [hc]; simp)); omega
      · have := W_cls (hall c hc); exact ⟨by omega, hkp⟩
    have hsg : ∀ c : UInt8, cls c.toNat = 3 → t.l ≠ [c] := by
      intro c h3 e
      have := W_cls (hall c (by rw [e]; simp)); omega
    have hkind : (t.kind = 2 ∧ keptL.contains t.l = true ∧ cl = 1) ∨ (t.kind = 5 ∧ ¬ (cl = 1 ∧ keptL.contains t.l = true)) ∨ (t.kind = 1 ∧ keptL.contains t.l = false) ∨ (t.kind = 3 ∧ cl = 2) := by
      rcases hcl with rfl | rfl
      · unfold kindK wordK at hk
        rw [if_pos rfl] at hk
        split at hk
        · exact .inl ⟨hk, by assumption, rfl⟩
        · rename_i hn
          split at hk
          · exact .inr (.inl ⟨hk, fun h => hn h.2⟩)
          · exact .inr (.inr (.inl ⟨hk, by simpa using hn⟩))
      · unfold kindK numK at hk
        rw [if_neg (by decide), if_pos rfl] at hk
        split at hk
        · exact .inr (.inl ⟨hk, fun h => by omega⟩)
        · exact .inr (.inr (.inr ⟨hk, rfl⟩))
    refine ⟨fun l hl => ?_, fun h => by omega, fun h => ?_, fun h => ?_, fun x hx => ?_, fun _ => hne⟩
    · rw [rtok_l]
      by_cases h12 : t.kind = 1 ∨ t.kind = 2 ∨ t.kind = 4
      · rw [if_pos h12]
      · rw [if_neg h12]
        constructor
        · intro e; rw [← e] at hl; cases hl
        · intro e
          have := hno (by rw [e]; exact hl)
          rcases hkind with ⟨h, _⟩ | ⟨h, h'⟩ | ⟨h, _⟩ | ⟨h, h'⟩
          · omega
          · exact absurd this h'
          · omega
          · omega
    · cases hkw : kwL.contains t.l with
      | false => rfl
      | true =>
        have := hno hkw
        rcases hkind with ⟨h', _⟩ | ⟨h', _⟩ | ⟨_, h'⟩ | ⟨h', _⟩
        · omega
        · omega
        · rw [h'] at this; cases this.2
        · omega
    · cases hkw : kwL.contains t.l with
      | false => rfl
      | true =>
        have := hno hkw
        rcases hkind with ⟨h', _⟩ | ⟨h', _⟩ | ⟨h', _⟩ | ⟨_, h'⟩ <;> omega
    · constructor
      · intro e
        exact absurd e (hsg _ (by rcases hx with rfl | rfl | rfl <;> decide))
      · rintro ⟨h, _⟩; omega
  · have hc4 := cls_le c.toNat
    have hk' : (t.kind = 4 ∧ cls c.toNat = 3) ∨ (t.kind = 5 ∧ cls c.toNat = 4) := by
      unfold kindK at hk
      rw [if_neg (by omega), if_neg (by omega)] at hk
      by_cases e : cls c.toNat = 3
      · rw [if_pos e] at hk; exact .inl ⟨hk, e⟩
      · rw [if_neg e] at hk; exact .inr ⟨hk, by omega⟩
    have hno : kwL.contains t.l = true → cls c.toNat = 3 := by
      intro hkw
      rcases kw_cases hkw with ⟨d, hd, h3'⟩ | ⟨hkp, d, hd, h1⟩
      · rw [hc] at hd; simp at hd; rw [hd]; exact h3'
      · rw [hc] at hd; simp at hd; rw [hd] at h1; omega
    refine ⟨fun l hl => ?_, fun h => by omega, fun h => by omega, fun h => by omega, fun x hx => ?_, fun _ => by rw [hc]; simp⟩
    · rw [rtok_l]
      rcases hk' with ⟨h, _⟩ | ⟨h, h'⟩
      · rw [if_pos (.inr (.inr h))]
      · rw [if_neg (by omega)]
        constructor
        · intro e; rw [← e] at hl; cases hl
        · intro e
          have := hno (by rw [e]; exact hl)
          omega
    · rw [hc]
      constructor
      · intro e
        have ec : c = UInt8.ofNat x := by simpa using e
        have h3' : cls c.toNat = 3 := by rw [ec]; rcases hx with rfl | rfl | rfl <;> decide
        refine ⟨by omega, ?_⟩
        rw [ec]; rcases hx with rfl | rfl | rfl <;> rfl
      · rintro ⟨_, e⟩
        have e' : c.toNat = x := e
        rw [← e']; simp

/-- the tokens of a text, each as bytes make it. -/
theorem toks_F (s : ByteArray) (i : Nat) : TkF (tkAt (toks s) i) := by
  rw [toks_list]
  by_cases h : i < (tk 0 s.data.toList).length
  · rw [tkAt_left h]; exact TkF.ofFine (tk_fine _ _ _ rfl _ (tkAt_mem h))
  · by_cases e : i = (tk 0 s.data.toList).length
    · rw [e, tkAt_mid]; exact TkF.ofEnd _
    · have : tkAt (tk 0 s.data.toList ++ [⟨0, s.size, ⟨#[]⟩⟩]) i = tkEnd := by
        unfold tkAt
        rw [List.getD_eq_getElem?_getD, List.getElem?_eq_none (by simp; omega)]
        rfl
      rw [this]; exact TkF.ofEnd 0

section
variable {t : Tk} (h : TkF t)
include h
theorem TkF.not0 (hk : kwL.contains t.l = true) : t.kind ≠ 0 := fun e => by rw [h.k0 e] at hk; cases hk
theorem TkF.not1 (hk : kwL.contains t.l = true) : t.kind ≠ 1 := fun e => by rw [h.k1 e] at hk; cases hk
theorem TkF.not3 (hk : kwL.contains t.l = true) : t.kind ≠ 3 := fun e => by rw [h.k3 e] at hk; cases hk
theorem TkF.op : opOf (rtok t).l = opOf t.l := by
  have e : ∀ (l : List UInt8), kwL.contains l = true → ∀ (x y : Option Nat), (if (rtok t).l = l then x else y) = if t.l = l then x else y := fun l hl x y => by
    by_cases e : t.l = l
    · rw [if_pos e, if_pos ((h.kw l hl).2 e)]
    · rw [if_neg e, if_neg (fun e' => e ((h.kw l hl).1 e'))]
  unfold opOf
  rw [e [43] (by decide), e [45] (by decide), e [42] (by decide), e [47] (by decide), e [60] (by decide), e [61] (by decide), e [38] (by decide), e [124] (by decide)]
theorem TkF.rl : rop (rtok t).l = (opOf t.l).isSome := by unfold rop; rw [h.op]
theorem TkF.eq {l : List UInt8} (hl : kwL.contains l = true) : ((rtok t).l == l) = (t.l == l) := by
  rw [Bool.eq_iff_iff, beq_iff_eq, beq_iff_eq]; exact h.kw l hl
theorem TkF.if {α : Type} {l : List UInt8} (hl : kwL.contains l = true) (x y : α) : (if (rtok t).l = l then x else y) = if t.l = l then x else y := by
  by_cases e : t.l = l
  · rw [if_pos e, if_pos ((h.kw l hl).2 e)]
  · rw [if_neg e, if_neg (fun e' => e ((h.kw l hl).1 e'))]
end

theorem c97 (t : Tk) : ((rtok t).c == 97) = (t.kind == 1) := by
  unfold rtok; simp only; rw [Bool.eq_iff_iff, beq_iff_eq, beq_iff_eq]
  constructor
  · intro h; split at h; omega; split at h; assumption; split at h; omega; split at h; omega; split at h <;> omega
  · intro h; rw [h]; rfl
theorem c110 (t : Tk) : ((rtok t).c == 110) = (t.kind == 3) := by
  unfold rtok; simp only; rw [Bool.eq_iff_iff, beq_iff_eq, beq_iff_eq]
  constructor
  · intro h; split at h; omega; split at h; omega; split at h; omega; split at h; assumption; split at h <;> omega
  · intro h; rw [h]; rfl
theorem c101 (t : Tk) : ((rtok t).c == 101) = (t.kind == 0) := by
  unfold rtok; simp only; rw [Bool.eq_iff_iff, beq_iff_eq, beq_iff_eq]
  constructor
  · intro h; split at h; assumption; split at h; omega; split at h; omega; split at h; omega; split at h <;> omega
  · intro h; rw [h]; rfl
theorem c115 (t : Tk) : ((rtok t).c == 115) = (t.kind == 4) := by
  unfold rtok; simp only; rw [Bool.eq_iff_iff, beq_iff_eq, beq_iff_eq]
  constructor
  · intro h; split at h; omega; split at h; omega; split at h; omega; split at h; omega; split at h <;> omega
  · intro h; rw [h]; rfl
theorem rn3 {t : Tk} (h : t.kind = 3) : (rtok t).n = valOf t.l := by unfold rtok; simp only; rw [if_pos h]; rfl

/-- a literal token. -/
def litT (t : Tk) : Bool := t.kind == 3 || t.l == kTrue || t.l == kFalse
theorem TkF.lit {t : Tk} (h : TkF t) : rlit (rtok t) = litT t := by
  unfold rlit litT; rw [c110, h.eq (by decide), h.eq (by decide)]

end Go.Proofs.Ytmndgoapkmhglab

/- Plain mathematics: the parts of a text as the two readers find them. -/
namespace Go.Proofs.Ytmndgoapkmhglab

/-- an expression: a token alone, or what stands in brackets. -/
inductive Ast where
  | leaf
  | neg (a : Ast)
  | ite (a b c : Ast)
  | dly (b : Ast)
  | bin (a b : Ast)

/-- how many tokens. -/
def Ast.len : Ast → Nat
  | .leaf => 1
  | .neg a => a.len + 3
  | .ite a b c => a.len + b.len + c.len + 3
  | .dly b => b.len + 4
  | .bin a b => a.len + b.len + 3
/-- how many nodes. -/
def Ast.size : Ast → Nat
  | .leaf => 1
  | .neg a => a.size + 1
  | .ite a b c => a.size + b.size + c.size + 1
  | .dly b => b.size + 2
  | .bin a b => a.size + b.size + 1

def leafT (t : Tk) : Bool := litT t || t.kind == 1

abbrev lAt (ts : List Tk) (i : Nat) : List UInt8 := (tkAt ts i).l

/-- an expression stands at token i. -/
def Sp (ts : List Tk) : Ast → Nat → Prop
  | .leaf, i => leafT (tkAt ts i) = true ∧ lAt ts i ≠ [40]
  | .neg a, i => lAt ts i = [40] ∧ lAt ts (i + 1) = kNot ∧ Sp ts a (i + 2) ∧ lAt ts (i + 2 + a.len) = [41]
  | .ite a b c, i => lAt ts i = [40] ∧ lAt ts (i + 1) = kIf ∧ Sp ts a (i + 2) ∧ Sp ts b (i + 2 + a.len) ∧ Sp ts c (i + 2 + a.len + b.len) ∧ lAt ts (i + 2 + a.len + b.len + c.len) = [41]
  | .dly b, i => lAt ts i = [40] ∧ litT (tkAt ts (i + 1)) = true ∧ lAt ts (i + 2) = kFby ∧ Sp ts b (i + 3) ∧ lAt ts (i + 3 + b.len) = [41]
  | .bin a b, i => lAt ts i = [40] ∧ Sp ts a (i + 1) ∧ (opOf (lAt ts (i + 1 + a.len))).isSome = true ∧ Sp ts b (i + 2 + a.len) ∧ lAt ts (i + 2 + a.len + b.len) = [41]

def mkN (ts : List Tk) (i dl : Nat) (n : Nd) : Nd :=
  { n with pos := (tkAt ts i).pos, delayed := decide (0 < dl), behind := decide (0 < i) && ((tkAt ts (i - 1)).l == kFby) }

def leafN0 (t : Tk) : Nd :=
  if t.l = kTrue then { ndZero with kind := 1, value := 1 } else if t.l = kFalse then { ndZero with kind := 1 }
  else if t.kind = 3 then { ndZero with kind := 0, value := valOf t.l } else { ndZero with kind := 2, name := t.text }

/-- the nodes of an expression at token i, behind so many delays, the first of them number off. -/
def flat (ts : List Tk) : Ast → Nat → Nat → Nat → List Nd
  | .leaf, i, dl, _ => [mkN ts i dl (leafN0 (tkAt ts i))]
  | .neg a, i, dl, off => mkN ts i dl { ndZero with kind := 3, a := off + 1 } :: flat ts a (i + 2) dl (off + 1)
  | .ite a b c, i, dl, off => mkN ts i dl { ndZero with kind := 4, a := off + 1, b := off + 1 + a.size, c := off + 1 + a.size + b.size } ::
      (flat ts a (i + 2) dl (off + 1) ++ (flat ts b (i + 2 + a.len) dl (off + 1 + a.size) ++ flat ts c (i + 2 + a.len + b.len) dl (off + 1 + a.size + b.size)))
  | .dly b, i, dl, off => mkN ts i dl { ndZero with kind := 5, a := off + 1, b := off + 2 } :: mkN ts (i + 1) dl (leafN0 (tkAt ts (i + 1))) :: flat ts b (i + 3) (dl + 1) (off + 2)
  | .bin a b, i, dl, off => mkN ts i dl { ndZero with kind := 6, op := (opOf (lAt ts (i + 1 + a.len))).getD 0, a := off + 1, b := off + 1 + a.size } ::
      (flat ts a (i + 1) dl (off + 1) ++ flat ts b (i + 2 + a.len) dl (off + 1 + a.size))

theorem flat_len (ts : List Tk) : ∀ (t : Ast) i dl off, (flat ts t i dl off).length = t.size := by
  intro t
  induction t with
  | leaf => intro i dl off; rfl
  | neg a iha => intro i dl off; simp [flat, Ast.size, iha]
  | ite a b c iha ihb ihc => intro i dl off; simp [flat, Ast.size, iha, ihb, ihc]; omega
  | dly b ihb => intro i dl off; simp [flat, Ast.size, ihb]
  | bin a b iha ihb => intro i dl off; simp [flat, Ast.size, iha, ihb]

/-- the reader with a list of what may still come (its next one first): what it answers, in at most n steps. -/
inductive Ans (ts : List Tk) : Nat → List UInt8 → Int → Nat → Int → Prop
  | done (n : Nat) (X : List UInt8) (d : Int) (i : Nat) (hi : i < ts.length) (hX : X.length ≤ 99) (hk : (tkAt ts i).kind = 0) : Ans ts n (80 :: X) d i (-1)
  | fail (n : Nat) (x : UInt8) (X : List UInt8) (d : Int) (i : Nat) (hi : i < ts.length) (hX : X.length ≤ 99) (h80 : ¬ (x = 80 ∧ (tkAt ts i).kind = 0)) (hr : (ruleF x.toNat (rtok (tkAt ts i)) d).2.2 = false) : Ans ts n (x :: X) d i ((tkAt ts i).pos : Int)
  | step (n : Nat) (x : UInt8) (X : List UInt8) (d : Int) (i : Nat) (r : Int) (m : List UInt8) (u : Bool) (hi : i < ts.length) (hX : X.length ≤ 99) (h80 : ¬ (x = 80 ∧ (tkAt ts i).kind = 0))
      (hr : ruleF x.toNat (rtok (tkAt ts i)) d = (m, u, true))
      (hn : Ans ts n (m ++ X) (if u = true ∧ lAt ts i = [40] then d + 1 else if u = true ∧ lAt ts i = [41] then d - 1 else d) (if u = true then i + 1 else i) r) : Ans ts (n + 1) (x :: X) d i r

section
variable {ts : List Tk} (hF : ∀ i, TkF (tkAt ts i))
include hF

omit hF in
/-- a token is used up that is no bracket. -/
theorem Ans.use {n : Nat} {x : UInt8} {X m : List UInt8} {d : Int} {i : Nat} {r : Int} (hi : i < ts.length) (hX : X.length ≤ 99) (h80 : x ≠ 80)
    (hr : ruleF x.toNat (rtok (tkAt ts i)) d = (m, true, true)) (h1 : lAt ts i ≠ [40]) (h2 : lAt ts i ≠ [41])
    (hn : Ans ts n (m ++ X) d (i + 1) r) : Ans ts (n + 1) (x :: X) d i r := by
  refine Ans.step n x X d i r m true hi hX (fun h => h80 h.1) hr ?_
  rw [if_neg (fun h => h1 h.2), if_neg (fun h => h2 h.2), if_pos rfl]
  exact hn

theorem Ans.sign {n : Nat} {X : List UInt8} {d : Int} {i : Nat} {r : Int} (x : Nat) (hx : x = 59 ∨ x = 61) (hi : i < ts.length) (hX : X.length ≤ 99) (h : lAt ts i = [UInt8.ofNat x])
    (hn : Ans ts n X d (i + 1) r) : Ans ts (n + 1) (UInt8.ofNat x :: X) d i r := by
  have hs := (hF i).sg x (by omega)
  have hk := hs.1 h
  refine Ans.use hi hX (by rcases hx with rfl | rfl <;> decide) (m := []) ?_ (by rw [h]; rcases hx with rfl | rfl <;> decide) (by rw [h]; rcases hx with rfl | rfl <;> decide) hn
  have hl : (rtok (tkAt ts i)).l = lAt ts i := (hF i).kw _ (by rw [h]; rcases hx with rfl | rfl <;> decide) |>.2 rfl
  have hc := c115 (tkAt ts i)
  rw [hk.1] at hc
  rcases hx with rfl | rfl
  all_goals
    unfold ruleF
    rw [if_neg (by decide), if_neg (by decide), if_neg (by decide), if_neg (by decide), if_neg (by decide), if_neg (by decide), if_neg (by decide), if_neg (by decide), hc, hl, hk.2]
    rfl

theorem Ans.close {n : Nat} {X : List UInt8} {d : Int} {i : Nat} {r : Int} (hi : i < ts.length) (hX : X.length ≤ 99) (h : lAt ts i = [41])
    (hn : Ans ts n X (d - 1) (i + 1) r) : Ans ts (n + 1) (41 :: X) d i r := by
  have hs := (hF i).sg 41 (by omega)
  have hk := hs.1 h
  have hl : (rtok (tkAt ts i)).l = lAt ts i := (hF i).kw _ (by rw [h]; decide) |>.2 rfl
  have hc := c115 (tkAt ts i)
  rw [hk.1] at hc
  refine Ans.step n 41 X d i r [] true hi hX (fun h => absurd h.1 (by decide)) ?_ ?_
  · unfold ruleF
    rw [if_neg (by decide), if_neg (by decide), if_neg (by decide), if_neg (by decide), if_neg (by decide), if_neg (by decide), if_neg (by decide), if_neg (by decide), hc, hl, hk.2]
    rfl
  · rw [if_neg (by rw [h]; decide), if_pos ⟨rfl, h⟩, if_pos rfl]
    exact hn

theorem Ans.nosign {X : List UInt8} {d : Int} {i : Nat} (x : Nat) (hx : x = 59 ∨ x = 61 ∨ x = 41) (hi : i < ts.length) (hX : X.length ≤ 99) (h : lAt ts i ≠ [UInt8.ofNat x]) :
    Ans ts 0 (UInt8.ofNat x :: X) d i ((tkAt ts i).pos : Int) := by
  have hs := (hF i).sg x hx
  refine Ans.fail 0 _ X d i hi hX (fun h => absurd h.1 (by rcases hx with rfl | rfl | rfl <;> decide)) ?_
  have hc := c115 (tkAt ts i)
  have key : ((rtok (tkAt ts i)).c == 115 && (((rtok (tkAt ts i)).l.getD 0 0).toNat == x)) = false := by
    rw [hc]
    by_cases h4 : (tkAt ts i).kind = 4
    · have hl : (rtok (tkAt ts i)).l = lAt ts i := by rw [rtok_l, if_pos (.inr (.inr h4))]
      rw [hl]
      have : (((lAt ts i).getD 0 0).toNat == x) = false := by rw [beq_eq_false_iff_ne]; exact fun e => h (hs.2 ⟨h4, e⟩)
      rw [this, Bool.and_false]
    · simp [h4]
  rcases hx with rfl | rfl | rfl
  all_goals
    unfold ruleF
    rw [if_neg (by decide), if_neg (by decide), if_neg (by decide), if_neg (by decide), if_neg (by decide), if_neg (by decide), if_neg (by decide), if_neg (by decide)]
    exact key

end

end Go.Proofs.Ytmndgoapkmhglab
