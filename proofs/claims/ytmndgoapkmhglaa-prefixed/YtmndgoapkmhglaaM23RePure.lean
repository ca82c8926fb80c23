import Derived.Test.YtmndgoapkmhglaaM11Tko
/- Plain mathematics: a right text laid out is the same text. -/
namespace Go.Proofs.Ytmndgoapkmhglaa

/-- the tokens of a right text, one by one. -/
theorem right_tok (s : ByteArray) (hs : s.size ≤ 1500) (h : (textF s).1 = 0) (i : Nat) (hi : i < (tk 0 s.data.toList).length) :
    (tkAt (toks s) i).kind = 1 ∨ (tkAt (toks s) i).kind = 3 ∨ kwL.contains (tkAt (toks s) i).l = true := by
  obtain ⟨p, hp⟩ := text_ok hs h
  obtain ⟨h1, h2, _⟩ := end_at s hs p hp
  by_cases k1 : (tkAt (toks s) i).kind = 1
  · exact .inl k1
  by_cases k3 : (tkAt (toks s) i).kind = 3
  · exact .inr (.inl k3)
  by_cases kw : kwL.contains (tkAt (toks s) i).l = true
  · exact .inr (.inr kw)
  exfalso
  have hlt : i < (toks s).length := by rw [toks_list]; simp; omega
  have hc : CutTs i (toks s) (toks s) := ⟨toks_ok s hs, hlt, hlt, fun _ _ => rfl, k1, k3, by simpa using kw⟩
  have hk0 : (tkAt (toks s) i).kind ≠ 0 := by
    rw [toks_list, tkAt_left hi]
    exact (tk_kind _ _ _ rfl _ (tkAt_mem hi)).1
  have he := declsC hc (.inl hk0) _ (toks s).length _ _ (Nat.zero_le _) (by simp) hp h2 (by rw [h1]; omega)
  have hp' : declsF (toks s) (toks s).length pZero = .ok p := hp
  rw [hp'] at he
  cases he

/-- the two ways to lay out are one. -/
theorem outN_list (A : List Tk) (e : Tk) (he : bareL e = []) (hel : e.l = []) : ∀ m j, A.length - j = m → 1 ≤ j → j ≤ A.length → outN (A ++ [e]) (A.length + 1) = outN (A ++ [e]) j ++ outG (tkAt (A ++ [e]) (j - 1)).l (A.drop j) := by
  intro m
  induction m with
  | zero =>
    intro j hm h1 hj
    have : j = A.length := by omega
    subst this
    rw [outN, pieceL, if_neg (by omega), tkAt_mid, he, hel, List.append_nil, List.drop_length]
    rfl
  | succ m ih =>
    intro j hm h1 hj
    have hlt : j < A.length := by omega
    rw [ih (j + 1) (by omega) (by omega) (by omega), outN, pieceL, if_neg (by omega), List.drop_eq_getElem_cons hlt, outG]
    have e1 : tkAt (A ++ [e]) j = A[j]'hlt := by rw [tkAt_left hlt]; unfold tkAt; rw [List.getD_eq_getElem?_getD, List.getElem?_eq_getElem hlt]; rfl
    rw [show j + 1 - 1 = j by omega, e1]
    simp only [List.append_assoc]

theorem outF_list (s : ByteArray) : (outF s).data.toList = outL (tk 0 s.data.toList) := by
  show outN (toks s) (toks s).length = _
  rw [toks_list]
  have hl : (tk 0 s.data.toList ++ [(⟨0, s.size, ⟨#[]⟩⟩ : Tk)]).length = (tk 0 s.data.toList).length + 1 := by simp
  rw [hl]
  generalize hA : tk 0 s.data.toList = A
  cases A with
  | nil => rfl
  | cons t r =>
    rw [outN_list (t :: r) ⟨0, s.size, ⟨#[]⟩⟩ rfl rfl _ 1 rfl (Nat.le_refl _) (by simp)]
    rfl

theorem out_toks (s : ByteArray) : All2 OutR (toks s) (toks (outF s)) := by
  rw [toks_list (outF s), outF_list, toks_list s]
  exact All2.app (outL_tk _ (fun u hu => tk_fine _ _ _ rfl u hu) 0) ⟨⟨rfl, rfl⟩, trivial⟩

theorem text_of_l {t u : Tk} (h : u.l = t.l) : u.text = t.text := ba_ext h

theorem out_at (s : ByteArray) (i : Nat) : OutR (tkAt (toks s) i) (tkAt (toks (outF s)) i) := All2.getD (R := OutR) ⟨rfl, rfl⟩ i (out_toks s)

theorem out_tsR (s : ByteArray) : TsR (fun _ _ => True) (toks s) (toks (outF s)) := by
  refine ⟨(out_toks s).len, fun i => ?_⟩
  obtain ⟨h1, h2⟩ := out_at s i
  have hd := (toks_dig s).all i
  refine ⟨h1, trivial, fun hk => ?_, fun hk => ?_, fun hk => ?_⟩
  · rw [h2]; unfold bareL; rw [if_pos hk]; exact trim_val _
  · have := (hd hk).2
    refine ⟨this, ?_⟩
    rw [h2]; unfold bareL; rw [if_pos hk]
    intro c hc
    exact this c (trim_mem _ c hc)
  · apply text_of_l
    rw [h2]; unfold bareL; rw [if_neg hk]

theorem out_text (s : ByteArray) (hs : s.size ≤ 1500) (hs' : (outF s).size ≤ 1500) : (textF (outF s)).1 = (textF s).1 :=
  (textR (P := fun _ _ => True) trivial s (outF s) hs hs' (out_tsR s)).1

theorem out_out (s : ByteArray) : outF (outF s) = outF s := by
  have h := out_toks s
  have hp : ∀ j, pieceL (toks (outF s)) j = pieceL (toks s) j := by
    intro j
    have t1 := (out_tsR s).at' j
    have t2 := (out_tsR s).at' (j - 1)
    obtain ⟨a1, a2⟩ := out_at s j
    have hb : bareL (tkAt (toks (outF s)) j) = bareL (tkAt (toks s) j) := by
      have e : ∀ t u : Tk, OutR t u → bareL u = bareL t := by
        intro t u ⟨h1, h2⟩
        unfold bareL at h2 ⊢
        rw [h1, h2]
        by_cases hk : t.kind = 3
        · simp only [hk, if_true]; exact trim_trim _
        · simp only [hk, if_false]
      exact e _ _ ⟨a1, a2⟩
    unfold pieceL gapL
    rw [hb]
    simp only [t2.same (l := [59]) (by decide), t2.same (l := [40]) (by decide), t1.same (l := [41]) (by decide), t1.same (l := [59]) (by decide)]
  have ho : ∀ n, outN (toks (outF s)) n = outN (toks s) n := by
    intro n
    induction n with
    | zero => rfl
    | succ n ih => unfold outN; rw [ih, hp]
  have e : outF (outF s) = ⟨(outN (toks (outF s)) (toks (outF s)).length).toArray⟩ := rfl
  rw [e, h.len, ho]
  rfl

/- without blanks and noughts in front -/
def digU (c : UInt8) : Bool := decide (48 ≤ c.toNat) && decide (c.toNat ≤ 57)
def blankU (c : UInt8) : Bool := decide (c.toNat = 32) || decide (c.toNat = 10)
def moreU : List UInt8 → Bool
  | [] => false
  | c :: _ => digU c
def bareR : Bool → List UInt8 → List UInt8
  | _, [] => []
  | b, c :: r => if blankU c then bareR (b && digU c) r else if decide (c.toNat = 48) && !(b && digU c) && moreU r then bareR (b && digU c) r else c :: bareR (digU c) r

theorem dig_cls (c : UInt8) : digU c = true ↔ cls c.toNat = 2 := by
  constructor
  · intro h
    unfold digU at h
    simp at h
    exact cls_2 h.1 h.2
  · intro h
    have := cls_two h
    unfold digU; simp; exact this
theorem blank_cls (c : UInt8) : blankU c = true ↔ cls c.toNat = 0 := by
  unfold blankU cls
  constructor
  · intro h; simp at h; rw [if_pos h]
  · intro h
    split at h
    · rename_i h1; simp; exact h1
    split at h
    · cases h
    split at h
    · cases h
    split at h <;> cases h
theorem dig_no {c : UInt8} (h : cls c.toNat ≠ 2) : digU c = false := by
  cases hd : digU c
  · rfl
  · exact absurd ((dig_cls c).1 hd) h
theorem blank_no {c : UInt8} (h : cls c.toNat ≠ 0) : blankU c = false := by
  cases hd : blankU c
  · rfl
  · exact absurd ((blank_cls c).1 hd) h
theorem nought_no {c : UInt8} (h : cls c.toNat ≠ 2) : decide (c.toNat = 48) = false := by
  simp only [decide_eq_false_iff_not]
  intro e; rw [e] at h; exact h (by decide)

theorem bareR_reset {b : Bool} {rest : List UInt8} (h : Stops 2 rest) : bareR b rest = bareR false rest := by
  cases rest with
  | nil => rfl
  | cons c r =>
    have hd : digU c = false := dig_no (fun e => by have := h c rfl; unfold W at this; rw [e] at this; cases this)
    unfold bareR
    rw [hd, Bool.and_false, Bool.and_false]
theorem bareR_other {b : Bool} {c : UInt8} {r : List UInt8} (h0 : cls c.toNat ≠ 0) (h2 : cls c.toNat ≠ 2) : bareR b (c :: r) = c :: bareR false r := by
  rw [bareR, blank_no h0, nought_no h2, dig_no h2]
  rfl
theorem bareR_word {cl : Nat} (h0 : cl ≠ 0) (h2 : cl ≠ 2) : ∀ (w rest : List UInt8) (b : Bool), w ≠ [] → (∀ c ∈ w, W cl c = true) → bareR b (w ++ rest) = w ++ bareR false rest := by
  intro w
  induction w with
  | nil => intro rest b h _; exact absurd rfl h
  | cons c w ih =>
    intro rest b _ hw
    have hc := W_cls (hw c (List.mem_cons_self ..))
    rw [List.cons_append, bareR_other (by rw [hc]; exact h0) (by rw [hc]; exact h2)]
    cases w with
    | nil => rfl
    | cons d w => rw [ih rest false (by simp) (fun x hx => hw x (List.mem_cons_of_mem _ hx))]; rfl
theorem bareR_keep : ∀ (w rest : List UInt8), (∀ c ∈ w, W 2 c = true) → bareR true (w ++ rest) = w ++ bareR true rest := by
  intro w
  induction w with
  | nil => intro rest _; rfl
  | cons c w ih =>
    intro rest hw
    have hc := W_cls (hw c (List.mem_cons_self ..))
    have hd : digU c = true := (dig_cls c).2 hc
    rw [List.cons_append, bareR, blank_no (by rw [hc]; decide), hd]
    simp only [Bool.and_self, Bool.not_true, Bool.and_false, Bool.false_eq_true, if_false]
    rw [ih rest (fun x hx => hw x (List.mem_cons_of_mem _ hx))]
    rfl
theorem bareR_num : ∀ (w rest : List UInt8), w ≠ [] → (∀ c ∈ w, W 2 c = true) → Stops 2 rest → bareR false (w ++ rest) = trimL w ++ bareR false rest := by
  intro w
  induction w with
  | nil => intro rest h; exact absurd rfl h
  | cons c w ih =>
    intro rest _ hw hr
    have hc := W_cls (hw c (List.mem_cons_self ..))
    have hd : digU c = true := (dig_cls c).2 hc
    have hw' : ∀ x ∈ w, W 2 x = true := fun x hx => hw x (List.mem_cons_of_mem _ hx)
    rw [List.cons_append, bareR, blank_no (by rw [hc]; decide), hd]
    simp only [Bool.not_false, Bool.and_true, Bool.false_eq_true, if_false]
    cases w with
    | nil =>
      have hm : moreU rest = false := by
        cases rest with
        | nil => rfl
        | cons d r => exact dig_no (fun e => by have := hr d rfl; unfold W at this; rw [e] at this; cases this)
      rw [List.nil_append, hm, Bool.and_false]
      simp only [Bool.false_eq_true, if_false]
      rw [bareR_reset hr]
      rfl
    | cons d w =>
      have hm : moreU (d :: w ++ rest) = true := (dig_cls d).2 (W_cls (hw' d (List.mem_cons_self ..)))
      rw [hm, Bool.and_true]
      by_cases h48 : c.toNat = 48
      · have hc48 : c = 48 := UInt8.toNat_inj.1 (by rw [h48]; rfl)
        rw [if_pos (by simpa using h48), ih rest (by simp) hw' hr]
        conv => rhs; rw [trimL, if_pos hc48]
      · have hc48 : c ≠ 48 := fun e => h48 (by rw [e]; rfl)
        rw [if_neg (by simpa using h48), bareR_keep _ _ hw', bareR_reset hr]
        conv => rhs; rw [trimL, if_neg hc48]
        rfl

theorem dw_head (p : UInt8 → Bool) : ∀ (r : List UInt8) (d : UInt8), (r.dropWhile p).head? = some d → p d = false := by
  intro r
  induction r with
  | nil => intro d h; simp at h
  | cons c r ih =>
    intro d h
    rw [List.dropWhile_cons] at h
    split at h
    · exact ih d h
    · rename_i hc
      simp at h
      subst h
      simpa using hc

def bareC (t : Tk) : List UInt8 := if moreU t.l then trimL t.l else t.l

theorem bareR_tk : ∀ n k (l : List UInt8), l.length = n → bareR false l = (tk k l).flatMap bareC := by
  intro n
  induction n using Nat.strongRecOn with
  | _ n ih =>
    intro k l hn
    cases l with
    | nil => rfl
    | cons c r =>
      simp only [List.length_cons] at hn
      by_cases h0 : cls c.toNat = 0
      · rw [tk_blank h0, bareR, (blank_cls c).2 h0, Bool.false_and]
        simp only [if_true]
        exact ih r.length (by omega) (k + 1) r rfl
      · have hl := take_drop_len (W (cls c.toNat)) r
        by_cases h12 : cls c.toNat = 1 ∨ cls c.toNat = 2
        · have hsp : c :: r = (c :: r.takeWhile (W (cls c.toNat))) ++ r.dropWhile (W (cls c.toNat)) := by rw [List.cons_append, List.takeWhile_append_dropWhile]
          have hall : ∀ d ∈ c :: r.takeWhile (W (cls c.toNat)), W (cls c.toNat) d = true := by
            intro d hd
            rcases List.mem_cons.1 hd with rfl | hd
            · exact W_self d
            · exact tw_all _ r d hd
          have hst : Stops (cls c.toNat) (r.dropWhile (W (cls c.toNat))) := by
            intro d hd
            exact dw_head _ r d hd
          rw [tk_word h12, List.flatMap_cons]
          have hrest := ih (r.dropWhile (W (cls c.toNat))).length (by omega) (k + 1 + (r.takeWhile (W (cls c.toNat))).length) _ rfl
          rw [← hrest]
          have htl : (tokW k (c :: r.takeWhile (W (cls c.toNat))) (cls c.toNat)).l = c :: r.takeWhile (W (cls c.toNat)) := by simp [tokW, Tk.l]
          unfold bareC
          rw [htl]
          rcases h12 with h1 | h2
          · have hm : moreU (c :: r.takeWhile (W (cls c.toNat))) = false := dig_no (by rw [h1]; decide)
            rw [hm]
            simp only [Bool.false_eq_true, if_false]
            conv => lhs; rw [hsp]
            exact bareR_word (cl := cls c.toNat) (by omega) (by omega) _ _ _ (by simp) hall
          · have hm : moreU (c :: r.takeWhile (W (cls c.toNat))) = true := (dig_cls c).2 h2
            rw [hm]
            simp only [if_true]
            conv => lhs; rw [hsp]
            rw [h2] at hall hst ⊢
            exact bareR_num _ _ (by simp) hall hst
        · rw [tk_one (by omega), bareR_other h0 (by omega), List.flatMap_cons]
          rw [ih r.length (by omega) (k + 1) r rfl]
          have htl : (tokW k [c] (cls c.toNat)).l = [c] := by simp [tokW, Tk.l]
          unfold bareC
          rw [htl, show moreU [c] = false from dig_no (by omega)]
          rfl
theorem all2_flat {R : Tk → Tk → Prop} {f g : Tk → List UInt8} (h : ∀ t u, R t u → g u = f t) : ∀ {l m : List Tk}, All2 R l m → m.flatMap g = l.flatMap f := by
  intro l
  induction l with
  | nil => intro m hm; cases m with
    | nil => rfl
    | cons b m => exact hm.elim
  | cons a l ih => intro m hm; cases m with
    | nil => exact hm.elim
    | cons b m => rw [List.flatMap_cons, List.flatMap_cons, h a b hm.1, ih hm.2]

theorem out_bare (s : ByteArray) (hs : s.size ≤ 1500) (h : (textF s).1 = 0) : bareR false (outF s).data.toList = bareR false s.data.toList := by
  rw [bareR_tk _ 0 _ rfl, bareR_tk _ 0 _ rfl, outF_list]
  have hA := outL_tk (tk 0 s.data.toList) (fun u hu => tk_fine _ _ _ rfl u hu) 0
  have hright : ∀ t ∈ tk 0 s.data.toList, (t.kind = 3 → ∀ c ∈ t.l, W 2 c = true) ∧ (t.kind = 3 → t.l ≠ []) ∧ (t.kind ≠ 3 → moreU t.l = false) := by
    intro t ht
    have hf := tk_fine _ _ _ rfl t ht
    obtain ⟨i, hi, rfl⟩ := List.getElem_of_mem ht
    have hr := right_tok s hs h i hi
    have e1 : tkAt (toks s) i = (tk 0 s.data.toList)[i]'hi := by
      rw [toks_list, tkAt_left hi]; unfold tkAt; rw [List.getD_eq_getElem?_getD, List.getElem?_eq_getElem hi]; rfl
    rw [e1] at hr
    generalize (tk 0 s.data.toList)[i]'hi = t at hf hr
    rcases hf with ⟨cl, hcl, hne, hal, hk⟩ | ⟨c, hl, hc, hk⟩
    · refine ⟨fun h3 => ?_, fun _ => hne, fun h3 => ?_⟩
      · obtain ⟨rfl, _⟩ := kind3_cls (hk ▸ h3)
        exact hal
      · rcases hcl with rfl | rfl
        · cases hl : t.l with
          | nil => rfl
          | cons c r => exact dig_no (by rw [W_cls (hal c (by rw [hl]; simp))]; decide)
        · exfalso
          rcases hr with hr | hr | hr
          · rw [hk] at hr; unfold kindK numK at hr; rw [if_neg (by decide), if_pos rfl] at hr; split at hr <;> cases hr
          · exact h3 hr
          · have hw : ∀ l : List UInt8, kwL.contains l = true → ∃ c ∈ l, W 2 c = false := by
              intro l hl
              have hm : l ∈ kwL := by simpa using hl
              have : ∀ m ∈ kwL, m.any (fun c => !W 2 c) = true := by decide
              have := this l hm
              rw [List.any_eq_true] at this
              obtain ⟨c, hc, hd⟩ := this
              exact ⟨c, hc, by simpa using hd⟩
            obtain ⟨c, hc, hd⟩ := hw _ hr
            rw [hal c hc] at hd
            cases hd
    · refine ⟨fun h3 => ?_, fun _ => by rw [hl]; simp, fun _ => by rw [hl]; exact dig_no (by omega)⟩
      have := (kind3_cls (hk ▸ h3)).1
      omega
  have hB : All2 (fun t u => OutR t u ∧ (t.kind = 3 → ∀ c ∈ t.l, W 2 c = true) ∧ (t.kind = 3 → t.l ≠ []) ∧ (t.kind ≠ 3 → moreU t.l = false)) (tk 0 s.data.toList) (tk 0 (outL (tk 0 s.data.toList))) := by
    have : ∀ (l m : List Tk), All2 OutR l m → (∀ t ∈ l, (t.kind = 3 → ∀ c ∈ t.l, W 2 c = true) ∧ (t.kind = 3 → t.l ≠ []) ∧ (t.kind ≠ 3 → moreU t.l = false)) → All2 (fun t u => OutR t u ∧ (t.kind = 3 → ∀ c ∈ t.l, W 2 c = true) ∧ (t.kind = 3 → t.l ≠ []) ∧ (t.kind ≠ 3 → moreU t.l = false)) l m := by
      intro l
      induction l with
      | nil => intro m hm _; cases m with
        | nil => exact trivial
        | cons b m => exact hm.elim
      | cons a l ih => intro m hm hr; cases m with
        | nil => exact hm.elim
        | cons b m => exact ⟨⟨hm.1, hr a (List.mem_cons_self ..)⟩, ih m hm.2 (fun t ht => hr t (List.mem_cons_of_mem _ ht))⟩
    exact this _ _ hA hright
  refine all2_flat ?_ hB
  intro t u ⟨⟨h1, h2⟩, h3, h3', h4⟩
  unfold bareC
  by_cases hk : t.kind = 3
  · have e : u.l = trimL t.l := by rw [h2]; unfold bareL; rw [if_pos hk]
    have m1 : ∀ l : List UInt8, l ≠ [] → (∀ c ∈ l, W 2 c = true) → moreU l = true := by
      intro l hl ha
      cases l with
      | nil => exact absurd rfl hl
      | cons c r => exact (dig_cls c).2 (W_cls (ha c (List.mem_cons_self ..)))
    rw [e, m1 _ (trim_ne (h3' hk)) (fun c hc => h3 hk c (trim_mem _ c hc)), m1 _ (h3' hk) (h3 hk)]
    simp only [if_true]
    exact trim_trim _
  · have e : u.l = t.l := by rw [h2]; unfold bareL; rw [if_neg hk]
    rw [e]

end Go.Proofs.Ytmndgoapkmhglaa
