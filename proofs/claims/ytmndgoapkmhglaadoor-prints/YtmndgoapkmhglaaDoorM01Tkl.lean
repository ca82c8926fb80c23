import Derived.Test.YtmndgoapkmhglaaDoorM00Cut
/- Plain mathematics: declarations, and a token that stands nowhere. -/
namespace Go.Proofs.YtmndgoapkmhglaaDoor

theorem place_fwd {ts : List Tk} (ht : TsOk ts) {p p' : PS} {r : Nat} (h : p.next < ts.length) (he : placeF ts p = .ok (r, p')) : Fwd ts p p' := by
  unfold placeF at he
  split at he
  · rename_i hk; cases he; exact fwd_adv ht h (.inl (by rw [hk.1]; decide))
  · cases he

theorem take_fwd {ts : List Tk} (ht : TsOk ts) {p p' : PS} {l : List UInt8} (hl : l ≠ []) (h : p.next < ts.length) (he : p.take ts l = .ok p') : Fwd ts p p' := by
  obtain ⟨rfl, e⟩ := take_grow he
  exact fwd_adv ht h (.inr (by rw [e]; exact hl))

/-- a declaration ends behind a ; -/
theorem take_prev {ts : List Tk} (ht : TsOk ts) {p p' : PS} {l : List UInt8} (hl : l ≠ []) (h : p.next < ts.length) (he : p.take ts l = .ok p') : (tkAt ts (p'.next - 1)).l = l := by
  obtain ⟨rfl, e⟩ := take_grow he
  rw [adv_next ht h (.inr (by rw [e]; exact hl))]
  exact e

theorem declarationM {ts : List Tk} (ht : TsOk ts) {p p' : PS} (h : p.next < ts.length) (he : declarationF ts p = .ok p') : Fwd ts p p' ∧ (tkAt ts (p'.next - 1)).l = [59] := by
  have inp : (p.hd ts).l ≠ [] → inputF ts p = .ok p' → Fwd ts p p' ∧ (tkAt ts (p'.next - 1)).l = [59] := by
    intro hl he
    have s1 := fwd_adv ht h (.inr hl)
    unfold inputF at he
    split at he
    · rename_i hk
      have s2 := fwd_adv ht s1.2 (.inl (by rw [hk]; decide))
      have s3 := take_fwd ht (p := ((p.adv ts).adv ts).declare _) (by decide) s2.2 he
      exact ⟨(s1.trans s2).trans s3, take_prev ht (p := ((p.adv ts).adv ts).declare _) (by decide) s2.2 he⟩
    · cases he
  have eqn : ∀ kind, (p.hd ts).l ≠ [] → equationF ts kind p = .ok p' → Fwd ts p p' ∧ (tkAt ts (p'.next - 1)).l = [59] := by
    intro kind hl he
    have s1 := fwd_adv ht h (.inr hl)
    unfold equationF at he
    split at he
    · rename_i hk
      have s2 := fwd_adv ht s1.2 (.inl (by rw [hk]; decide))
      split at he
      · cases he
      rename_i p3 e3
      have s3 := take_fwd ht (by decide) s2.2 e3
      split at he
      · cases he
      rename_i pl p4 e4
      have s4 := place_fwd ht s3.2 e4
      split at he
      · cases he
      rename_i p5 e5
      have s5 := take_fwd ht (by decide) s4.2 e5
      split at he
      · cases he
      rename_i r p6 e6
      have s6 := exprM ht 16 _ _ _ s5.2 e6
      have s7 := take_fwd ht (p := p6.declare _) (by decide) s6.2 he
      exact ⟨(((((s1.trans s2).trans s3).trans s4).trans s5).trans s6).trans s7, take_prev ht (p := p6.declare _) (by decide) s6.2 he⟩
    · cases he
  unfold declarationF at he
  split at he
  · rename_i hl; exact inp (by rw [hl]; decide) he
  split at he
  · rename_i hl; exact eqn 1 (by rw [hl]; decide) he
  split at he
  · rename_i hl; exact eqn 2 (by rw [hl]; decide) he
  · cases he

section
variable {k : Nat} {ts ts' : List Tk}

theorem CutTs.place (hc : CutTs k ts ts') {p p' : PS} {r : Nat} (h : p.next ≤ k) (he : placeF ts p = .ok (r, p')) : CutTo k p' (r, p') (placeF ts' p) := by
  have hf := place_fwd hc.ok (by have := hc.lt; omega) he
  by_cases hp : p.next = k
  · refine .inr ⟨by have := hf.1; omega, ?_⟩
    have hh : p.hd ts' = tkAt ts' k := by unfold PS.hd; rw [hp]
    unfold placeF
    rw [hh, if_neg (fun x => hc.kind3 x.1), hp]
  · have hp' : p.next < k := by omega
    unfold placeF at he ⊢
    rw [hc.hd hp']
    split at he
    · rename_i hk
      cases he
      rw [if_pos hk, (hc.adv hp').1]
      exact .inl ⟨by rw [(hc.adv hp').2]; omega, rfl⟩
    · cases he

theorem declarationB (hc : CutTs k ts ts') {p : PS} (h : p.next = k) : declarationF ts' p = .error k := by
  have hh : p.hd ts' = tkAt ts' k := by unfold PS.hd; rw [h]
  unfold declarationF
  rw [hh, if_neg (hc.no (by decide)), if_neg (hc.no (by decide)), if_neg (hc.no (by decide)), h]

theorem declarationC (hc : CutTs k ts ts') {p p' : PS} (hp : p.next ≤ k) (he : declarationF ts p = .ok p') : CutTo k p' p' (declarationF ts' p) := by
  have hlt := hc.lt
  have hf := (declarationM hc.ok (by omega) he).1
  by_cases hpk' : p.next = k
  · exact .inr ⟨by have := hf.1; omega, declarationB hc hpk'⟩
  have hpk : p.next < k := by omega
  obtain ⟨ha1, ha2⟩ := hc.adv hpk
  have hh := hc.hd hpk
  have hq : (p.adv ts).next ≤ k := by omega
  -- the name
  have name : ∀ (F F' : Except Nat PS), (((p.adv ts).hd ts).kind = 1) → ((p.adv ts).next < k → CutTo k p' p' F') → CutTo k p' p' (if ((p.adv ts).hd ts').kind = 1 then F' else .error (p.adv ts).next) := by
    intro F F' hk hF
    by_cases e : (p.adv ts).next = k
    · have hh' : (p.adv ts).hd ts' = tkAt ts' k := by unfold PS.hd; rw [e]
      rw [hh', if_neg hc.kind1, e]
      refine .inr ⟨?_, rfl⟩
      -- more than the name was used up
      have s1 := ha2
      unfold declarationF at he
      have hmore : (p.adv ts).next < p'.next := by
        split at he
        · unfold inputF at he
          rw [if_pos hk] at he
          have s2 := fwd_adv hc.ok (p := p.adv ts) (by omega) (.inl (by rw [hk]; decide))
          have s3 := take_fwd hc.ok (p := ((p.adv ts).adv ts).declare _) (by decide) s2.2 he
          exact (s2.trans s3).1
        have eqn : ∀ kind, equationF ts kind p = .ok p' → (p.adv ts).next < p'.next := by
          intro kind he
          unfold equationF at he
          rw [if_pos hk] at he
          have s2 := fwd_adv hc.ok (p := p.adv ts) (by omega) (.inl (by rw [hk]; decide))
          split at he
          · cases he
          rename_i p3 e3
          have s3 := take_fwd hc.ok (by decide) s2.2 e3
          split at he
          · cases he
          rename_i pl p4 e4
          have s4 := place_fwd hc.ok s3.2 e4
          split at he
          · cases he
          rename_i p5 e5
          have s5 := take_fwd hc.ok (by decide) s4.2 e5
          split at he
          · cases he
          rename_i r p6 e6
          have s6 := exprM hc.ok 16 _ _ _ s5.2 e6
          have s7 := take_fwd hc.ok (p := p6.declare _) (by decide) s6.2 he
          exact (((((s2.trans s3).trans s4).trans s5).trans s6).trans s7).1
        split at he
        · exact eqn _ he
        split at he
        · exact eqn _ he
        · cases he
      omega
    · have hk' : (p.adv ts).next < k := by omega
      rw [hc.hd hk', if_pos hk]
      exact hF hk'
  have eqn : ∀ kind, equationF ts kind p = .ok p' → CutTo k p' p' (equationF ts' kind p) := by
    intro kind he
    unfold equationF at he ⊢
    rw [ha1]
    split at he
    · rename_i hk
      refine name (.error 0) _ hk ?_
      intro hk'
      obtain ⟨b1, b2⟩ := hc.adv hk'
      have s2 : Fwd ts (p.adv ts) ((p.adv ts).adv ts) := fwd_adv hc.ok (by omega) (.inl (by rw [hk]; decide))
      rw [b1, hc.hd hk']
      split at he
      · cases he
      rename_i p3 e3
      have s3 := take_fwd hc.ok (by decide) s2.2 e3
      split at he
      · cases he
      rename_i pl p4 e4
      have s4 := place_fwd hc.ok s3.2 e4
      split at he
      · cases he
      rename_i p5 e5
      have s5 := take_fwd hc.ok (by decide) s4.2 e5
      split at he
      · cases he
      rename_i r p6 e6
      have s6 := exprM hc.ok 16 _ _ _ s5.2 e6
      have s7 : p6.next < p'.next := (take_fwd hc.ok (p := p6.declare _) (by decide) s6.2 he).1
      have t3 := s3.1
      have t4 := s4.1
      have t5 := s5.1
      have t6 := s6.1
      rcases hc.take (by omega) (by decide) (by decide) e3 with ⟨h1, h2⟩ | ⟨h1, h2⟩
      · rw [h2]
        simp only
        rcases hc.place h1 e4 with ⟨h3, h4⟩ | ⟨h3, h4⟩
        · rw [h4]
          simp only
          rcases hc.take h3 (by decide) (by decide) e5 with ⟨h5, h6⟩ | ⟨h5, h6⟩
          · rw [h6]
            simp only
            rcases exprC hc 16 _ _ _ h5 e6 with ⟨h7, h8⟩ | ⟨h7, h8⟩
            · rw [h8]
              simp only
              exact hc.take (p := p6.declare _) h7 (by decide) (by decide) he
            · rw [h8]; exact .inr ⟨by omega, rfl⟩
          · rw [h6]; exact .inr ⟨by omega, rfl⟩
        · rw [h4]; exact .inr ⟨by omega, rfl⟩
      · rw [h2]; exact .inr ⟨by omega, rfl⟩
    · cases he
  unfold declarationF at he ⊢
  rw [hh]
  split at he
  · rename_i hl
    rw [if_pos hl]
    unfold inputF at he ⊢
    rw [ha1]
    split at he
    · rename_i hk
      refine name (.error 0) _ hk ?_
      intro hk'
      obtain ⟨b1, b2⟩ := hc.adv hk'
      rw [b1, hc.hd hk']
      exact hc.take (p := ((p.adv ts).adv ts).declare _) (by show ((p.adv ts).adv ts).next ≤ k; omega) (by decide) (by decide) he
    · cases he
  rename_i hl0; rw [if_neg hl0]
  split at he
  · rename_i hl; rw [if_pos hl]; exact eqn _ he
  rename_i hl1; rw [if_neg hl1]
  split at he
  · rename_i hl; rw [if_pos hl]; exact eqn _ he
  · cases he

theorem declsC (hc : CutTs k ts ts') (hdis : (tkAt ts' k).kind ≠ 0 ∨ ((tkAt ts k).kind ≠ 0 ∧ (tkAt ts k).l = [59])) : ∀ f f' p p', p.next ≤ k → ts'.length ≤ f' + p.next → declsF ts f p = .ok p' → (p'.hd ts).kind = 0 → k ≤ p'.next → declsF ts' f' p = .error k := by
  have hlt' := hc.lt'
  have hlt := hc.lt
  have atK : ∀ f' p, p.next = k → (tkAt ts' k).kind ≠ 0 → ts'.length ≤ f' + p.next → declsF ts' f' p = .error k := by
    intro f' p e hk hf
    cases f' with
    | zero => omega
    | succ f' =>
      have hh : p.hd ts' = tkAt ts' k := by unfold PS.hd; rw [e]
      unfold declsF
      rw [hh, if_neg hk, declarationB hc e]
  intro f
  induction f with
  | zero =>
    intro f' p p' hp hf he hk hkp
    cases he
    have e : p.next = k := by omega
    rcases hdis with h | ⟨h, _⟩
    · exact atK f' p e h hf
    · exact absurd hk (by show (tkAt ts p.next).kind ≠ 0; rw [e]; exact h)
  | succ f ih =>
    intro f' p p' hp hf he hk hkp
    unfold declsF at he
    split at he
    · rename_i hz
      cases he
      have e : p.next = k := by omega
      rcases hdis with h | ⟨h, _⟩
      · exact atK f' p e h hf
      · exact absurd hk (by show (tkAt ts p.next).kind ≠ 0; rw [e]; exact h)
    · rename_i hz
      split at he
      · cases he
      · rename_i q e1
        have s1 := (declarationM hc.ok (by omega) e1).1
        have t1 := s1.1
        by_cases e : p.next = k
        · rcases hdis with h | ⟨_, h⟩
          · exact atK f' p e h hf
          · exfalso
            have hh : p.hd ts = tkAt ts k := by unfold PS.hd; rw [e]
            unfold declarationF at e1
            rw [hh, h, if_neg (by decide), if_neg (by decide), if_neg (by decide)] at e1
            cases e1
        · have hpk : p.next < k := by omega
          cases f' with
          | zero => omega
          | succ f' =>
            unfold declsF
            rw [hc.hd hpk, if_neg hz]
            rcases declarationC hc hp e1 with ⟨h1, h2⟩ | ⟨h1, h2⟩
            · rw [h2]
              exact ih f' q p' h1 (by omega) he hk hkp
            · rw [h2]

theorem declsEnd (ht : TsOk ts) : ∀ f p p', p.next < ts.length → ts.length ≤ f + p.next → declsF ts f p = .ok p' → (p'.hd ts).kind = 0 ∧ p'.next < ts.length ∧ (p' = p ∨ (tkAt ts (p'.next - 1)).l = [59]) := by
  intro f
  induction f with
  | zero => intro p p' h hf he; omega
  | succ f ih =>
    intro p p' h hf he
    unfold declsF at he
    split at he
    · rename_i hz; cases he; exact ⟨hz, h, .inl rfl⟩
    · split at he
      · cases he
      · rename_i q e1
        obtain ⟨s1, s2⟩ := declarationM ht h e1
        have t1 := s1.1
        obtain ⟨h1, h2, h3⟩ := ih q p' s1.2 (by omega) he
        refine ⟨h1, h2, .inr ?_⟩
        rcases h3 with rfl | h3
        · exact s2
        · exact h3
end
end Go.Proofs.YtmndgoapkmhglaaDoor

/- Plain mathematics: the tokens as the document's own reader has them. -/
namespace Go.Proofs.YtmndgoapkmhglaaDoor

structure RTk where
  c : Nat
  word : ByteArray
  pos : Nat
  n : Nat

def rtok (t : Tk) : RTk :=
  ⟨if t.kind = 0 then 101 else if t.kind = 1 then 97 else if t.kind = 2 then 107 else if t.kind = 3 then 110 else if t.kind = 4 then 115 else 120,
   if t.kind = 1 ∨ t.kind = 2 ∨ t.kind = 4 then t.text else ⟨#[]⟩, t.pos, if t.kind = 3 then valOf t.text.data.toList else 0⟩

def rtoks (s : ByteArray) : List RTk := (toks s).map rtok

end Go.Proofs.YtmndgoapkmhglaaDoor

/- Plain mathematics: how the document's own reader holds tokens against the grammar. -/
namespace Go.Proofs.YtmndgoapkmhglaaDoor

def RTk.l (t : RTk) : List UInt8 := t.word.data.toList
def rlit (t : RTk) : Bool := t.c == 110 || t.l == kTrue || t.l == kFalse
def rop (l : List UInt8) : Bool := (opOf l).isSome

def insF (t : RTk) : List UInt8 × Bool × Bool :=
  if t.l = kNot then ([69], true, true)
  else if t.l = kIf then ([69, 69, 69], true, true)
  else if rlit t = true then ([76], true, true)
  else if t.c = 97 then ([79], true, true)
  else ([69, 79], false, t.l == [40])

def ruleF (x : Nat) (t : RTk) (depth : Int) : List UInt8 × Bool × Bool :=
  if x = 80 then (if t.l = kIn then ([97, 59, 80], true, true) else ([97, 84, 81, 61, 69, 59, 80], true, t.l == kInt || t.l == kBool))
  else if x = 97 then ([], true, t.c == 97)
  else if x = 84 then ([], true, t.l == kAt)
  else if x = 81 then ([], true, t.c == 110 && decide (t.n < 4))
  else if x = 69 then (if t.l = [40] then ([73, 41], true, decide (depth < 16)) else ([], true, rlit t || t.c == 97))
  else if x = 73 then insF t
  else if x = 76 then ([69], true, rop t.l || t.l == kFby)
  else if x = 79 then ([69], true, rop t.l)
  else ([], true, t.c == 115 && ((t.l.getD 0 0).toNat == x))

end Go.Proofs.YtmndgoapkmhglaaDoor

/- Plain mathematics: the tokens of a list of bytes. -/
namespace Go.Proofs.YtmndgoapkmhglaaDoor

def W (cl : Nat) (c : UInt8) : Bool := cls c.toNat == cl
def tokW (k : Nat) (w : List UInt8) (cl : Nat) : Tk := ⟨kindK w cl, k, ⟨w.toArray⟩⟩

def tkL : Nat → Nat → List UInt8 → List Tk
  | 0, _, _ => []
  | _ + 1, _, [] => []
  | f + 1, k, c :: r =>
    if cls c.toNat = 0 then tkL f (k + 1) r
    else if cls c.toNat = 1 ∨ cls c.toNat = 2 then
      tokW k (c :: r.takeWhile (W (cls c.toNat))) (cls c.toNat) :: tkL f (k + 1 + (r.takeWhile (W (cls c.toNat))).length) (r.dropWhile (W (cls c.toNat)))
    else tokW k [c] (cls c.toNat) :: tkL f (k + 1) r

theorem drop_le (p : UInt8 → Bool) (r : List UInt8) : (r.dropWhile p).length ≤ r.length := by
  have := List.takeWhile_append_dropWhile (p := p) (l := r)
  have h : (r.takeWhile p).length + (r.dropWhile p).length = r.length := by rw [← List.length_append, this]
  omega
theorem take_drop_len (p : UInt8 → Bool) (r : List UInt8) : (r.takeWhile p).length + (r.dropWhile p).length = r.length := by
  rw [← List.length_append, List.takeWhile_append_dropWhile]

theorem tkL_fuel : ∀ f g k (l : List UInt8), l.length ≤ f → l.length ≤ g → tkL f k l = tkL g k l := by
  intro f
  induction f with
  | zero =>
    intro g k l h1 h2
    cases l with
    | nil => cases g <;> rfl
    | cons c r => simp at h1
  | succ f ih =>
    intro g k l h1 h2
    cases l with
    | nil => cases g <;> rfl
    | cons c r =>
      cases g with
      | zero => simp at h2
      | succ g =>
        simp at h1 h2
        have := drop_le (W (cls c.toNat)) r
        simp only [tkL]
        rw [ih g (k + 1) r h1 h2, ih g _ (r.dropWhile (W (cls c.toNat))) (by omega) (by omega)]

def tk (k : Nat) (l : List UInt8) : List Tk := tkL l.length k l
theorem tk_nil (k : Nat) : tk k [] = [] := rfl
theorem tk_blank {k : Nat} {c : UInt8} {r : List UInt8} (h : cls c.toNat = 0) : tk k (c :: r) = tk (k + 1) r := by
  unfold tk; simp only [List.length_cons, tkL]; rw [if_pos h]
theorem tk_word {k : Nat} {c : UInt8} {r : List UInt8} (h : cls c.toNat = 1 ∨ cls c.toNat = 2) :
    tk k (c :: r) = tokW k (c :: r.takeWhile (W (cls c.toNat))) (cls c.toNat) :: tk (k + 1 + (r.takeWhile (W (cls c.toNat))).length) (r.dropWhile (W (cls c.toNat))) := by
  unfold tk; simp only [List.length_cons, tkL]; rw [if_neg (by omega), if_pos h]
  rw [tkL_fuel _ (r.dropWhile (W (cls c.toNat))).length _ _ (drop_le _ _) (Nat.le_refl _)]
theorem tk_one {k : Nat} {c : UInt8} {r : List UInt8} (h : 3 ≤ cls c.toNat) : tk k (c :: r) = tokW k [c] (cls c.toNat) :: tk (k + 1) r := by
  unfold tk; simp only [List.length_cons, tkL]; rw [if_neg (by omega), if_neg (by omega)]

theorem W_self (c : UInt8) : W (cls c.toNat) c = true := by simp [W]

/-- the two ways to split a text are one. -/
theorem runTo_list (s : ByteArray) (cl : Nat) : ∀ f k, f = s.size - k → k ≤ s.size → runTo s cl f k = k + ((s.data.toList.drop k).takeWhile (W cl)).length := by
  intro f
  induction f with
  | zero =>
    intro k h hk
    have : s.data.toList.drop k = [] := by rw [List.drop_eq_nil_iff]; have : s.data.toList.length = s.size := Array.length_toList; omega
    rw [this]; rfl
  | succ f ih =>
    intro k h hk
    have hlen : s.data.toList.length = s.size := Array.length_toList
    have hk' : k < s.data.toList.length := by omega
    have hb : byt s k = (s.data.toList[k]'hk').toNat := by
      unfold byt; rw [List.getD_eq_getElem?_getD, List.getElem?_eq_getElem hk']; rfl
    rw [List.drop_eq_getElem_cons hk', List.takeWhile_cons]
    simp only [runTo]
    by_cases hc : cls (byt s k) = cl
    · rw [if_pos ⟨by omega, hc⟩, ih (k + 1) (by omega) (by omega)]
      rw [if_pos (by unfold W; rw [← hb, hc]; simp)]
      simp; omega
    · rw [if_neg (fun x => hc x.2), if_neg (by unfold W; rw [← hb]; simpa using hc)]
      rfl

theorem ba_ext {a b : ByteArray} (h : a.data.toList = b.data.toList) : a = b := by
  cases a; cases b
  congr
  exact Array.toList_inj.1 h

theorem takeWhile_take (p : UInt8 → Bool) (r : List UInt8) : r.take (r.takeWhile p).length = r.takeWhile p := by
  induction r with
  | nil => rfl
  | cons c r ih =>
    rw [List.takeWhile_cons]
    split
    · simp [ih]
    · rfl
theorem takeWhile_drop (p : UInt8 → Bool) (r : List UInt8) : r.drop (r.takeWhile p).length = r.dropWhile p := by
  induction r with
  | nil => rfl
  | cons c r ih =>
    rw [List.takeWhile_cons, List.dropWhile_cons]
    split
    · simp [ih]
    · rfl

theorem toksFrom_list (s : ByteArray) : ∀ n k, n = s.size - k → k ≤ s.size → toksFrom s (s.size - k) k = tk k (s.data.toList.drop k) := by
  intro n
  induction n using Nat.strongRecOn with
  | _ n ih =>
    intro k hn hk
    have hlen : s.data.toList.length = s.size := Array.length_toList
    by_cases hk' : k < s.size
    · have hk2 : k < s.data.toList.length := by omega
      have hb : byt s k = (s.data.toList[k]'hk2).toNat := by
        unfold byt; rw [List.getD_eq_getElem?_getD, List.getElem?_eq_getElem hk2]; rfl
      rw [List.drop_eq_getElem_cons hk2]
      generalize hcd : s.data.toList[k]'hk2 = c at hb
      have htk : ∀ e, tokAt s k = tokW k ((s.data.toList.drop k).take (e - k)) (cls c.toNat) ∨ endOf s k ≠ e := by
        intro e
        by_cases he : endOf s k = e
        · left
          unfold tokAt tokW kindB
          rw [he, hb]
          have hd : (s.extract k e).data.toList = (s.data.toList.drop k).take (e - k) := by
            rw [ByteArray.data_extract, Array.toList_extract, List.extract_eq_take_drop]
          congr 1
          · rw [hd]
          · exact ba_ext (by rw [hd])
        · exact .inr he
      by_cases h0 : cls c.toNat = 0
      · rw [toksFrom_blank s k hk' (by rw [hb]; exact h0), tk_blank h0]
        exact ih (s.size - (k + 1)) (by omega) (k + 1) rfl (by omega)
      · rw [toksFrom_tok s k hk' (by rw [hb]; exact h0)]
        by_cases h12 : cls c.toNat = 1 ∨ cls c.toNat = 2
        · rw [tk_word h12]
          have he : endOf s k = k + 1 + ((s.data.toList.drop (k + 1)).takeWhile (W (cls c.toNat))).length := by
            unfold endOf
            rw [hb, if_pos h12, runTo_list s _ _ (k + 1) rfl (by omega)]
          have hle := endOf_le s k hk'
          have hgt := endOf_gt s k
          rcases htk _ with h | h
          · rw [h]
            congr 1
            · congr 1
              rw [List.drop_eq_getElem_cons hk2, hcd]
              have e1 : endOf s k - k = (((s.data.toList.drop (k + 1)).takeWhile (W (cls c.toNat))).length) + 1 := by omega
              rw [e1, List.take_succ_cons, takeWhile_take]
            · rw [ih (s.size - endOf s k) (by omega) (endOf s k) rfl hle]
              rw [← he]
              congr 1
              rw [← takeWhile_drop, List.drop_drop]
              congr 1
          · exact absurd rfl h
        · have h3 : 3 ≤ cls c.toNat := by omega
          rw [tk_one h3]
          have he : endOf s k = k + 1 := by unfold endOf; rw [hb, if_neg h12]
          rcases htk (k + 1) with h | h
          · rw [h, he]
            congr 1
            · congr 1
              rw [List.drop_eq_getElem_cons hk2, hcd]
              have e1 : k + 1 - k = 1 := by omega
              rw [e1]; rfl
            · exact ih (s.size - (k + 1)) (by omega) (k + 1) rfl (by omega)
          · exact absurd he h
    · have : s.data.toList.drop k = [] := by rw [List.drop_eq_nil_iff]; omega
      rw [this, toksFrom_end s _ k (by omega)]
      rfl

theorem toks_list (s : ByteArray) : toks s = tk 0 s.data.toList ++ [⟨0, s.size, ⟨#[]⟩⟩] := by
  unfold toks
  have := toksFrom_list s _ 0 rfl (Nat.zero_le _)
  simp at this
  rw [this]
  rfl

theorem tw_app {p : UInt8 → Bool} {c : UInt8} (hc : p c = false) (l2 : List UInt8) : ∀ r : List UInt8, (r ++ c :: l2).takeWhile p = r.takeWhile p ∧ (r ++ c :: l2).dropWhile p = r.dropWhile p ++ c :: l2 := by
  intro r
  induction r with
  | nil => simp [hc]
  | cons d r ih =>
    rw [List.cons_append, List.takeWhile_cons, List.dropWhile_cons, List.takeWhile_cons, List.dropWhile_cons]
    split
    · rw [ih.1, ih.2]; exact ⟨rfl, rfl⟩
    · exact ⟨rfl, rfl⟩

/-- a byte that stands alone splits a text. -/
theorem tk_split {c : UInt8} (hc : 3 ≤ cls c.toNat) (l2 : List UInt8) : ∀ n k (l1 : List UInt8), l1.length = n → tk k (l1 ++ c :: l2) = tk k l1 ++ tokW (k + l1.length) [c] (cls c.toNat) :: tk (k + l1.length + 1) l2 := by
  intro n
  induction n using Nat.strongRecOn with
  | _ n ih =>
    intro k l1 hn
    cases l1 with
    | nil => rw [List.nil_append, tk_one hc, tk_nil]; rfl
    | cons d r =>
      simp only [List.length_cons] at hn
      rw [List.cons_append]
      by_cases h0 : cls d.toNat = 0
      · rw [tk_blank h0, tk_blank h0, ih r.length (by omega) (k + 1) r rfl]
        simp only [List.length_cons]
        rw [show k + 1 + r.length = k + (r.length + 1) by omega]
      · by_cases h12 : cls d.toNat = 1 ∨ cls d.toNat = 2
        · have hp : W (cls d.toNat) c = false := by unfold W; simp; omega
          rw [tk_word h12, tk_word h12, (tw_app hp l2 r).1, (tw_app hp l2 r).2]
          have hl := take_drop_len (W (cls d.toNat)) r
          rw [ih (r.dropWhile (W (cls d.toNat))).length (by omega) _ _ rfl]
          simp only [List.length_cons, List.cons_append]
          rw [show k + 1 + (r.takeWhile (W (cls d.toNat))).length + (r.dropWhile (W (cls d.toNat))).length = k + (r.length + 1) by omega]
        · have h3 : 3 ≤ cls d.toNat := by omega
          rw [tk_one h3, tk_one h3, ih r.length (by omega) (k + 1) r rfl]
          simp only [List.length_cons, List.cons_append]
          rw [show k + 1 + r.length = k + (r.length + 1) by omega]

theorem kindK_pos (w : List UInt8) (cl : Nat) : kindK w cl ≠ 0 := by
  unfold kindK wordK numK
  split
  · split
    · decide
    split <;> decide
  split
  · split <;> decide
  split <;> decide

theorem tk_kind : ∀ n k (l : List UInt8), l.length = n → ∀ t ∈ tk k l, t.kind ≠ 0 ∧ ∃ c ∈ l, t.text.data.toList.head? = some c ∧ (t.text.data.toList = [c] ∨ cls c.toNat = 1 ∨ cls c.toNat = 2) := by
  intro n
  induction n using Nat.strongRecOn with
  | _ n ih =>
    intro k l hn t ht
    cases l with
    | nil => rw [tk_nil] at ht; simp at ht
    | cons c r =>
      simp only [List.length_cons] at hn
      by_cases h0 : cls c.toNat = 0
      · rw [tk_blank h0] at ht
        obtain ⟨h1, d, hd, h2⟩ := ih r.length (by omega) (k + 1) r rfl t ht
        exact ⟨h1, d, List.mem_cons_of_mem _ hd, h2⟩
      · by_cases h12 : cls c.toNat = 1 ∨ cls c.toNat = 2
        · rw [tk_word h12] at ht
          rcases List.mem_cons.1 ht with rfl | ht
          · exact ⟨kindK_pos _ _, c, List.mem_cons_self .., rfl, .inr h12⟩
          · have hl := take_drop_len (W (cls c.toNat)) r
            obtain ⟨h1, d, hd, h2⟩ := ih _ (by omega) _ _ rfl t ht
            refine ⟨h1, d, List.mem_cons_of_mem _ ?_, h2⟩
            rw [← List.takeWhile_append_dropWhile (p := W (cls c.toNat)) (l := r)]
            exact List.mem_append_right _ hd
        · rw [tk_one (by omega)] at ht
          rcases List.mem_cons.1 ht with rfl | ht
          · exact ⟨kindK_pos _ _, c, List.mem_cons_self .., rfl, .inl rfl⟩
          · obtain ⟨h1, d, hd, h2⟩ := ih r.length (by omega) (k + 1) r rfl t ht
            exact ⟨h1, d, List.mem_cons_of_mem _ hd, h2⟩

end Go.Proofs.YtmndgoapkmhglaaDoor
