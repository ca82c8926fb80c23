import Derived.Test.YtbmhafagdchjfaaAlike2
/- Plain mathematics: a token that stands nowhere is found just there. -/
namespace Go.Proofs.Ytbmhafagdchjfaa

/-- tokens have been used up, and not all. -/
def Fwd (ts : List Tk) (p p' : PS) : Prop := p.next < p'.next ∧ p'.next < ts.length
def ExM (ts : List Tk) (ex : Ex) : Prop := ∀ p r p', p.next < ts.length → ex p = .ok (r, p') → Fwd ts p p'

theorem fwd_adv {ts : List Tk} (ht : TsOk ts) {p : PS} (h : p.next < ts.length) (hk : (p.hd ts).kind ≠ 0 ∨ (p.hd ts).l ≠ []) : Fwd ts p (p.adv ts) := by
  rw [adv_next ht h hk]
  exact ⟨Nat.lt_succ_self _, ht.last h hk⟩
theorem Fwd.trans {ts : List Tk} {p q r : PS} (h : Fwd ts p q) (k : Fwd ts q r) : Fwd ts p r := ⟨Nat.lt_trans h.1 k.1, k.2⟩

theorem insideM {ts : List Tk} (ht : TsOk ts) {ex : Ex} (hx : ExM ts ex) {p p' : PS} {n n' : Nd} (h : p.next < ts.length) (he : insideF ts ex p n = .ok (n', p')) : Fwd ts p p' := by
  unfold insideF at he
  split at he
  · rename_i hl
    have s1 := fwd_adv ht h (.inr (by rw [hl]; decide))
    unfold notF at he
    split at he
    · cases he
    · rename_i e1
      cases he
      exact s1.trans (hx _ _ _ s1.2 e1)
  split at he
  · rename_i hl
    have s1 := fwd_adv ht h (.inr (by rw [hl]; decide))
    unfold choiceF at he
    split at he
    · cases he
    · rename_i e1
      have s2 := hx _ _ _ s1.2 e1
      split at he
      · cases he
      · rename_i e2
        have s3 := hx _ _ _ s2.2 e2
        split at he
        · cases he
        · rename_i e3
          cases he
          exact ((s1.trans s2).trans s3).trans (hx _ _ _ s3.2 e3)
  · unfold infixF at he
    split at he
    · cases he
    · rename_i a p1 e1
      have s1 := hx _ _ _ h e1
      split at he
      · rename_i hl
        have s2 := fwd_adv ht s1.2 (.inr (by rw [hl.2]; decide))
        unfold delayF at he
        split at he
        · cases he
        · rename_i e2
          cases he
          have s3 := hx _ _ _ (by exact s2.2) e2
          exact (s1.trans s2).trans s3
      · unfold infixRest at he
        split at he
        · cases he
        · rename_i op ho
          have s2 := fwd_adv ht s1.2 (.inr (by intro e; rw [e] at ho; simp [opOf] at ho))
          split at he
          · cases he
          · rename_i e2
            cases he
            exact (s1.trans s2).trans (hx _ _ _ s2.2 e2)

theorem bracketM {ts : List Tk} (ht : TsOk ts) {ex : Ex} (hx : ExM ts ex) {p p' : PS} {r : Nat} (h : p.next < ts.length) (hl : (p.hd ts).l = [40]) (he : bracketF ts ex p = .ok (r, p')) : Fwd ts p p' := by
  unfold bracketF at he
  have s1 : Fwd ts p ((p.add ts ndZero).adv ts) := fwd_adv ht (p := p.add ts ndZero) h (.inr (by show (p.hd ts).l ≠ []; rw [hl]; decide))
  split at he
  · cases he
  · rename_i n p2 e2
    have s2 := insideM ht hx (p := { (p.add ts ndZero).adv ts with depth := p.depth + 1 }) s1.2 e2
    split at he
    · cases he
    · rename_i p3 e3
      obtain ⟨rfl, hl3⟩ := take_grow e3
      cases he
      have s3 := fwd_adv ht (p := { p2 with depth := p2.depth - 1, nodes := p2.nodes.set p.nodes.length n }) s2.2 (.inr (by rw [hl3]; decide))
      exact (s1.trans s2).trans s3

theorem exprM {ts : List Tk} (ht : TsOk ts) : ∀ f, ExM ts (exprF ts f) := by
  have hatom : ∀ (p : PS) (br : Except Nat (Nat × PS)) (r : Nat) (p' : PS), p.next < ts.length → ((p.hd ts).l = [40] → ∀ r p', br = .ok (r, p') → Fwd ts p p') → atomF ts p br = .ok (r, p') → Fwd ts p p' := by
    intro p br r p' h hbr he
    have leaf : ∀ n, (p.hd ts).kind ≠ 0 ∨ (p.hd ts).l ≠ [] → Fwd ts p (leafF ts p n).2 := fun n hk => fwd_adv ht (p := p.add ts n) h hk
    unfold atomF at he
    split at he
    · rename_i hl; exact hbr hl _ _ he
    split at he
    · rename_i hl; cases he; exact leaf _ (.inr (by rw [hl]; decide))
    split at he
    · rename_i hl; cases he; exact leaf _ (.inr (by rw [hl]; decide))
    split at he
    · rename_i hl; cases he; exact leaf _ (.inl (by rw [hl]; decide))
    split at he
    · rename_i hl; cases he; exact leaf _ (.inl (by rw [hl]; decide))
    · cases he
  intro f
  induction f with
  | zero => intro p r p' h he; exact hatom p _ r p' h (fun _ _ _ h => by cases h) he
  | succ f ih => intro p r p' h he; exact hatom p _ r p' h (fun hl _ _ e => bracketM ht ih h hl e) he

/-- the words that are no names and no numbers. -/
def kwL : List (List UInt8) := [[40], [41], [59], [61], [43], [45], [42], [47], [60], [38], [124], kIn, kInt, kBool, kAt, kIf, kFby, kNot, kTrue, kFalse]

/-- the same tokens ahead of k, and at k one that stands nowhere. -/
structure CutTs (k : Nat) (ts ts' : List Tk) : Prop where
  ok : TsOk ts
  lt : k < ts.length
  lt' : k < ts'.length
  same : ∀ i, i < k → tkAt ts' i = tkAt ts i
  kind1 : (tkAt ts' k).kind ≠ 1
  kind3 : (tkAt ts' k).kind ≠ 3
  word : kwL.contains (tkAt ts' k).l = false

/-- what became of a part that was read well. -/
def CutTo {α : Type} (k : Nat) (q : PS) (a : α) (y : Except Nat α) : Prop := (q.next ≤ k ∧ y = .ok a) ∨ (k < q.next ∧ y = .error k)
def ExC (k : Nat) (ex ex' : Ex) : Prop := ∀ p r p', p.next ≤ k → ex p = .ok (r, p') → CutTo k p' (r, p') (ex' p)
def ExB (k : Nat) (ex' : Ex) : Prop := ∀ p, p.next = k → ex' p = .error k

section
variable {k : Nat} {ts ts' : List Tk}

theorem CutTs.no (hc : CutTs k ts ts') {l : List UInt8} (h1 : kwL.contains l = true) : (tkAt ts' k).l ≠ l := by
  intro e
  have := hc.word
  rw [e, h1] at this
  cases this
theorem CutTs.noOp (hc : CutTs k ts ts') : opOf (tkAt ts' k).l = none := by
  unfold opOf
  rw [if_neg (hc.no (by decide)), if_neg (hc.no (by decide)), if_neg (hc.no (by decide)), if_neg (hc.no (by decide)), if_neg (hc.no (by decide)), if_neg (hc.no (by decide)), if_neg (hc.no (by decide)), if_neg (hc.no (by decide))]
theorem CutTs.hd (hc : CutTs k ts ts') {p : PS} (h : p.next < k) : p.hd ts' = p.hd ts := hc.same _ h
theorem CutTs.adv (hc : CutTs k ts ts') {p : PS} (h : p.next < k) : p.adv ts' = p.adv ts ∧ (p.adv ts).next = p.next + 1 := by
  have h1 := hc.lt
  have h2 := hc.lt'
  unfold PS.adv
  rw [if_pos (by omega), if_pos (by omega)]
  exact ⟨rfl, rfl⟩
theorem CutTs.add (hc : CutTs k ts ts') {p : PS} (h : p.next < k) (n : Nd) : p.add ts' n = p.add ts n := by
  unfold PS.add
  rw [hc.hd h, hc.same (p.next - 1) (by omega)]
theorem CutTs.take (hc : CutTs k ts ts') {p q : PS} (h : p.next ≤ k) {l : List UInt8} (h1 : l ≠ []) (h2 : kwL.contains l = true) (he : p.take ts l = .ok q) : CutTo k q q (p.take ts' l) := by
  obtain ⟨rfl, hl⟩ := take_grow he
  by_cases hp : p.next < k
  · refine .inl ⟨by rw [(hc.adv hp).2]; omega, ?_⟩
    unfold PS.take
    rw [hc.hd hp, if_pos hl, (hc.adv hp).1]
  · have e : p.next = k := by omega
    have hf := fwd_adv hc.ok (p := p) (by rw [e]; exact hc.lt) (.inr (by rw [hl]; exact h1))
    refine .inr ⟨by rw [← e]; exact hf.1, ?_⟩
    unfold PS.take
    rw [if_neg (by show (tkAt ts' p.next).l ≠ l; rw [e]; exact hc.no h2), e]

theorem insideB (hc : CutTs k ts ts') {ex' : Ex} (hb : ExB k ex') {p : PS} {n : Nd} (h : p.next = k) : insideF ts' ex' p n = .error k := by
  unfold insideF
  have hh : p.hd ts' = tkAt ts' k := by unfold PS.hd; rw [h]
  rw [hh, if_neg (hc.no (by decide)), if_neg (hc.no (by decide))]
  unfold infixF
  rw [hb p h]

theorem insideC (hc : CutTs k ts ts') {ex ex' : Ex} (hx : ExC k ex ex') (hb : ExB k ex') (hm : ExM ts ex) {p p' : PS} {n n' : Nd} (hp : p.next ≤ k) (he : insideF ts ex p n = .ok (n', p')) : CutTo k p' (n', p') (insideF ts' ex' p n) := by
  have hlt := hc.lt
  have hf := insideM hc.ok hm (p := p) (by omega) he
  by_cases hpk' : p.next = k
  · exact .inr ⟨by have := hf.1; omega, insideB hc hb hpk'⟩
  have hpk : p.next < k := by omega
  obtain ⟨ha1, ha2⟩ := hc.adv hpk
  have hh := hc.hd hpk
  unfold insideF at he ⊢
  rw [hh]
  split at he
  · rename_i hl
    rw [if_pos hl]
    unfold notF at he ⊢
    rw [ha1]
    split at he
    · cases he
    · rename_i a p1 e1
      cases he
      rcases hx _ _ _ (by omega) e1 with ⟨h1, h2⟩ | ⟨h1, h2⟩
      · rw [h2]; exact .inl ⟨h1, rfl⟩
      · rw [h2]; exact .inr ⟨h1, rfl⟩
  rename_i hl0
  rw [if_neg hl0]
  split at he
  · rename_i hl
    rw [if_pos hl]
    unfold choiceF at he ⊢
    rw [ha1]
    split at he
    · cases he
    · rename_i a p1 e1
      have hlt1 := hm _ _ _ (by omega) e1
      split at he
      · cases he
      · rename_i b p2 e2
        have hlt2 := hm _ _ _ hlt1.2 e2
        split at he
        · cases he
        · rename_i c p3 e3
          have hlt3 := hm _ _ _ hlt2.2 e3
          cases he
          have a1 := hlt1.1
          have a2 := hlt2.1
          have a3 := hlt3.1
          rcases hx _ _ _ (by omega) e1 with ⟨h1, h2⟩ | ⟨h1, h2⟩
          · rw [h2]
            simp only
            rcases hx _ _ _ h1 e2 with ⟨h3, h4⟩ | ⟨h3, h4⟩
            · rw [h4]
              simp only
              rcases hx _ _ _ h3 e3 with ⟨h5, h6⟩ | ⟨h5, h6⟩
              · rw [h6]; exact .inl ⟨h5, rfl⟩
              · rw [h6]; exact .inr ⟨h5, rfl⟩
            · rw [h4]; exact .inr ⟨by omega, rfl⟩
          · rw [h2]; exact .inr ⟨by omega, rfl⟩
  rename_i hl1
  rw [if_neg hl1]
  unfold infixF at he ⊢
  split at he
  · cases he
  · rename_i a p1 e1
    have hlt1 := hm _ _ _ (by omega) e1
    have a1 := hlt1.1
    split at he
    · rename_i hl
      have hlt2 := fwd_adv hc.ok hlt1.2 (.inr (by rw [hl.2]; decide))
      have a2 := hlt2.1
      unfold delayF at he
      split at he
      · cases he
      · rename_i b p2 e2
        have hlt3 := hm { p1.adv ts with delays := (p1.adv ts).delays + 1 } _ _ hlt2.2 e2
        have a3 : (p1.adv ts).next < p2.next := hlt3.1
        cases he
        show CutTo k { p2 with delays := p2.delays - 1 } _ _
        rcases hx _ _ _ hp e1 with ⟨h1, h2⟩ | ⟨h1, h2⟩
        · rw [h2]
          simp only
          by_cases hk1 : p1.next < k
          · obtain ⟨b1, b2⟩ := hc.adv hk1
            rw [hc.hd hk1, if_pos hl, b1]
            unfold delayF
            rcases hx _ _ _ (by show (p1.adv ts).next ≤ k; omega) e2 with ⟨h5, h6⟩ | ⟨h5, h6⟩
            · rw [h6]; exact .inl ⟨h5, rfl⟩
            · rw [h6]; exact .inr ⟨h5, rfl⟩
          · have e : p1.next = k := by omega
            have hh' : p1.hd ts' = tkAt ts' k := by unfold PS.hd; rw [e]
            refine .inr ⟨by show k < p2.next; omega, ?_⟩
            rw [hh', if_neg (fun x => hc.no (by decide) x.2)]
            unfold infixRest
            rw [hh']
            have ho := hc.noOp
            rw [ho, e]
        · rw [h2]; exact .inr ⟨by show k < p2.next; omega, rfl⟩
    · rename_i hl
      unfold infixRest at he
      split at he
      · cases he
      · rename_i op ho
        have hlt2 := fwd_adv hc.ok hlt1.2 (.inr (by intro e; rw [e] at ho; simp [opOf] at ho))
        have a2 := hlt2.1
        split at he
        · cases he
        · rename_i b p2 e2
          have hlt3 := hm _ _ _ hlt2.2 e2
          have a3 : (p1.adv ts).next < p2.next := hlt3.1
          cases he
          rcases hx _ _ _ hp e1 with ⟨h1, h2⟩ | ⟨h1, h2⟩
          · rw [h2]
            simp only
            by_cases hk1 : p1.next < k
            · obtain ⟨b1, b2⟩ := hc.adv hk1
              rw [hc.hd hk1, if_neg hl]
              unfold infixRest
              rw [hc.hd hk1, ho, b1]
              simp only
              rcases hx _ _ _ (by omega) e2 with ⟨h5, h6⟩ | ⟨h5, h6⟩
              · rw [h6]; exact .inl ⟨h5, rfl⟩
              · rw [h6]; exact .inr ⟨h5, rfl⟩
            · have e : p1.next = k := by omega
              have hh' : p1.hd ts' = tkAt ts' k := by unfold PS.hd; rw [e]
              refine .inr ⟨by omega, ?_⟩
              rw [hh', if_neg (fun x => hc.no (by decide) x.2)]
              unfold infixRest
              rw [hh']
              have ho := hc.noOp
              rw [ho, e]
          · rw [h2]; exact .inr ⟨by omega, rfl⟩

theorem bracketC (hc : CutTs k ts ts') {ex ex' : Ex} (hx : ExC k ex ex') (hb : ExB k ex') (hm : ExM ts ex) {p p' : PS} {r : Nat} (hp : p.next < k) (he : bracketF ts ex p = .ok (r, p')) : CutTo k p' (r, p') (bracketF ts' ex' p) := by
  have hlt := hc.lt
  have hadd := hc.add hp ndZero
  obtain ⟨b1, b2⟩ := hc.adv (p := p.add ts ndZero) hp
  unfold bracketF at he ⊢
  rw [hadd, b1]
  split at he
  · cases he
  · rename_i n p2 e2
    have hle : ({ (p.add ts ndZero).adv ts with depth := p.depth + 1 } : PS).next ≤ k := by show ((p.add ts ndZero).adv ts).next ≤ k; rw [b2]; exact hp
    have hf := insideM hc.ok hm (p := { (p.add ts ndZero).adv ts with depth := p.depth + 1 }) (by omega) e2
    split at he
    · cases he
    · rename_i p3 e3
      cases he
      have hf3 : p2.next < p'.next := by
        obtain ⟨rfl, hl3⟩ := take_grow e3
        exact (fwd_adv hc.ok (p := { p2 with depth := p2.depth - 1, nodes := p2.nodes.set p.nodes.length n }) hf.2 (.inr (by rw [hl3]; decide))).1
      rcases insideC hc hx hb hm hle e2 with ⟨h1, h2⟩ | ⟨h1, h2⟩
      · rw [h2]
        simp only
        rcases hc.take (p := { p2 with depth := p2.depth - 1, nodes := p2.nodes.set p.nodes.length n }) h1 (by decide) (by decide) e3 with ⟨h3, h4⟩ | ⟨h3, h4⟩
        · rw [h4]; exact .inl ⟨h3, rfl⟩
        · rw [h4]; exact .inr ⟨h3, rfl⟩
      · rw [h2]; exact .inr ⟨by omega, rfl⟩

theorem exprB (hc : CutTs k ts ts') : ∀ f, ExB k (exprF ts' f) := by
  intro f p h
  have hat : ∀ br, atomF ts' p br = .error k := by
    intro br
    have hh : p.hd ts' = tkAt ts' k := by unfold PS.hd; rw [h]
    unfold atomF
    rw [hh, if_neg (hc.no (by decide)), if_neg (hc.no (by decide)), if_neg (hc.no (by decide)), if_neg hc.kind3, if_neg hc.kind1, h]
  cases f with
  | zero => exact hat _
  | succ f => exact hat _

theorem exprC (hc : CutTs k ts ts') : ∀ f, ExC k (exprF ts f) (exprF ts' f) := by
  have hatom : ∀ (p : PS) (br br' : Except Nat (Nat × PS)) (r : Nat) (p' : PS), p.next < k → ((p.hd ts).l = [40] → ∀ r p', br = .ok (r, p') → CutTo k p' (r, p') br') → atomF ts p br = .ok (r, p') → CutTo k p' (r, p') (atomF ts' p br') := by
    intro p br br' r p' hp hbr he
    have leaf : ∀ n, CutTo k (leafF ts p n).2 (leafF ts p n) (.ok (leafF ts' p n)) := by
      intro n
      obtain ⟨b1, b2⟩ := hc.adv (p := p.add ts n) hp
      have e : leafF ts' p n = leafF ts p n := by unfold leafF; rw [hc.add hp, b1]
      rw [e]
      refine .inl ⟨?_, rfl⟩
      show ((p.add ts n).adv ts).next ≤ k
      rw [b2]; exact hp
    unfold atomF at he ⊢
    rw [hc.hd hp]
    split at he
    · rename_i hl; rw [if_pos hl]; exact hbr hl _ _ he
    rename_i h1; rw [if_neg h1]
    split at he
    · rename_i hl; rw [if_pos hl]; cases he; exact leaf _
    rename_i h1; rw [if_neg h1]
    split at he
    · rename_i hl; rw [if_pos hl]; cases he; exact leaf _
    rename_i h1; rw [if_neg h1]
    split at he
    · rename_i hl; rw [if_pos hl]; cases he; exact leaf _
    rename_i h1; rw [if_neg h1]
    split at he
    · rename_i hl; rw [if_pos hl]; cases he; exact leaf _
    · cases he
  intro f
  induction f with
  | zero =>
    intro p r p' hp he
    by_cases e : p.next = k
    · exact .inr ⟨by have := exprM hc.ok 0 p r p' (by have := hc.lt; omega) he; have := this.1; omega, exprB hc 0 p e⟩
    · exact hatom p _ _ r p' (by omega) (fun _ _ _ h => by cases h) he
  | succ f ih =>
    intro p r p' hp he
    by_cases e : p.next = k
    · exact .inr ⟨by have := exprM hc.ok (f + 1) p r p' (by have := hc.lt; omega) he; have := this.1; omega, exprB hc (f + 1) p e⟩
    · exact hatom p _ _ r p' (by omega) (fun _ _ _ h => bracketC hc ih (exprB hc f) (exprM hc.ok f) (by omega) h) he

end
end Go.Proofs.Ytbmhafagdchjfaa
