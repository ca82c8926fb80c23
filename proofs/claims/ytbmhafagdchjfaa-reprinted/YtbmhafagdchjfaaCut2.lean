import Derived.Test.YtbmhafagdchjfaaCut
/- Plain mathematics: declarations, and a token that stands nowhere. -/
namespace Go.Proofs.Ytbmhafagdchjfaa

theorem place_fwd {ts : List Tk} (ht : TsOk ts) {p p' : PS} {r : Nat} (h : p.next < ts.length) (he : placeF ts p = .ok (r, p')) : Fwd ts p p' := by
  unfold placeF at he
  split at he
  · rename_i hk; cases he; exact fwd_adv ht h (.inl (by rw [hk.1]; decide))
  · cases he

theorem take_fwd {ts : List Tk} (ht : TsOk ts) {p p' : PS} {l : List UInt8} (hl : l ≠ []) (h : p.next < ts.length) (he : p.take ts l = .ok p') : Fwd ts p p' := by
  obtain ⟨rfl, e⟩ := take_grow he
  exact fwd_adv ht h (.inr (by rw [e]; exact hl))

/-- a declaration ends behind a ; -/
theorem take_prev {ts : List Tk} (ht : TsOk ts) {p p' : PS} {l : List UInt8} (hl : l ≠ []) (h : p.next < ts.length) (he : p.take ts l = .ok p') : (tkAt ts (p'.next - 1)).l = l := by
  obtain ⟨rfl, e⟩ := take_grow he
  rw [adv_next ht h (.inr (by rw [e]; exact hl))]
  exact e

theorem declarationM {ts : List Tk} (ht : TsOk ts) {p p' : PS} (h : p.next < ts.length) (he : declarationF ts p = .ok p') : Fwd ts p p' ∧ (tkAt ts (p'.next - 1)).l = [59] := by
  have inp : (p.hd ts).l ≠ [] → inputF ts p = .ok p' → Fwd ts p p' ∧ (tkAt ts (p'.next - 1)).l = [59] := by
    intro hl he
    have s1 := fwd_adv ht h (.inr hl)
    unfold inputF at he
    split at he
    · rename_i hk
      have s2 := fwd_adv ht s1.2 (.inl (by rw [hk]; decide))
      have s3 := take_fwd ht (p := ((p.adv ts).adv ts).declare _) (by decide) s2.2 he
      exact ⟨(s1.trans s2).trans s3, take_prev ht (p := ((p.adv ts).adv ts).declare _) (by decide) s2.2 he⟩
    · cases he
  have eqn : ∀ kind, (p.hd ts).l ≠ [] → equationF ts kind p = .ok p' → Fwd ts p p' ∧ (tkAt ts (p'.next - 1)).l = [59] := by
    intro kind hl he
    have s1 := fwd_adv ht h (.inr hl)
    unfold equationF at he
    split at he
    · rename_i hk
      have s2 := fwd_adv ht s1.2 (.inl (by rw [hk]; decide))
      split at he
      · cases he
      rename_i p3 e3
      have s3 := take_fwd ht (by decide) s2.2 e3
      split at he
      · cases he
      rename_i pl p4 e4
      have s4 := place_fwd ht s3.2 e4
      split at he
      · cases he
      rename_i p5 e5
      have s5 := take_fwd ht (by decide) s4.2 e5
      split at he
      · cases he
      rename_i r p6 e6
      have s6 := exprM ht 16 _ _ _ s5.2 e6
      have s7 := take_fwd ht (p := p6.declare _) (by decide) s6.2 he
      exact ⟨(((((s1.trans s2).trans s3).trans s4).trans s5).trans s6).trans s7, take_prev ht (p := p6.declare _) (by decide) s6.2 he⟩
    · cases he
  unfold declarationF at he
  split at he
  · rename_i hl; exact inp (by rw [hl]; decide) he
  split at he
  · rename_i hl; exact eqn 1 (by rw [hl]; decide) he
  split at he
  · rename_i hl; exact eqn 2 (by rw [hl]; decide) he
  · cases he

section
variable {k : Nat} {ts ts' : List Tk}

theorem CutTs.place (hc : CutTs k ts ts') {p p' : PS} {r : Nat} (h : p.next ≤ k) (he : placeF ts p = .ok (r, p')) : CutTo k p' (r, p') (placeF ts' p) := by
  have hf := place_fwd hc.ok (by have := hc.lt; omega) he
  by_cases hp : p.next = k
  · refine .inr ⟨by have := hf.1; omega, ?_⟩
    have hh : p.hd ts' = tkAt ts' k := by unfold PS.hd; rw [hp]
    unfold placeF
    rw [hh, if_neg (fun x => hc.kind3 x.1), hp]
  · have hp' : p.next < k := by omega
    unfold placeF at he ⊢
    rw [hc.hd hp']
    split at he
    · rename_i hk
      cases he
      rw [if_pos hk, (hc.adv hp').1]
      exact .inl ⟨by rw [(hc.adv hp').2]; omega, rfl⟩
    · cases he

theorem declarationB (hc : CutTs k ts ts') {p : PS} (h : p.next = k) : declarationF ts' p = .error k := by
  have hh : p.hd ts' = tkAt ts' k := by unfold PS.hd; rw [h]
  unfold declarationF
  rw [hh, if_neg (hc.no (by decide)), if_neg (hc.no (by decide)), if_neg (hc.no (by decide)), h]

theorem declarationC (hc : CutTs k ts ts') {p p' : PS} (hp : p.next ≤ k) (he : declarationF ts p = .ok p') : CutTo k p' p' (declarationF ts' p) := by
  have hlt := hc.lt
  have hf := (declarationM hc.ok (by omega) he).1
  by_cases hpk' : p.next = k
  · exact .inr ⟨by have := hf.1; omega, declarationB hc hpk'⟩
  have hpk : p.next < k := by omega
  obtain ⟨ha1, ha2⟩ := hc.adv hpk
  have hh := hc.hd hpk
  have hq : (p.adv ts).next ≤ k := by omega
  -- the name
  have name : ∀ (F F' : Except Nat PS), (((p.adv ts).hd ts).kind = 1) → ((p.adv ts).next < k → CutTo k p' p' F') → CutTo k p' p' (if ((p.adv ts).hd ts').kind = 1 then F' else .error (p.adv ts).next) := by
    intro F F' hk hF
    by_cases e : (p.adv ts).next = k
    · have hh' : (p.adv ts).hd ts' = tkAt ts' k := by unfold PS.hd; rw [e]
      rw [hh', if_neg hc.kind1, e]
      refine .inr ⟨?_, rfl⟩
      -- more than the name was used up
      have s1 := ha2
      unfold declarationF at he
      have hmore : (p.adv ts).next < p'.next := by
        split at he
        · unfold inputF at he
          rw [if_pos hk] at he
          have s2 := fwd_adv hc.ok (p := p.adv ts) (by omega) (.inl (by rw [hk]; decide))
          have s3 := take_fwd hc.ok (p := ((p.adv ts).adv ts).declare _) (by decide) s2.2 he
          exact (s2.trans s3).1
        have eqn : ∀ kind, equationF ts kind p = .ok p' → (p.adv ts).next < p'.next := by
          intro kind he
          unfold equationF at he
          rw [if_pos hk] at he
          have s2 := fwd_adv hc.ok (p := p.adv ts) (by omega) (.inl (by rw [hk]; decide))
          split at he
          · cases he
          rename_i p3 e3
          have s3 := take_fwd hc.ok (by decide) s2.2 e3
          split at he
          · cases he
          rename_i pl p4 e4
          have s4 := place_fwd hc.ok s3.2 e4
          split at he
          · cases he
          rename_i p5 e5
          have s5 := take_fwd hc.ok (by decide) s4.2 e5
          split at he
          · cases he
          rename_i r p6 e6
          have s6 := exprM hc.ok 16 _ _ _ s5.2 e6
          have s7 := take_fwd hc.ok (p := p6.declare _) (by decide) s6.2 he
          exact (((((s2.trans s3).trans s4).trans s5).trans s6).trans s7).1
        split at he
        · exact eqn _ he
        split at he
        · exact eqn _ he
        · cases he
      omega
    · have hk' : (p.adv ts).next < k := by omega
      rw [hc.hd hk', if_pos hk]
      exact hF hk'
  have eqn : ∀ kind, equationF ts kind p = .ok p' → CutTo k p' p' (equationF ts' kind p) := by
    intro kind he
    unfold equationF at he ⊢
    rw [ha1]
    split at he
    · rename_i hk
      refine name (.error 0) _ hk ?_
      intro hk'
      obtain ⟨b1, b2⟩ := hc.adv hk'
      have s2 : Fwd ts (p.adv ts) ((p.adv ts).adv ts) := fwd_adv hc.ok (by omega) (.inl (by rw [hk]; decide))
      rw [b1, hc.hd hk']
      split at he
      · cases he
      rename_i p3 e3
      have s3 := take_fwd hc.ok (by decide) s2.2 e3
      split at he
      · cases he
      rename_i pl p4 e4
      have s4 := place_fwd hc.ok s3.2 e4
      split at he
      · cases he
      rename_i p5 e5
      have s5 := take_fwd hc.ok (by decide) s4.2 e5
      split at he
      · cases he
      rename_i r p6 e6
      have s6 := exprM hc.ok 16 _ _ _ s5.2 e6
      have s7 : p6.next < p'.next := (take_fwd hc.ok (p := p6.declare _) (by decide) s6.2 he).1
      have t3 := s3.1
      have t4 := s4.1
      have t5 := s5.1
      have t6 := s6.1
      rcases hc.take (by omega) (by decide) (by decide) e3 with ⟨h1, h2⟩ | ⟨h1, h2⟩
      · rw [h2]
        simp only
        rcases hc.place h1 e4 with ⟨h3, h4⟩ | ⟨h3, h4⟩
        · rw [h4]
          simp only
          rcases hc.take h3 (by decide) (by decide) e5 with ⟨h5, h6⟩ | ⟨h5, h6⟩
          · rw [h6]
            simp only
            rcases exprC hc 16 _ _ _ h5 e6 with ⟨h7, h8⟩ | ⟨h7, h8⟩
            · rw [h8]
              simp only
              exact hc.take (p := p6.declare _) h7 (by decide) (by decide) he
            · rw [h8]; exact .inr ⟨by omega, rfl⟩
          · rw [h6]; exact .inr ⟨by omega, rfl⟩
        · rw [h4]; exact .inr ⟨by omega, rfl⟩
      · rw [h2]; exact .inr ⟨by omega, rfl⟩
    · cases he
  unfold declarationF at he ⊢
  rw [hh]
  split at he
  · rename_i hl
    rw [if_pos hl]
    unfold inputF at he ⊢
    rw [ha1]
    split at he
    · rename_i hk
      refine name (.error 0) _ hk ?_
      intro hk'
      obtain ⟨b1, b2⟩ := hc.adv hk'
      rw [b1, hc.hd hk']
      exact hc.take (p := ((p.adv ts).adv ts).declare _) (by show ((p.adv ts).adv ts).next ≤ k; omega) (by decide) (by decide) he
    · cases he
  rename_i hl0; rw [if_neg hl0]
  split at he
  · rename_i hl; rw [if_pos hl]; exact eqn _ he
  rename_i hl1; rw [if_neg hl1]
  split at he
  · rename_i hl; rw [if_pos hl]; exact eqn _ he
  · cases he

theorem declsC (hc : CutTs k ts ts') (hdis : (tkAt ts' k).kind ≠ 0 ∨ ((tkAt ts k).kind ≠ 0 ∧ (tkAt ts k).l = [59])) : ∀ f f' p p', p.next ≤ k → ts'.length ≤ f' + p.next → declsF ts f p = .ok p' → (p'.hd ts).kind = 0 → k ≤ p'.next → declsF ts' f' p = .error k := by
  have hlt' := hc.lt'
  have hlt := hc.lt
  have atK : ∀ f' p, p.next = k → (tkAt ts' k).kind ≠ 0 → ts'.length ≤ f' + p.next → declsF ts' f' p = .error k := by
    intro f' p e hk hf
    cases f' with
    | zero => omega
    | succ f' =>
      have hh : p.hd ts' = tkAt ts' k := by unfold PS.hd; rw [e]
      unfold declsF
      rw [hh, if_neg hk, declarationB hc e]
  intro f
  induction f with
  | zero =>
    intro f' p p' hp hf he hk hkp
    cases he
    have e : p.next = k := by omega
    rcases hdis with h | ⟨h, _⟩
    · exact atK f' p e h hf
    · exact absurd hk (by show (tkAt ts p.next).kind ≠ 0; rw [e]; exact h)
  | succ f ih =>
    intro f' p p' hp hf he hk hkp
    unfold declsF at he
    split at he
    · rename_i hz
      cases he
      have e : p.next = k := by omega
      rcases hdis with h | ⟨h, _⟩
      · exact atK f' p e h hf
      · exact absurd hk (by show (tkAt ts p.next).kind ≠ 0; rw [e]; exact h)
    · rename_i hz
      split at he
      · cases he
      · rename_i q e1
        have s1 := (declarationM hc.ok (by omega) e1).1
        have t1 := s1.1
        by_cases e : p.next = k
        · rcases hdis with h | ⟨_, h⟩
          · exact atK f' p e h hf
          · exfalso
            have hh : p.hd ts = tkAt ts k := by unfold PS.hd; rw [e]
            unfold declarationF at e1
            rw [hh, h, if_neg (by decide), if_neg (by decide), if_neg (by decide)] at e1
            cases e1
        · have hpk : p.next < k := by omega
          cases f' with
          | zero => omega
          | succ f' =>
            unfold declsF
            rw [hc.hd hpk, if_neg hz]
            rcases declarationC hc hp e1 with ⟨h1, h2⟩ | ⟨h1, h2⟩
            · rw [h2]
              exact ih f' q p' h1 (by omega) he hk hkp
            · rw [h2]

theorem declsEnd (ht : TsOk ts) : ∀ f p p', p.next < ts.length → ts.length ≤ f + p.next → declsF ts f p = .ok p' → (p'.hd ts).kind = 0 ∧ p'.next < ts.length ∧ (p' = p ∨ (tkAt ts (p'.next - 1)).l = [59]) := by
  intro f
  induction f with
  | zero => intro p p' h hf he; omega
  | succ f ih =>
    intro p p' h hf he
    unfold declsF at he
    split at he
    · rename_i hz; cases he; exact ⟨hz, h, .inl rfl⟩
    · split at he
      · cases he
      · rename_i q e1
        obtain ⟨s1, s2⟩ := declarationM ht h e1
        have t1 := s1.1
        obtain ⟨h1, h2, h3⟩ := ih q p' s1.2 (by omega) he
        refine ⟨h1, h2, .inr ?_⟩
        rcases h3 with rfl | h3
        · exact s2
        · exact h3
end
end Go.Proofs.Ytbmhafagdchjfaa
