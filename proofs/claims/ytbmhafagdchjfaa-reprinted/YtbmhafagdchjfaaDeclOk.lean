import Derived.Test.YtbmhafagdchjfaaParseOk
/- Plain mathematics: what a declaration keeps. -/
namespace Go.Proofs.Ytbmhafagdchjfaa

/-- from one declaration to the next. -/
structure DStep (ts : List Tk) (p p' : PS) : Prop where
  lt : p.next < p'.next
  wf : p'.Wf ts
  depth : p'.depth = p.depth
  delays : p'.delays = p.delays

theorem place_step {ts : List Tk} (ht : TsOk ts) {p p' : PS} {r : Nat} (h : p.Wf ts) (he : placeF ts p = .ok (r, p')) : Step ts p p' ∧ r < 4 := by
  unfold placeF at he
  split at he
  · rename_i hh
    cases he
    exact ⟨adv_step ht h (.inl (by rw [hh.1]; decide)), hh.2⟩
  · cases he

theorem declare_wf {ts : List Tk} {p : PS} {d : Dc} (h : p.Wf ts) (hd : p.decls.length + 1 ≤ p.next) : (p.declare d).Wf ts :=
  ⟨h.next, h.nodes, by simp [PS.declare]; exact hd, h.delays, h.depth⟩

theorem declaration_step {ts : List Tk} (ht : TsOk ts) {p p' : PS} (h : p.Wf ts) (hd0 : p.depth = 0) (he : declarationF ts p = .ok p') : DStep ts p p' := by
  unfold declarationF at he
  have inp : (p.hd ts).l ≠ [] → inputF ts p = .ok p' → DStep ts p p' := by
    intro hk he
    have s1 := adv_step ht h (.inr hk)
    have w1 := s1.wf h
    unfold inputF at he
    split at he
    · rename_i hn
      have s2 := adv_step ht w1 (.inl (by rw [hn]; decide))
      have w2 := s2.wf w1
      have hdl : ((p.adv ts).adv ts).decls.length + 1 ≤ ((p.adv ts).adv ts).next := by
        have := h.decls; have := s1.lt; have := s2.lt; simp; omega
      obtain ⟨_, s3⟩ := take_ok ht (declare_wf (d := ⟨0, 0, ((p.adv ts).hd ts).text, ((p.adv ts).hd ts).pos, 0, 0, 0⟩) w2 hdl) (by decide) he
      have e1 := s1.lt
      have e2 := s2.lt
      have e3 : ((p.adv ts).adv ts).next < p'.next := s3.lt
      refine ⟨by omega, ?_, ?_, ?_⟩
      · exact s3.wf (declare_wf w2 hdl)
      · rw [s3.depth]; simp [PS.declare]
      · rw [s3.delays]; simp [PS.declare]
    · cases he
  have eqn : ∀ kind, (p.hd ts).l ≠ [] → equationF ts kind p = .ok p' → DStep ts p p' := by
    intro kind hk he
    have s1 := adv_step ht h (.inr hk)
    have w1 := s1.wf h
    unfold equationF at he
    split at he
    · rename_i hn
      have s2 := adv_step ht w1 (.inl (by rw [hn]; decide))
      have w2 := s2.wf w1
      split at he
      · cases he
      rename_i p3 h3
      obtain ⟨_, s3⟩ := take_ok ht w2 (by decide) h3
      have w3 := s3.wf w2
      split at he
      · cases he
      rename_i pl p4 h4
      obtain ⟨s4, _⟩ := place_step ht w3 h4
      have w4 := s4.wf w3
      split at he
      · cases he
      rename_i p5 h5
      obtain ⟨_, s5⟩ := take_ok ht w4 (by decide) h5
      have w5 := s5.wf w4
      split at he
      · cases he
      rename_i r p6 h6
      have hd5 : p5.depth = 0 := by rw [s5.depth, s4.depth, s3.depth, s2.depth, s1.depth]; exact hd0
      obtain ⟨s6, _⟩ := (expr_ok ht 16 0 (by omega) p5 w5 hd5).1 _ _ h6
      have w6 := s6.wf w5
      have sAll := ((((s1.trans s2).trans s3).trans s4).trans s5).trans s6
      have hdl : p6.decls.length + 1 ≤ p6.next := by
        rw [sAll.decls]; have := h.decls; have := sAll.lt; omega
      obtain ⟨_, s7⟩ := take_ok ht (declare_wf (d := ⟨kind, 0, ((p.adv ts).hd ts).text, ((p.adv ts).hd ts).pos, pl, r, p6.nodes.length⟩) w6 hdl) (by decide) he
      have e1 := sAll.lt
      have e2 : p6.next < p'.next := s7.lt
      refine ⟨by omega, s7.wf (declare_wf w6 hdl), ?_, ?_⟩
      · rw [s7.depth]; show p6.depth = _; exact sAll.depth
      · rw [s7.delays]; show p6.delays = _; exact sAll.delays
    · cases he
  split at he
  · rename_i hl; exact inp (by rw [hl]; decide) he
  split at he
  · rename_i hl; exact eqn 1 (by rw [hl]; decide) he
  split at he
  · rename_i hl; exact eqn 2 (by rw [hl]; decide) he
  · cases he

def pZero : PS := ⟨0, 0, 0, [], []⟩
def parseF (s : ByteArray) : Except Nat PS := declsF (toks s) (toks s).length pZero

theorem pZero_wf {ts : List Tk} (ht : TsOk ts) : pZero.Wf ts := ⟨ht.pos, Nat.le_refl _, Nat.le_refl _, Nat.le_refl _, by decide⟩

theorem findF_hit (l : List Dc) (name : ByteArray) (k : Nat) (h : k < l.length) (hk : (l[k]'h).name.data.toList = name.data.toList) (hb : ∀ j (hj : j < k), (l[j]'(by omega)).name.data.toList ≠ name.data.toList) : findF l name = (k : Int) := by
  unfold findF
  have : l.findIdx? (fun d => d.name.data.toList == name.data.toList) = some k := by
    rw [List.findIdx?_eq_some_iff_getElem]
    refine ⟨h, by simpa using hk, ?_⟩
    intro j hj
    simpa using hb j hj
  rw [this]

theorem findF_miss (l : List Dc) (name : ByteArray) (hb : ∀ j (hj : j < l.length), (l[j]'hj).name.data.toList ≠ name.data.toList) : findF l name = -1 := by
  unfold findF
  have : l.findIdx? (fun d => d.name.data.toList == name.data.toList) = none := by
    rw [List.findIdx?_eq_none_iff]
    intro d hd
    obtain ⟨j, hj, rfl⟩ := List.getElem_of_mem hd
    simpa using hb j hj
  rw [this]

end Go.Proofs.Ytbmhafagdchjfaa
