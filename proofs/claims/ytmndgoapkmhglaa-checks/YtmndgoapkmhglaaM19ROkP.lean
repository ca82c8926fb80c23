import Derived.Test.YtmndgoapkmhglaaM17AstO
/- Plain mathematics: what holds of a text's tokens and declarations. -/
namespace Go.Proofs.Ytmndgoapkmhglaa

/-- what holds of a text's tokens and declarations. -/
structure ROk (ts : List Tk) (L : List Dl) : Prop where
  F : ∀ i, TkF (tkAt ts i)
  E : ∀ i, (tkAt ts i).kind = 0 → ts.length ≤ i + 1
  len : ts.length ≤ 1501
  pos : 0 < ts.length
  sp : Spell ts L 0

theorem ROk.mem {ts : List Tk} {L : List Dl} (h : ROk ts L) {x : Dl} (hx : x ∈ L) : x.i + x.len < ts.length ∧ DlOk ts x := (spell_mem L 0 h.sp x hx).2
theorem ROk.eq {ts : List Tk} {L : List Dl} (h : ROk ts L) {x : Dl} (hx : x ∈ eqL L) : x ∈ L ∧ x.kind ≠ 0 ∧ Sp ts x.t (x.i + 5) ∧ x.i + 5 + x.t.len < ts.length ∧ placeD ts x < 4 := by
  have hm := List.mem_filter.1 hx
  have hk : x.kind ≠ 0 := by simpa using hm.2
  obtain ⟨h1, h2⟩ := h.mem hm.1
  have hl : x.len = x.t.len + 6 := by unfold Dl.len; rw [if_neg hk]
  refine ⟨hm.1, hk, ?_, by omega, ?_⟩
  · rcases h2 with ⟨h, _⟩ | ⟨_, _, _, _, _, h, _⟩
    · exact absurd h hk
    · exact h
  · rcases h2 with ⟨h, _⟩ | ⟨_, _, _, h, _⟩
    · exact absurd h hk
    · exact h.2
theorem spell_len {ts : List Tk} : ∀ (L : List Dl) (i : Nat), Spell ts L i → L.length + i ≤ ts.length := by
  intro L
  induction L with
  | nil => intro i h; have := h.1; simp; omega
  | cons x r ih => intro i h; have := ih _ h.2.2.2; have := Dl.len_pos x; simp; omega
theorem ROk.many {ts : List Tk} {L : List Dl} (h : ROk ts L) : L.length ≤ 1501 ∧ (eqL L).length ≤ 1501 ∧ (inL L).length ≤ 1501 := by
  have h1 := spell_len L 0 h.sp
  have h2 := h.len
  have h3 := List.length_filter_le (fun x : Dl => x.kind != 0) L
  have h4 := List.length_filter_le (fun x : Dl => x.kind == 0) L
  exact ⟨by omega, by unfold eqL; omega, by unfold inL; omega⟩



end Go.Proofs.Ytmndgoapkmhglaa
