import Derived.Test.YtghomdecppfonaaM12JudM
import Derived.Test.YtghomdecppfonaaM21AstI
import Derived.Test.YtghomdecppfonaaM24RefI
import Derived.Test.YtghomdecppfonaaM28StrC
import Derived.Test.YtghomdecppfonaaM30HeldT
import Derived.Test.YtghomdecppfonaaM40SvE
/- Plain mathematics: a text has its parts in one way alone; parts that are told can be checked. -/
namespace Go.Proofs.Ytghomdecppfonaa

theorem sp_uniq {ts : List Tk} (hF : ∀ i, TkF (tkAt ts i)) : ∀ (t t' : Ast) (i : Nat), Sp ts t i → Sp ts t' i → t = t' := by
  intro t
  induction t with
  | leaf =>
    intro t' i h h'
    cases t' with
    | leaf => rfl
    | neg a => exact absurd h'.1 h.2
    | ite a b c => exact absurd h'.1 h.2
    | dly b => exact absurd h'.1 h.2
    | bin a b => exact absurd h'.1 h.2
  | neg a iha =>
    intro t' i h h'
    cases t' with
    | leaf => exact absurd h.1 h'.2
    | neg a' => rw [iha a' _ h.2.2.1 h'.2.2.1]
    | ite a' b' c' => have e := h.2.1.symm.trans h'.2.1; exact absurd e (by decide)
    | dly b' => exact absurd h.2.1 (leaf_ne2 hF (by unfold leafT; rw [h'.2.1]; rfl)).1
    | bin a' b' => exact absurd h.2.1 (sp_first hF h'.2.1).1
  | ite a b c iha ihb ihc =>
    intro t' i h h'
    cases t' with
    | leaf => exact absurd h.1 h'.2
    | neg a' => have e := h.2.1.symm.trans h'.2.1; exact absurd e (by decide)
    | ite a' b' c' =>
      have e1 := iha a' _ h.2.2.1 h'.2.2.1
      subst e1
      have e2 := ihb b' _ h.2.2.2.1 h'.2.2.2.1
      subst e2
      rw [ihc c' _ h.2.2.2.2.1 h'.2.2.2.2.1]
    | dly b' => exact absurd h.2.1 (leaf_ne2 hF (by unfold leafT; rw [h'.2.1]; rfl)).2.1
    | bin a' b' => exact absurd h.2.1 (sp_first hF h'.2.1).2
  | dly b ihb =>
    intro t' i h h'
    have hlf : leafT (tkAt ts (i + 1)) = true := by unfold leafT; rw [h.2.1]; rfl
    cases t' with
    | leaf => exact absurd h.1 h'.2
    | neg a' => exact absurd h'.2.1 (leaf_ne2 hF hlf).1
    | ite a' b' c' => exact absurd h'.2.1 (leaf_ne2 hF hlf).2.1
    | dly b' => rw [ihb b' _ h.2.2.2.1 h'.2.2.2.1]
    | bin a' b' =>
      have hs := h'.2.1
      cases a' with
      | leaf => exact absurd h.2.2.1 (op_ne h'.2.2.1).2.2.2
      | neg x => exact absurd hs.1 (leaf_ne2 hF hlf).2.2.1
      | ite x y z => exact absurd hs.1 (leaf_ne2 hF hlf).2.2.1
      | dly x => exact absurd hs.1 (leaf_ne2 hF hlf).2.2.1
      | bin x y => exact absurd hs.1 (leaf_ne2 hF hlf).2.2.1
  | bin a b iha ihb =>
    intro t' i h h'
    cases t' with
    | leaf => exact absurd h.1 h'.2
    | neg a' => exact absurd h'.2.1 (sp_first hF h.2.1).1
    | ite a' b' c' => exact absurd h'.2.1 (sp_first hF h.2.1).2
    | dly b' =>
      have hlf : leafT (tkAt ts (i + 1)) = true := by unfold leafT; rw [h'.2.1]; rfl
      have hs := h.2.1
      cases a with
      | leaf => exact absurd h'.2.2.1 (op_ne h.2.2.1).2.2.2
      | neg x => exact absurd hs.1 (leaf_ne2 hF hlf).2.2.1
      | ite x y z => exact absurd hs.1 (leaf_ne2 hF hlf).2.2.1
      | dly x => exact absurd hs.1 (leaf_ne2 hF hlf).2.2.1
      | bin x y => exact absurd hs.1 (leaf_ne2 hF hlf).2.2.1
    | bin a' b' =>
      have e1 := iha a' _ h.2.1 h'.2.1
      subst e1
      rw [ihb b' _ h.2.2.2.1 h'.2.2.2.1]

/-- a declaration, its expression forgotten where it has none. -/
def nrm (x : Dl) : Dl := if x.kind = 0 then ⟨0, x.i, .leaf⟩ else x

theorem dl_uniq {ts : List Tk} (hF : ∀ i, TkF (tkAt ts i)) {x y : Dl} (hi : x.i = y.i) (hx : DlOk ts x) (hy : DlOk ts y) : nrm x = nrm y := by
  obtain ⟨kx, ix, tx⟩ := x
  obtain ⟨ky, iy, ty⟩ := y
  simp only at hi
  subst hi
  unfold DlOk at hx hy
  simp only at hx hy
  rcases hx with ⟨h1, h2, _⟩ | ⟨h1, _, _, _, _, hs, _⟩ <;> rcases hy with ⟨g1, g2, _⟩ | ⟨g1, _, _, _, _, gs, _⟩
  · subst h1 g1; rfl
  · rcases g1 with ⟨_, g⟩ | ⟨_, g⟩
    · have e := h2.symm.trans g; exact absurd e (by decide)
    · have e := h2.symm.trans g; exact absurd e (by decide)
  · rcases h1 with ⟨_, h⟩ | ⟨_, h⟩
    · have e := g2.symm.trans h; exact absurd e (by decide)
    · have e := g2.symm.trans h; exact absurd e (by decide)
  · have e := sp_uniq hF tx ty _ hs gs
    subst e
    rcases h1 with ⟨rfl, h⟩ | ⟨rfl, h⟩ <;> rcases g1 with ⟨rfl, g⟩ | ⟨rfl, g⟩
    · rfl
    · have e := h.symm.trans g; exact absurd e (by decide)
    · have e := h.symm.trans g; exact absurd e (by decide)
    · rfl

theorem nrm_len {x y : Dl} (h : nrm x = nrm y) : x.len = y.len := by
  unfold nrm at h
  unfold Dl.len
  by_cases hx : x.kind = 0 <;> by_cases hy : y.kind = 0
  · rw [if_pos hx, if_pos hy]
  · rw [if_pos hx, if_neg hy] at h; rw [← h] at hy; exact absurd rfl hy
  · rw [if_neg hx, if_pos hy] at h; rw [h] at hx; exact absurd rfl hx
  · rw [if_neg hx, if_neg hy] at h; rw [h]

theorem spell_uniq {ts : List Tk} (hF : ∀ i, TkF (tkAt ts i)) : ∀ (L L' : List Dl) (i : Nat), Spell ts L i → Spell ts L' i → L.map nrm = L'.map nrm := by
  have hend : ∀ {x : Dl} {i : Nat}, x.i = i → DlOk ts x → (tkAt ts i).kind = 0 → False := fun {x i} hi hx hk => by
    subst hi
    have h0 := (hF x.i).k0 hk
    unfold DlOk at hx
    rcases hx with ⟨_, h, _⟩ | ⟨⟨_, h⟩ | ⟨_, h⟩, _⟩
    all_goals
      rw [show (tkAt ts x.i).l = _ from h] at h0
      revert h0
      decide
  intro L
  induction L with
  | nil =>
    intro L' i h h'
    cases L' with
    | nil => rfl
    | cons y r => exact (hend h'.1 h'.2.2.1 h.2).elim
  | cons x r ih =>
    intro L' i h h'
    cases L' with
    | nil => exact (hend h.1 h.2.2.1 h'.2).elim
    | cons y r' =>
      obtain ⟨h1, h2, h3, h4⟩ := h
      obtain ⟨g1, g2, g3, g4⟩ := h'
      have e := dl_uniq hF (h1.trans g1.symm) h3 g3
      rw [List.map_cons, List.map_cons, e, ih r' (i + x.len) h4 (by rw [nrm_len e]; exact g4)]

theorem eqL_nrm : ∀ (L : List Dl), eqL (L.map nrm) = eqL L := by
  intro L
  induction L with
  | nil => rfl
  | cons x r ih =>
    unfold eqL at *
    rw [List.map_cons, List.filter_cons, List.filter_cons, ih]
    unfold nrm
    by_cases h : x.kind = 0
    · simp [h]
    · simp [h]
theorem inL_nrm : ∀ (L : List Dl), (inL (L.map nrm)).map Dl.i = (inL L).map Dl.i := by
  intro L
  induction L with
  | nil => rfl
  | cons x r ih =>
    unfold inL at *
    rw [List.map_cons, List.filter_cons, List.filter_cons]
    unfold nrm at *
    by_cases h : x.kind = 0
    · simp [h, ih]
    · simp [h, ih]

/-- the equations of a text, and where its inputs stand. -/
theorem spell_same {ts : List Tk} (hF : ∀ i, TkF (tkAt ts i)) {L L' : List Dl} {i : Nat} (h : Spell ts L i) (h' : Spell ts L' i) : eqL L = eqL L' ∧ (inL L).map Dl.i = (inL L').map Dl.i := by
  have e := spell_uniq hF L L' i h h'
  exact ⟨by rw [← eqL_nrm L, e, eqL_nrm], by rw [← inL_nrm L, e, inL_nrm]⟩

/-- are these the parts? -/
def spB (ts : List Tk) : Ast → Nat → Bool
  | .leaf, i => leafT (tkAt ts i) && !(lAt ts i == [40])
  | .neg a, i => lAt ts i == [40] && (lAt ts (i + 1) == kNot && (spB ts a (i + 2) && lAt ts (i + 2 + a.len) == [41]))
  | .ite a b c, i => lAt ts i == [40] && (lAt ts (i + 1) == kIf && (spB ts a (i + 2) && (spB ts b (i + 2 + a.len) && (spB ts c (i + 2 + a.len + b.len) && lAt ts (i + 2 + a.len + b.len + c.len) == [41]))))
  | .dly b, i => lAt ts i == [40] && (litT (tkAt ts (i + 1)) && (lAt ts (i + 2) == kFby && (spB ts b (i + 3) && lAt ts (i + 3 + b.len) == [41])))
  | .bin a b, i => lAt ts i == [40] && (spB ts a (i + 1) && ((opOf (lAt ts (i + 1 + a.len))).isSome && (spB ts b (i + 2 + a.len) && lAt ts (i + 2 + a.len + b.len) == [41])))
theorem spB_ok {ts : List Tk} : ∀ (t : Ast) (i : Nat), spB ts t i = true → Sp ts t i := by
  intro t
  induction t with
  | leaf => intro i h; simp only [spB, Bool.and_eq_true, Bool.not_eq_true', beq_eq_false_iff_ne] at h; exact h
  | neg a iha => intro i h; simp only [spB, Bool.and_eq_true, beq_iff_eq] at h; exact ⟨h.1, h.2.1, iha _ h.2.2.1, h.2.2.2⟩
  | ite a b c iha ihb ihc => intro i h; simp only [spB, Bool.and_eq_true, beq_iff_eq] at h; exact ⟨h.1, h.2.1, iha _ h.2.2.1, ihb _ h.2.2.2.1, ihc _ h.2.2.2.2.1, h.2.2.2.2.2⟩
  | dly b ihb => intro i h; simp only [spB, Bool.and_eq_true, beq_iff_eq] at h; exact ⟨h.1, h.2.1, h.2.2.1, ihb _ h.2.2.2.1, h.2.2.2.2⟩
  | bin a b iha ihb => intro i h; simp only [spB, Bool.and_eq_true, beq_iff_eq] at h; exact ⟨h.1, iha _ h.2.1, h.2.2.1, ihb _ h.2.2.2.1, h.2.2.2.2⟩
def dlB (ts : List Tk) (x : Dl) : Bool :=
  if x.kind = 0 then lAt ts x.i == kIn && ((tkAt ts (x.i + 1)).kind == 1 && lAt ts (x.i + 2) == [59])
  else ((x.kind == 1 && lAt ts x.i == kInt) || (x.kind == 2 && lAt ts x.i == kBool)) && ((tkAt ts (x.i + 1)).kind == 1 && (lAt ts (x.i + 2) == kAt && (((tkAt ts (x.i + 3)).kind == 3 && decide (valOf (lAt ts (x.i + 3)) < 4)) && (lAt ts (x.i + 4) == [61] && (spB ts x.t (x.i + 5) && lAt ts (x.i + 5 + x.t.len) == [59])))))
theorem dlB_ok {ts : List Tk} {x : Dl} (h : dlB ts x = true) : DlOk ts x := by
  unfold dlB at h
  split at h
  · rename_i h0
    simp only [Bool.and_eq_true, beq_iff_eq] at h
    exact .inl ⟨h0, h.1, h.2.1, h.2.2⟩
  · simp only [Bool.and_eq_true, Bool.or_eq_true, beq_iff_eq, decide_eq_true_eq] at h
    exact .inr ⟨h.1, h.2.1, h.2.2.1, h.2.2.2.1, h.2.2.2.2.1, spB_ok _ _ h.2.2.2.2.2.1, h.2.2.2.2.2.2⟩
def spellB (ts : List Tk) : List Dl → Nat → Bool
  | [], i => decide (i < ts.length) && (tkAt ts i).kind == 0
  | x :: r, i => x.i == i && (decide (i + x.len < ts.length) && (dlB ts x && spellB ts r (i + x.len)))
theorem spellB_ok {ts : List Tk} : ∀ (L : List Dl) (i : Nat), spellB ts L i = true → Spell ts L i := by
  intro L
  induction L with
  | nil => intro i h; simp only [spellB, Bool.and_eq_true, decide_eq_true_eq, beq_iff_eq] at h; exact h
  | cons x r ih => intro i h; simp only [spellB, Bool.and_eq_true, decide_eq_true_eq, beq_iff_eq] at h; exact ⟨h.1, h.2.1, dlB_ok h.2.2.1, ih _ h.2.2.2⟩

theorem ix_nm (ts : List Tk) {l : List Dl} {w : List UInt8} : l.findIdx? (nmIs ts w) = (l.map (nameD ts)).findIdx? (fun b => b.data.toList == w) := by
  rw [List.findIdx?_map]; rfl


/-- what the streams hang on of the parts. -/
theorem sol_same {ts : List Tk} {L L' : List Dl} (he : eqL L = eqL L') (hi : (inL L).map Dl.i = (inL L').map Dl.i) (ins : List (List Int)) : sol ts L ins = sol ts L' ins := by
  have hV : ∀ R w n, valV ts L ins R w n = valV ts L' ins R w n := fun R w n => by
    unfold valV
    have e1 : inIx ts L w = inIx ts L' w := by
      unfold inIx
      rw [ix_nm, ix_nm]
      congr 1
      have e : ∀ l : List Dl, l.map (nameD ts) = (l.map Dl.i).map fun k => (tkAt ts (k + 1)).text := fun l => by rw [List.map_map]; rfl
      rw [e, e, hi]
    have e2 : eqIx ts L w = eqIx ts L' w := by unfold eqIx; rw [he]
    rw [e1, e2]
  have key : ∀ f j n, solF ts L ins f j n = solF ts L' ins f j n := by
    intro f
    induction f with
    | zero => intro j n; rfl
    | succ f ih =>
      intro j n
      have e : solF ts L ins f = solF ts L' ins f := by funext j n; exact ih j n
      simp only [solF, he]
      have : valV ts L ins (solF ts L ins f) = valV ts L' ins (solF ts L' ins f) := by funext w n; rw [hV, e]
      rw [this]
  funext j n
  unfold sol
  rw [he]
  exact key _ j n

end Go.Proofs.Ytghomdecppfonaa

/- Plain mathematics: a text that is found right, or right but for its places, has its parts. -/
namespace Go.Proofs.Ytghomdecppfonaa

theorem read_zero {ts : List Tk} {L : List Dl} (h : (readR ts L).1 = 0) : manyR ts L = none ∧ namesR ts L = none ∧ typesR ts L = none ∧ cycR ts L = none ∧ lpR ts L = none := by
  unfold readR at h
  cases h1 : manyR ts L with
  | some a => rw [h1] at h; cases h
  | none =>
    cases h2 : namesR ts L with
    | some a => rw [h1, h2] at h; cases h
    | none =>
      cases h3 : typesR ts L with
      | some a => rw [h1, h2, h3] at h; cases h
      | none =>
        cases h4 : cycR ts L with
        | some a => rw [h1, h2, h3, h4] at h; cases h
        | none =>
          cases h5 : lpR ts L with
          | some a => rw [h1, h2, h3, h4, h5] at h; cases h
          | none => exact ⟨rfl, rfl, rfl, rfl, rfl⟩

theorem text_small {s : ByteArray} (h : (textF s).1 ≠ 1) : s.size ≤ 1500 := by
  by_cases hs : 1500 < s.size
  · unfold textF at h; rw [if_pos hs] at h; exact absurd rfl h
  · omega

theorem rok_of {s : ByteArray} {L : List Dl} (hs : s.size ≤ 1500) (h : Spell (toks s) L 0) : ROk (toks s) L :=
  ⟨toks_F s, toks_end s, (toks_ok s hs).1, (toks_ok s hs).pos, h⟩

theorem good_text {s : ByteArray} (h : (textF s).1 = 0) : ∃ L, RGood s L ∧ Right (toks s) L ∧ ROk (toks s) L := by
  have hs := text_small (s := s) (by omega)
  rcases text_read s hs with ⟨k, _, ht, _⟩ | ⟨L, hsp, _, ht, hp⟩
  · rw [ht] at h; cases h
  · rw [ht] at h
    obtain ⟨h1, h2, h3, h4, h5⟩ := read_zero h
    exact ⟨L, ⟨h1, h2, h3, h4, h5, hsp, hp⟩, right_of (toks_F s) hsp h1 h2 h4, rok_of hs hsp⟩

end Go.Proofs.Ytghomdecppfonaa

/- Streams of the program. -/
namespace Go.Proofs.Ytghomdecppfonaa
open Go.RowKit
attribute [local go_sem ↓] Go.wp_at_zero Go.wp_at_succ

set_option maxHeartbeats 1000000 in
set_option maxRecDepth 100000 in
theorem streams_any (s : ByteArray) (hs : s.size ≤ maxLen) (w : World) (vX : Value) (ins : List (List Int)) (hX : LsAt w vX ins) (n : Int) :
    Calls Try.prog 22 #[.string s, vX, .int .i64 n] w fun e w' => ∃ v, e = .returned (.tuple #[v, .int .i64 (strR s n : Int)]) ∧ StrQ s ins n w.heap.size w' v ∧ Below w.heap.size w w' := by
  have HX := hide hX
  clear hX
  go_enter Try.func22, Try.ntmps22
  go_wp2_with fail
  refine (text_any s w hs (good_parse s)).mono ?_
  rintro e w1 ⟨⟨vd, vn, rfl, hr⟩, hb1⟩
  rcases hr with ⟨h0, rfl, rfl⟩ | ⟨h0, p, hp, ⟨a1, n1, c1, rfl⟩, ⟨a2, n2, c2, rfl⟩, hod, hon, hdn⟩
  · have q1 : (((textF s).1 : Int) != 0) = true := by rw [bne_iff_ne]; omega
    have HSR : Hid (strR s n = (textF s).1) := hide (by unfold strR; rw [if_pos h0])
    have H0 := hide h0
    clear h0
    go_wp2
    go_ret2
    exact ⟨_, by rw [HSR.out]; rfl, by unfold StrQ; rw [HSR.out, if_neg H0.out]; exact ⟨_, _, rfl⟩, hb1.alloc hb1.size _⟩
  · have q1 : (((textF s).1 : Int) != 0) = false := by rw [h0]; rfl
    by_cases hn : n < 0 ∨ 200 < n
    · have HSR : Hid (strR s n = 10) := hide (by unfold strR; rw [if_neg (by simpa using h0), if_pos hn])
      have hc : n < 0 ∨ (¬ n < 0 ∧ 200 < n) := by omega
      have HB1 := hide hb1
      clear hn h0 hod hon hdn hp hb1
      rcases hc with z1 | ⟨z1, z2⟩
      all_goals
        go_wp2
        go_ret2
        exact ⟨_, by rw [HSR.out]; rfl, by unfold StrQ; rw [HSR.out]; exact ⟨_, _, rfl⟩, HB1.out.alloc HB1.out.size _⟩
    · have z1 : ¬ n < 0 := by omega
      have z2 : ¬ 200 < n := by omega
      have HSR : Hid (strR s n = 0) := hide (by unfold strR; rw [if_neg (by simpa using h0), if_neg hn])
      obtain ⟨k, rfl⟩ : ∃ k : Nat, n = (k : Int) := ⟨n.toNat, by omega⟩
      have hs' := text_le h0
      have hg := good_parse s hs' p hp
      obtain ⟨L, hG, hR, hO⟩ := good_text h0
      obtain ⟨g1, g2, hB⟩ := held_of hs' hp hG
      have hi := declsInv _ _ _ DInv.start hp
      have hbl : (boundN p).length = p.nodes.length := by simp [boundN]
      have hcovB : ∀ i, i < (boundN p).length → ∃ d ∈ p.decls, d.root ≤ i ∧ i < d.fin := fun i h => hi.cover i (by omega)
      have hnm0 : ∀ m ∈ boundN p, m.kind = 2 → 0 ≤ m.decl ∧ m.decl < (p.decls.length : Int) := fun m hm hk => by
        have h5 : badNameF p.decls (boundN p) 0 p.decls = none := by
          have h6 : (meaningF p.decls (boundN p)).1 = 0 := by
            have := h0
            unfold textF at this
            rw [if_neg (by omega), hp] at this
            exact this
          unfold meaningF at h6
          split at h6
          · cases h6
          · split at h6
            · cases h6
            · rename_i _ h7; exact h7
        exact ⟨hg.names h5 m hm hk, (hg.wf.decl m hm hk).2⟩
      obtain ⟨NV, hM, hS⟩ := meant_of hR hG.types ins g1 g2 hB hcovB hg.wf.segs hnm0
      have hrk := ranked_of hR hB
      have h16 : p.decls.length ≤ 16 := by
        have e1 : L.length = p.decls.length := hB.dx.len
        have e2 : (eqL L).length + (inL L).length = L.length := by
          have : ∀ l : List Dl, (eqL l).length + (inL l).length = l.length := by
            intro l
            induction l with
            | nil => rfl
            | cons x r ih =>
              by_cases hx : x.kind = 0
              · simp [eqL, inL, hx] at ih ⊢; omega
              · simp [eqL, inL, hx] at ih ⊢; omega
          exact this L
        have := hR.few
        omega
      have hel : (eqsF p.decls).length = (eqL L).length := by
        have hE : All2 (DX (toks s) (bindF p.decls) (boundN p)) (eqsF p.decls) (eqL L) := All2.filter (fun d x h => by rw [h.kind]) hB.dx
        exact hE.len.symm
      have HPA : Hid (∀ o, o = .cells #[.slice a1 n1 c1, .slice a2 n2 c2] 61 → ProgAt (w1.alloc o) w1.heap.size p.decls (boundN p) (.slice a1 n1 c1) (.slice a2 n2 c2)) := hide (fun o ho => by
        subst ho
        exact ⟨by simp, (World.cell?_alloc_at _ _ _ _ rfl).trans rfl, (World.cell?_alloc_at _ _ _ _ rfl).trans rfl, (own_zero hod).alloc _, by rw [hbl]; exact (own_zero hon).alloc _⟩)
      have HSO := hide (fun W hW hL => sof_any W w1.heap.size p.decls (boundN p) (.slice a1 n1 c1) (.slice a2 n2 c2) vX ins NV hW hg.wf hL hM h16 _ hrk k (by omega) (sol (toks s) L ins) hS)
      have HG := hide hG
      have HEL := hide hel
      have HB1 := hide hb1
      clear h0 hn hod hon hdn hg hp hb1 hbl hM hS hrk h16 hB hG hR hO g1 g2 hi hcovB hnm0 hel
      go_wp2_with fail
      refine (HSO.out _ (HPA.out _ rfl) (HX.out.below (HB1.out.alloc HB1.out.size _))).mono ?_
      rintro e w2 ⟨v, rfl, hO, hb2⟩
      have HO := hide hO
      have HB2 := hide hb2
      clear hO hb2 HPA HSO
      go_wp2
      go_ret2
      refine ⟨v, by rw [HSR.out]; rfl, ?_, (HB1.out.alloc HB1.out.size _).trans (HB2.out.mono (by have := HB1.out.size; simp; omega))⟩
      unfold StrQ
      rw [if_pos HSR.out]
      intro L' hG' hR'
      obtain ⟨se, si⟩ := spell_same (toks_F s) HG.out.sp hG'.sp
      rw [Int.toNat_natCast, ← se, ← HEL.out, ← sol_same se si ins]
      obtain ⟨a, gr, rc, R, h1, h2, h3, h4, h5⟩ := HO.out.mat
      have hsz := HB1.out.size
      exact Outs.own ⟨⟨a, gr, rc, R, h1, h2, h3, fun i hi => by have := h4 i hi; simp at this; omega, by simp at h5; omega⟩⟩ (by omega)

end Go.Proofs.Ytghomdecppfonaa
