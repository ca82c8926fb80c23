import Derived.Test.YtmndgoapkmhglaaDoorM12AstI
/- Plain mathematics: types, over all declarations. -/
namespace Go.Proofs.YtmndgoapkmhglaaDoor

/-- the table says of each equation to come what it is. -/
def TrOk : List Dl → Nat → List Bool → Prop
  | [], _, _ => True
  | x :: r, off, tr => if x.kind = 0 then TrOk r off tr else tr.getD off false = (x.kind == 2) ∧ TrOk r (off + x.t.size) tr
def totN : List Dl → Nat
  | [] => 0
  | x :: r => if x.kind = 0 then totN r else x.t.size + totN r
theorem nodesD_len (ts : List Tk) : ∀ (L : List Dl) (off : Nat), (nodesD ts L off).length = totN L := by
  intro L
  induction L with
  | nil => intro off; rfl
  | cons x r ih =>
    intro off
    simp only [nodesD, totN]
    split
    · exact ih off
    · rw [List.length_append, flat_len, ih]

theorem TrOk.congr : ∀ (L : List Dl) (off : Nat) (tr tr' : List Bool), (∀ j, off ≤ j → tr'.getD j false = tr.getD j false) → TrOk L off tr → TrOk L off tr' := by
  intro L
  induction L with
  | nil => intro off tr tr' _ _; trivial
  | cons x r ih =>
    intro off tr tr' h hT
    simp only [TrOk] at hT ⊢
    split
    · rename_i hk; rw [if_pos hk] at hT; exact ih off tr tr' h hT
    · rename_i hk; rw [if_neg hk] at hT; exact ⟨by rw [h off (Nat.le_refl _)]; exact hT.1, ih _ tr tr' (fun j hj => h j (by omega)) hT.2⟩

theorem roots_below (ts : List Tk) : ∀ (L : List Dl) (off a b : Nat) (tr : List Bool) (j : Nat), j < off → (roots (declsD ts L off a b) tr).getD j false = tr.getD j false := by
  intro L
  induction L with
  | nil => intro off a b tr j _; rfl
  | cons x r ih =>
    intro off a b tr j hj
    simp only [declsD]
    split
    · simp only [roots]
      rw [if_neg (show ¬ (dcIn ts x a).kind = 2 by show ¬ (0 : Nat) = 2; decide)]
      exact ih off (a + 1) b tr j hj
    · simp only [roots]
      rw [ih (off + x.t.size) a (b + 1) _ j (by omega)]
      split
      · rw [getD_set_ne (show (dcEq ts x b off).root ≠ j by show off ≠ j; omega)]
      · rfl
theorem roots_len (ds : List Dc) : ∀ (tr : List Bool), (roots ds tr).length = tr.length := by
  induction ds with
  | nil => intro tr; rfl
  | cons d r ih => intro tr; simp only [roots]; rw [ih]; split <;> simp

theorem roots_ok (ts : List Tk) : ∀ (L : List Dl) (off a b : Nat) (tr : List Bool), (∀ j, off ≤ j → tr.getD j false = false) → off + totN L ≤ tr.length → TrOk L off (roots (declsD ts L off a b) tr) := by
  intro L
  induction L with
  | nil => intro off a b tr _ _; trivial
  | cons x r ih =>
    intro off a b tr h hl
    simp only [totN] at hl
    simp only [declsD, TrOk]
    by_cases hk : x.kind = 0
    · rw [if_pos hk] at hl
      rw [if_pos hk, if_pos hk]
      simp only [roots]
      rw [if_neg (show ¬ (dcIn ts x a).kind = 2 by show ¬ (0 : Nat) = 2; decide)]
      exact ih off (a + 1) b tr h hl
    · rw [if_neg hk] at hl
      rw [if_neg hk, if_neg hk]
      have hp := x.t.size_pos
      simp only [roots]
      have hr : (dcEq ts x b off).root = off := rfl
      have hkk : (dcEq ts x b off).kind = x.kind := rfl
      rw [hr, hkk]
      refine ⟨?_, ?_⟩
      · rw [roots_below ts r _ _ _ _ off (by omega)]
        by_cases h2 : x.kind = 2
        · rw [if_pos h2, getD_set_eq (by omega), h2]; rfl
        · rw [if_neg h2, h off (Nat.le_refl _)]
          exact (beq_eq_false_iff_ne.2 h2).symm
      · refine ih _ _ _ _ (fun j hj => ?_) ?_
        · split
          · rw [getD_set_ne (by omega)]; exact h j (by omega)
          · exact h j (by omega)
        · split
          · rw [List.length_set]; omega
          · omega

theorem types_eq {ts : List Tk} (hF : ∀ i, TkF (tkAt ts i)) {L : List Dl} {ds : List Dc} (hN : NamesOk ts L ds) :
    ∀ (L2 : List Dl) (i off : Nat) (tr : List Bool), Spell ts L2 i → TrOk L2 off tr → off + totN L2 ≤ tr.length → (∀ x ∈ L2, x.kind ≠ 0 → ∀ y ∈ nmD ts x.t (x.i + 5) false, 0 ≤ findF ds (tkAt ts y.1).text) →
      badTypeF ds off ((nodesD ts L2 off).map (bindF ds)) tr = (eqL L2).findSome? fun x => wrongR ts L x.t (x.i + 5) (wB (x.kind == 2)) := by
  intro L2
  induction L2 with
  | nil => intro i off tr _ _ _ _; rfl
  | cons x r ih =>
    intro i off tr hs hT hl hd
    obtain ⟨h1, h2, h3, h4⟩ := hs
    simp only [TrOk] at hT
    simp only [totN] at hl
    by_cases hk : x.kind = 0
    · rw [if_pos hk] at hT hl
      have e : eqL (x :: r) = eqL r := by simp [eqL, hk]
      simp only [nodesD, if_pos hk]
      rw [e]
      exact ih _ off tr h4 hT hl (fun y hy => hd y (List.mem_cons_of_mem _ hy))
    · rw [if_neg hk] at hT hl
      have e : eqL (x :: r) = x :: eqL r := by simp [eqL, hk]
      simp only [nodesD, if_neg hk]
      have hsp : Sp ts x.t (x.i + 5) := by
        rcases h3 with ⟨h, _⟩ | ⟨_, _, _, _, _, h, _⟩
        · exact absurd h hk
        · exact h
      have hlen : x.len = x.t.len + 6 := by unfold Dl.len; rw [if_neg hk]
      obtain ⟨tr', e1, e2, e3⟩ := pass_expr hF hN x.t (x.i + 5) 0 off tr ((nodesD ts r (off + x.t.size)).map (bindF ds)) hsp (by omega) (hd x (List.mem_cons_self ..) hk) (by omega)
      rw [List.map_append, e3, e, List.findSome?_cons, hT.1, ih _ (off + x.t.size) tr' h4 (hT.2.congr r _ tr tr' e2) (by omega) (fun y hy => hd y (List.mem_cons_of_mem _ hy))]
      cases wrongR ts L x.t (x.i + 5) (wB (x.kind == 2)) <;> rfl

end Go.Proofs.YtmndgoapkmhglaaDoor

/- Plain mathematics: what hangs on itself: both readers find the same. -/
namespace Go.Proofs.YtmndgoapkmhglaaDoor

def delayedR (ts : List Tk) (from' j : Nat) : Bool := (List.range' from' (j - from')).any fun f => lAt ts f == kFby && decide (j < behindF ts (f + 1))
def hangsR (ts : List Tk) (x : Dl) (name : List UInt8) : Bool := (List.range' (x.i + 5) x.t.len).any fun j => isNm ts j && (lAt ts j == name && !delayedR ts (x.i + 5) j)

theorem delayed_iff (ts : List Tk) (i j : Nat) : delayedR ts i j = true ↔ ∃ f, i ≤ f ∧ f < j ∧ lAt ts f = kFby ∧ j < behindF ts (f + 1) := by
  unfold delayedR
  rw [List.any_eq_true]
  constructor
  · rintro ⟨f, hf, h⟩
    rw [List.mem_range'_1] at hf
    rw [Bool.and_eq_true, beq_iff_eq, decide_eq_true_iff] at h
    exact ⟨f, hf.1, by omega, h.1, h.2⟩
  · rintro ⟨f, h1, h2, h3, h4⟩
    refine ⟨f, ?_, ?_⟩
    · rw [List.mem_range'_1]; omega
    · rw [Bool.and_eq_true, beq_iff_eq, decide_eq_true_iff]; exact ⟨h3, h4⟩

section
variable {ts : List Tk} (hF : ∀ i, TkF (tkAt ts i))
include hF

/-- what follows a delay ends within the expression. -/
theorem fby_in : ∀ (t : Ast) (i : Nat), Sp ts t i → i + t.len ≤ ts.length → ∀ f, i ≤ f → f < i + t.len → lAt ts f = kFby → behindF ts (f + 1) ≤ i + t.len := by
  intro t
  induction t with
  | leaf =>
    intro i hs hl f h1 h2 h3
    simp only [Ast.len] at h2
    have : f = i := by omega
    subst this
    exact absurd h3 (leaf_ne hF hs.1 (by decide) (by decide) (by decide))
  | neg a iha =>
    intro i hs hl f h1 h2 h3
    obtain ⟨k1, k2, k3, k4⟩ := hs
    simp only [Ast.len] at hl h2 ⊢
    by_cases c1 : f < i + 2
    · have : f = i ∨ f = i + 1 := by omega
      rcases this with rfl | rfl
      · rw [k1] at h3; cases h3
      · rw [k2] at h3; exact absurd h3 (by decide)
    by_cases c2 : f < i + 2 + a.len
    · have := iha (i + 2) k3 (by omega) f (by omega) c2 h3; omega
    · have : f = i + 2 + a.len := by omega
      subst this
      rw [k4] at h3; cases h3
  | ite a b c iha ihb ihc =>
    intro i hs hl f h1 h2 h3
    obtain ⟨k1, k2, k3, k4, k5, k6⟩ := hs
    simp only [Ast.len] at hl h2 ⊢
    by_cases c1 : f < i + 2
    · have : f = i ∨ f = i + 1 := by omega
      rcases this with rfl | rfl
      · rw [k1] at h3; cases h3
      · rw [k2] at h3; exact absurd h3 (by decide)
    by_cases c2 : f < i + 2 + a.len
    · have := iha (i + 2) k3 (by omega) f (by omega) c2 h3; omega
    by_cases c3 : f < i + 2 + a.len + b.len
    · have := ihb (i + 2 + a.len) k4 (by omega) f (by omega) c3 h3; omega
    by_cases c4 : f < i + 2 + a.len + b.len + c.len
    · have := ihc (i + 2 + a.len + b.len) k5 (by omega) f (by omega) c4 h3; omega
    · have : f = i + 2 + a.len + b.len + c.len := by omega
      subst this
      rw [k6] at h3; cases h3
  | dly b ihb =>
    intro i hs hl f h1 h2 h3
    obtain ⟨k1, k2, k3, k4, k5⟩ := hs
    simp only [Ast.len] at hl h2 ⊢
    by_cases c1 : f < i + 2
    · have : f = i ∨ f = i + 1 := by omega
      rcases this with rfl | rfl
      · rw [k1] at h3; cases h3
      · exact absurd h3 (leaf_ne hF (by unfold leafT; rw [k2]; rfl) (by decide) (by decide) (by decide))
    by_cases c2 : f = i + 2
    · subst c2
      have := behind_sp hF b (i + 2 + 1) k4 (by omega)
      omega
    by_cases c3 : f < i + 3 + b.len
    · have := ihb (i + 3) k4 (by omega) f (by omega) c3 h3; omega
    · have : f = i + 3 + b.len := by omega
      subst this
      rw [k5] at h3; cases h3
  | bin a b iha ihb =>
    intro i hs hl f h1 h2 h3
    obtain ⟨k1, k2, k3, k4, k5⟩ := hs
    simp only [Ast.len] at hl h2 ⊢
    by_cases c1 : f = i
    · subst c1; rw [k1] at h3; cases h3
    by_cases c2 : f < i + 1 + a.len
    · have := iha (i + 1) k2 (by omega) f (by omega) c2 h3; omega
    by_cases c3 : f = i + 1 + a.len
    · subst c3; exact absurd h3 (op_ne k3).2.2.2
    by_cases c4 : f < i + 2 + a.len + b.len
    · have := ihb (i + 2 + a.len) k4 (by omega) f (by omega) c4 h3; omega
    · have : f = i + 2 + a.len + b.len := by omega
      subst this
      rw [k5] at h3; cases h3

omit hF in
/-- a delay ahead of a part does not reach into it, if it does not lie open. -/
theorem delayed_shift {i j k : Nat} (hij : i ≤ j) (_hjk : j ≤ k) (h : ∀ f, i ≤ f → f < j → lAt ts f = kFby → behindF ts (f + 1) ≤ k) : delayedR ts i k = delayedR ts j k := by
  rw [Bool.eq_iff_iff, delayed_iff, delayed_iff]
  constructor
  · rintro ⟨f, h1, h2, h3, h4⟩
    by_cases c : f < j
    · have := h f h1 c h3; omega
    · exact ⟨f, by omega, h2, h3, h4⟩
  · rintro ⟨f, h1, h2, h3, h4⟩; exact ⟨f, by omega, h2, h3, h4⟩

theorem nm_delayed : ∀ (t : Ast) (i : Nat) (dl : Bool), Sp ts t i → i + t.len ≤ ts.length → ∀ x ∈ nmD ts t i dl, x.2 = (dl || delayedR ts i x.1) := by
  intro t
  induction t with
  | leaf =>
    intro i dl hs hl x hx
    simp only [nmD] at hx
    split at hx
    · simp only [List.mem_singleton] at hx
      subst hx
      have : delayedR ts i i = false := by unfold delayedR; simp
      rw [this, Bool.or_false]
    · simp at hx
  | neg a iha =>
    intro i dl hs hl x hx
    obtain ⟨k1, k2, k3, k4⟩ := hs
    simp only [Ast.len] at hl
    have hin := nm_in a (i + 2) dl x hx
    rw [iha (i + 2) dl k3 (by omega) x hx, delayed_shift (i := i) (j := i + 2) (by omega) hin.1]
    intro f h1 h2 h3
    have : f = i ∨ f = i + 1 := by omega
    rcases this with rfl | rfl
    · rw [k1] at h3; cases h3
    · rw [k2] at h3; exact absurd h3 (by decide)
  | ite a b c iha ihb ihc =>
    intro i dl hs hl x hx
    obtain ⟨k1, k2, k3, k4, k5, k6⟩ := hs
    simp only [Ast.len] at hl
    simp only [nmD, List.mem_append] at hx
    have hfirst : ∀ f, i ≤ f → f < i + 2 → lAt ts f = kFby → False := by
      intro f h1 h2 h3
      have : f = i ∨ f = i + 1 := by omega
      rcases this with rfl | rfl
      · rw [k1] at h3; cases h3
      · rw [k2] at h3; exact absurd h3 (by decide)
    rcases hx with hx | hx | hx
    · have hin := nm_in _ _ _ x hx
      rw [iha (i + 2) dl k3 (by omega) x hx, delayed_shift (i := i) (j := i + 2) (by omega) hin.1]
      intro f h1 h2 h3
      exact (hfirst f h1 h2 h3).elim
    · have hin := nm_in _ _ _ x hx
      rw [ihb (i + 2 + a.len) dl k4 (by omega) x hx, delayed_shift (i := i) (j := i + 2 + a.len) (by omega) hin.1]
      intro f h1 h2 h3
      by_cases c1 : f < i + 2
      · exact (hfirst f h1 c1 h3).elim
      · have := fby_in hF a (i + 2) k3 (by omega) f (by omega) h2 h3; omega
    · have hin := nm_in _ _ _ x hx
      rw [ihc (i + 2 + a.len + b.len) dl k5 (by omega) x hx, delayed_shift (i := i) (j := i + 2 + a.len + b.len) (by omega) hin.1]
      intro f h1 h2 h3
      by_cases c1 : f < i + 2
      · exact (hfirst f h1 c1 h3).elim
      by_cases c2 : f < i + 2 + a.len
      · have := fby_in hF a (i + 2) k3 (by omega) f (by omega) c2 h3; omega
      · have := fby_in hF b (i + 2 + a.len) k4 (by omega) f (by omega) h2 h3; omega
  | dly b ihb =>
    intro i dl hs hl x hx
    obtain ⟨k1, k2, k3, k4, k5⟩ := hs
    simp only [Ast.len] at hl
    have hin := nm_in b (i + 3) true x hx
    rw [nm_true b (i + 3) x hx]
    have : delayedR ts i x.1 = true := by
      rw [delayed_iff]
      refine ⟨i + 2, by omega, by omega, k3, ?_⟩
      rw [behind_sp hF b (i + 2 + 1) k4 (by omega)]; omega
    rw [this, Bool.or_true]
  | bin a b iha ihb =>
    intro i dl hs hl x hx
    obtain ⟨k1, k2, k3, k4, k5⟩ := hs
    simp only [Ast.len] at hl
    simp only [nmD, List.mem_append] at hx
    have hfirst : ∀ f, i ≤ f → f < i + 1 → lAt ts f = kFby → False := by
      intro f h1 h2 h3
      have : f = i := by omega
      subst this
      rw [k1] at h3; cases h3
    rcases hx with hx | hx
    · have hin := nm_in _ _ _ x hx
      rw [iha (i + 1) dl k2 (by omega) x hx, delayed_shift (i := i) (j := i + 1) (by omega) hin.1]
      intro f h1 h2 h3
      exact (hfirst f h1 h2 h3).elim
    · have hin := nm_in _ _ _ x hx
      rw [ihb (i + 2 + a.len) dl k4 (by omega) x hx, delayed_shift (i := i) (j := i + 2 + a.len) (by omega) hin.1]
      intro f h1 h2 h3
      by_cases c1 : f < i + 1
      · exact (hfirst f h1 c1 h3).elim
      by_cases c2 : f < i + 1 + a.len
      · have := fby_in hF a (i + 1) k2 (by omega) f (by omega) c2 h3; omega
      · have : f = i + 1 + a.len := by omega
        subst this
        exact absurd h3 (op_ne k3).2.2.2

theorem hangs_nm (x : Dl) (hs : Sp ts x.t (x.i + 5)) (hl : x.i + 5 + x.t.len ≤ ts.length) (name : List UInt8) : hangsR ts x name = (nmD ts x.t (x.i + 5) false).any fun y => lAt ts y.1 == name && !y.2 := by
  unfold hangsR
  rw [← List.any_filter, nm_filter hF x.t (x.i + 5) false hs, List.any_map]
  apply any_congr_mem
  intro y hy
  have := nm_delayed hF x.t (x.i + 5) false hs hl y hy
  simp only [Function.comp]
  rw [this, Bool.false_or]

end

/-- marks. -/
theorem markSeg_eq (ds : List Dc) (i : Nat) : ∀ (l : List Nd) (M : Mx) (a b : Nat), markSeg ds i l M a b = (M a b || (a == i && l.any fun n => n.kind == 2 && (!n.delayed && (kindAt ds n.decl != 0 && n.decl.toNat == b)))) := by
  intro l
  induction l with
  | nil => intro M a b; simp [markSeg]
  | cons n l ih =>
    intro M a b
    simp only [markSeg]
    rw [ih, List.any_cons]
    by_cases h : n.kind = 2 ∧ n.delayed = false ∧ kindAt ds n.decl ≠ 0
    · have hq : (kindAt ds n.decl != 0) = true := by rw [bne_iff_ne]; exact h.2.2
      rw [if_pos h, h.1, h.2.1, hq]
      unfold upd
      by_cases h2 : a = i ∧ b = n.decl.toNat
      · rw [if_pos h2, h2.1, h2.2]; simp
      · rw [if_neg h2]
        by_cases ha : a = i
        · have hb : (n.decl.toNat == b) = false := beq_eq_false_iff_ne.2 (fun e => h2 ⟨ha, e.symm⟩)
          rw [hb]; simp
        · have hb : (a == i) = false := beq_eq_false_iff_ne.2 ha
          rw [hb]; simp
    · rw [if_neg h]
      have : (n.kind == 2 && (!n.delayed && (kindAt ds n.decl != 0 && n.decl.toNat == b))) = false := by
        by_cases hk : n.kind = 2
        · cases hd : n.delayed with
          | true => simp
          | false =>
            have hq : kindAt ds n.decl = 0 := by
              by_cases hz : kindAt ds n.decl = 0
              · exact hz
              · exact absurd ⟨hk, hd, hz⟩ h
            simp [hq]
        · simp [hk]
      rw [this, Bool.false_or]

theorem markAll_eq (ds : List Dc) (ns : List Nd) : ∀ (l : List Dc) (i : Nat) (M : Mx) (a b : Nat), markAll ds ns i l M a b = (M a b || (decide (i ≤ a) && ((l[a - i]?).any fun d => (seg ns d.root d.fin).any fun n => n.kind == 2 && (!n.delayed && (kindAt ds n.decl != 0 && n.decl.toNat == b))))) := by
  intro l
  induction l with
  | nil => intro i M a b; simp [markAll]
  | cons d l ih =>
    intro i M a b
    simp only [markAll]
    rw [ih, markSeg_eq]
    by_cases h : a = i
    · subst h
      have h1 : decide (a + 1 ≤ a) = false := by rw [decide_eq_false_iff_not]; omega
      have h2 : decide (a ≤ a) = true := by rw [decide_eq_true_iff]; omega
      rw [h1, h2, Nat.sub_self, List.getElem?_cons_zero]
      simp
    · by_cases h2 : i ≤ a
      · have e : a - i = (a - (i + 1)) + 1 := by omega
        have g1 : (a == i) = false := beq_eq_false_iff_ne.2 h
        have g2 : decide (i ≤ a) = true := by rw [decide_eq_true_iff]; omega
        have g3 : decide (i + 1 ≤ a) = true := by rw [decide_eq_true_iff]; omega
        rw [e, List.getElem?_cons_succ, g1, g2, g3]
        simp
      · have g1 : (a == i) = false := beq_eq_false_iff_ne.2 h
        have g2 : decide (i ≤ a) = false := by rw [decide_eq_false_iff_not]; omega
        have g3 : decide (i + 1 ≤ a) = false := by rw [decide_eq_false_iff_not]; omega
        rw [g1, g2, g3]
        simp

/-- a relation whose other rows are empty is followed as the smaller one is. -/
theorem warsh_part {M rel : Mx} {isE : Nat → Bool} {cnt : Nat → Nat} (hc : ∀ k, cnt (k + 1) = if isE k then cnt k + 1 else cnt k) (h0 : cnt 0 = 0)
    (h1 : ∀ a b, isE a = false → M a b = false) (h2 : ∀ a b, isE a = true → isE b = true → M a b = rel (cnt a) (cnt b)) :
    ∀ k, (∀ a b, isE a = false → warsh M k a b = false) ∧ (∀ a b, isE a = true → isE b = true → warsh M k a b = warsh rel (cnt k) (cnt a) (cnt b)) := by
  intro k
  induction k with
  | zero => rw [h0]; exact ⟨h1, h2⟩
  | succ k ih =>
    obtain ⟨i1, i2⟩ := ih
    refine ⟨fun a b ha => ?_, fun a b ha hb => ?_⟩
    · simp only [warsh, phase]; rw [i1 a b ha, i1 a k ha]; rfl
    · simp only [warsh, phase]
      cases hk : isE k with
      | false => rw [hc, hk, i1 k b hk, i2 a b ha hb]; simp
      | true =>
        rw [hc, hk, i2 a b ha hb, i2 a k ha hk, i2 k b hk hb]
        rfl

end Go.Proofs.YtmndgoapkmhglaaDoor
