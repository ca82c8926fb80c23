import Derived.Test.YtecegaflhdgfaaaM08AstJ
/- Plain mathematics: what hangs on itself: both readers find the same. -/
namespace Go.Proofs.Ytecegaflhdgfaaa

def delayedR (ts : List Tk) (from' j : Nat) : Bool := (List.range' from' (j - from')).any fun f => lAt ts f == kFby && decide (j < behindF ts (f + 1))
def hangsR (ts : List Tk) (x : Dl) (name : List UInt8) : Bool := (List.range' (x.i + 5) x.t.len).any fun j => isNm ts j && (lAt ts j == name && !delayedR ts (x.i + 5) j)

theorem delayed_iff (ts : List Tk) (i j : Nat) : delayedR ts i j = true ↔ ∃ f, i ≤ f ∧ f < j ∧ lAt ts f = kFby ∧ j < behindF ts (f + 1) := by
  unfold delayedR
  rw [List.any_eq_true]
  constructor
  · rintro ⟨f, hf, h⟩
    rw [List.mem_range'_1] at hf
    rw [Bool.and_eq_true, beq_iff_eq, decide_eq_true_iff] at h
    exact ⟨f, hf.1, by omega, h.1, h.2⟩
  · rintro ⟨f, h1, h2, h3, h4⟩
    refine ⟨f, ?_, ?_⟩
    · rw [List.mem_range'_1]; omega
    · rw [Bool.and_eq_true, beq_iff_eq, decide_eq_true_iff]; exact ⟨h3, h4⟩

section
variable {ts : List Tk} (hF : ∀ i, TkF (tkAt ts i))
include hF

/-- what follows a delay ends within the expression. -/
theorem fby_in : ∀ (t : Ast) (i : Nat), Sp ts t i → i + t.len ≤ ts.length → ∀ f, i ≤ f → f < i + t.len → lAt ts f = kFby → behindF ts (f + 1) ≤ i + t.len := by
  intro t
  induction t with
  | leaf =>
    intro i hs hl f h1 h2 h3
    simp only [Ast.len] at h2
    have : f = i := by omega
    subst this
    exact absurd h3 (leaf_ne hF hs.1 (by decide) (by decide) (by decide))
  | neg a iha =>
    intro i hs hl f h1 h2 h3
    obtain ⟨k1, k2, k3, k4⟩ := hs
    simp only [Ast.len] at hl h2 ⊢
    by_cases c1 : f < i + 2
    · have : f = i ∨ f = i + 1 := by omega
      rcases this with rfl | rfl
      · rw [k1] at h3; cases h3
      · rw [k2] at h3; exact absurd h3 (by decide)
    by_cases c2 : f < i + 2 + a.len
    · have := iha (i + 2) k3 (by omega) f (by omega) c2 h3; omega
    · have : f = i + 2 + a.len := by omega
      subst this
      rw [k4] at h3; cases h3
  | ite a b c iha ihb ihc =>
    intro i hs hl f h1 h2 h3
    obtain ⟨k1, k2, k3, k4, k5, k6⟩ := hs
    simp only [Ast.len] at hl h2 ⊢
    by_cases c1 : f < i + 2
    · have : f = i ∨ f = i + 1 := by omega
      rcases this with rfl | rfl
      · rw [k1] at h3; cases h3
      · rw [k2] at h3; exact absurd h3 (by decide)
    by_cases c2 : f < i + 2 + a.len
    · have := iha (i + 2) k3 (by omega) f (by omega) c2 h3; omega
    by_cases c3 : f < i + 2 + a.len + b.len
    · have := ihb (i + 2 + a.len) k4 (by omega) f (by omega) c3 h3; omega
    by_cases c4 : f < i + 2 + a.len + b.len + c.len
    · have := ihc (i + 2 + a.len + b.len) k5 (by omega) f (by omega) c4 h3; omega
    · have : f = i + 2 + a.len + b.len + c.len := by omega
      subst this
      rw [k6] at h3; cases h3
  | dly b ihb =>
    intro i hs hl f h1 h2 h3
    obtain ⟨k1, k2, k3, k4, k5⟩ := hs
    simp only [Ast.len] at hl h2 ⊢
    by_cases c1 : f < i + 2
    · have : f = i ∨ f = i + 1 := by omega
      rcases this with rfl | rfl
      · rw [k1] at h3; cases h3
      · exact absurd h3 (leaf_ne hF (by unfold leafT; rw [k2]; rfl) (by decide) (by decide) (by decide))
    by_cases c2 : f = i + 2
    · subst c2
      have := behind_sp hF b (i + 2 + 1) k4 (by omega)
      omega
    by_cases c3 : f < i + 3 + b.len
    · have := ihb (i + 3) k4 (by omega) f (by omega) c3 h3; omega
    · have : f = i + 3 + b.len := by omega
      subst this
      rw [k5] at h3; cases h3
  | bin a b iha ihb =>
    intro i hs hl f h1 h2 h3
    obtain ⟨k1, k2, k3, k4, k5⟩ := hs
    simp only [Ast.len] at hl h2 ⊢
    by_cases c1 : f = i
    · subst c1; rw [k1] at h3; cases h3
    by_cases c2 : f < i + 1 + a.len
    · have := iha (i + 1) k2 (by omega) f (by omega) c2 h3; omega
    by_cases c3 : f = i + 1 + a.len
    · subst c3; exact absurd h3 (op_ne k3).2.2.2
    by_cases c4 : f < i + 2 + a.len + b.len
    · have := ihb (i + 2 + a.len) k4 (by omega) f (by omega) c4 h3; omega
    · have : f = i + 2 + a.len + b.len := by omega
      subst this
      rw [k5] at h3; cases h3

omit hF in
/-- a delay ahead of a part does not reach into it, if it does not lie open. -/
theorem delayed_shift {i j k : Nat} (hij : i ≤ j) (_hjk : j ≤ k) (h : ∀ f, i ≤ f → f < j → lAt ts f = kFby → behindF ts (f + 1) ≤ k) : delayedR ts i k = delayedR ts j k := by
  rw [Bool.eq_iff_iff, delayed_iff, delayed_iff]
  constructor
  · rintro ⟨f, h1, h2, h3, h4⟩
    by_cases c : f < j
    · have := h f h1 c h3; omega
    · exact ⟨f, by omega, h2, h3, h4⟩
  · rintro ⟨f, h1, h2, h3, h4⟩; exact ⟨f, by omega, h2, h3, h4⟩

theorem nm_delayed : ∀ (t : Ast) (i : Nat) (dl : Bool), Sp ts t i → i + t.len ≤ ts.length → ∀ x ∈ nmD ts t i dl, x.2 = (dl || delayedR ts i x.1) := by
  intro t
  induction t with
  | leaf =>
    intro i dl hs hl x hx
    simp only [nmD] at hx
    split at hx
    · simp only [List.mem_singleton] at hx
      subst hx
      have : delayedR ts i i = false := by unfold delayedR; simp
      rw [this, Bool.or_false]
    · simp at hx
  | neg a iha =>
    intro i dl hs hl x hx
    obtain ⟨k1, k2, k3, k4⟩ := hs
    simp only [Ast.len] at hl
    have hin := nm_in a (i + 2) dl x hx
    rw [iha (i + 2) dl k3 (by omega) x hx, delayed_shift (i := i) (j := i + 2) (by omega) hin.1]
    intro f h1 h2 h3
    have : f = i ∨ f = i + 1 := by omega
    rcases this with rfl | rfl
    · rw [k1] at h3; cases h3
    · rw [k2] at h3; exact absurd h3 (by decide)
  | ite a b c iha ihb ihc =>
    intro i dl hs hl x hx
    obtain ⟨k1, k2, k3, k4, k5, k6⟩ := hs
    simp only [Ast.len] at hl
    simp only [nmD, List.mem_append] at hx
    have hfirst : ∀ f, i ≤ f → f < i + 2 → lAt ts f = kFby → False := by
      intro f h1 h2 h3
      have : f = i ∨ f = i + 1 := by omega
      rcases this with rfl | rfl
      · rw [k1] at h3; cases h3
      · rw [k2] at h3; exact absurd h3 (by decide)
    rcases hx with hx | hx | hx
    · have hin := nm_in _ _ _ x hx
      rw [iha (i + 2) dl k3 (by omega) x hx, delayed_shift (i := i) (j := i + 2) (by omega) hin.1]
      intro f h1 h2 h3
      exact (hfirst f h1 h2 h3).elim
    · have hin := nm_in _ _ _ x hx
      rw [ihb (i + 2 + a.len) dl k4 (by omega) x hx, delayed_shift (i := i) (j := i + 2 + a.len) (by omega) hin.1]
      intro f h1 h2 h3
      by_cases c1 : f < i + 2
      · exact (hfirst f h1 c1 h3).elim
      · have := fby_in hF a (i + 2) k3 (by omega) f (by omega) h2 h3; omega
    · have hin := nm_in _ _ _ x hx
      rw [ihc (i + 2 + a.len + b.len) dl k5 (by omega) x hx, delayed_shift (i := i) (j := i + 2 + a.len + b.len) (by omega) hin.1]
      intro f h1 h2 h3
      by_cases c1 : f < i + 2
      · exact (hfirst f h1 c1 h3).elim
      by_cases c2 : f < i + 2 + a.len
      · have := fby_in hF a (i + 2) k3 (by omega) f (by omega) c2 h3; omega
      · have := fby_in hF b (i + 2 + a.len) k4 (by omega) f (by omega) h2 h3; omega
  | dly b ihb =>
    intro i dl hs hl x hx
    obtain ⟨k1, k2, k3, k4, k5⟩ := hs
    simp only [Ast.len] at hl
    have hin := nm_in b (i + 3) true x hx
    rw [nm_true b (i + 3) x hx]
    have : delayedR ts i x.1 = true := by
      rw [delayed_iff]
      refine ⟨i + 2, by omega, by omega, k3, ?_⟩
      rw [behind_sp hF b (i + 2 + 1) k4 (by omega)]; omega
    rw [this, Bool.or_true]
  | bin a b iha ihb =>
    intro i dl hs hl x hx
    obtain ⟨k1, k2, k3, k4, k5⟩ := hs
    simp only [Ast.len] at hl
    simp only [nmD, List.mem_append] at hx
    have hfirst : ∀ f, i ≤ f → f < i + 1 → lAt ts f = kFby → False := by
      intro f h1 h2 h3
      have : f = i := by omega
      subst this
      rw [k1] at h3; cases h3
    rcases hx with hx | hx
    · have hin := nm_in _ _ _ x hx
      rw [iha (i + 1) dl k2 (by omega) x hx, delayed_shift (i := i) (j := i + 1) (by omega) hin.1]
      intro f h1 h2 h3
      exact (hfirst f h1 h2 h3).elim
    · have hin := nm_in _ _ _ x hx
      rw [ihb (i + 2 + a.len) dl k4 (by omega) x hx, delayed_shift (i := i) (j := i + 2 + a.len) (by omega) hin.1]
      intro f h1 h2 h3
      by_cases c1 : f < i + 1
      · exact (hfirst f h1 c1 h3).elim
      by_cases c2 : f < i + 1 + a.len
      · have := fby_in hF a (i + 1) k2 (by omega) f (by omega) c2 h3; omega
      · have : f = i + 1 + a.len := by omega
        subst this
        exact absurd h3 (op_ne k3).2.2.2

theorem hangs_nm (x : Dl) (hs : Sp ts x.t (x.i + 5)) (hl : x.i + 5 + x.t.len ≤ ts.length) (name : List UInt8) : hangsR ts x name = (nmD ts x.t (x.i + 5) false).any fun y => lAt ts y.1 == name && !y.2 := by
  unfold hangsR
  rw [← List.any_filter, nm_filter hF x.t (x.i + 5) false hs, List.any_map]
  apply any_congr_mem
  intro y hy
  have := nm_delayed hF x.t (x.i + 5) false hs hl y hy
  simp only [Function.comp]
  rw [this, Bool.false_or]

end

/-- marks. -/
theorem markSeg_eq (ds : List Dc) (i : Nat) : ∀ (l : List Nd) (M : Mx) (a b : Nat), markSeg ds i l M a b = (M a b || (a == i && l.any fun n => n.kind == 2 && (!n.delayed && (kindAt ds n.decl != 0 && n.decl.toNat == b)))) := by
  intro l
  induction l with
  | nil => intro M a b; simp [markSeg]
  | cons n l ih =>
    intro M a b
    simp only [markSeg]
    rw [ih, List.any_cons]
    by_cases h : n.kind = 2 ∧ n.delayed = false ∧ kindAt ds n.decl ≠ 0
    · have hq : (kindAt ds n.decl != 0) = true := by rw [bne_iff_ne]; exact h.2.2
      rw [if_pos h, h.1, h.2.1, hq]
      unfold upd
      by_cases h2 : a = i ∧ b = n.decl.toNat
      · rw [if_pos h2, h2.1, h2.2]; simp
      · rw [if_neg h2]
        by_cases ha : a = i
        · have hb : (n.decl.toNat == b) = false := beq_eq_false_iff_ne.2 (fun e => h2 ⟨ha, e.symm⟩)
          rw [hb]; simp
        · have hb : (a == i) = false := beq_eq_false_iff_ne.2 ha
          rw [hb]; simp
    · rw [if_neg h]
      have : (n.kind == 2 && (!n.delayed && (kindAt ds n.decl != 0 && n.decl.toNat == b))) = false := by
        by_cases hk : n.kind = 2
        · cases hd : n.delayed with
          | true => simp
          | false =>
            have hq : kindAt ds n.decl = 0 := by
              by_cases hz : kindAt ds n.decl = 0
              · exact hz
              · exact absurd ⟨hk, hd, hz⟩ h
            simp [hq]
        · simp [hk]
      rw [this, Bool.false_or]

theorem markAll_eq (ds : List Dc) (ns : List Nd) : ∀ (l : List Dc) (i : Nat) (M : Mx) (a b : Nat), markAll ds ns i l M a b = (M a b || (decide (i ≤ a) && ((l[a - i]?).any fun d => (seg ns d.root d.fin).any fun n => n.kind == 2 && (!n.delayed && (kindAt ds n.decl != 0 && n.decl.toNat == b))))) := by
  intro l
  induction l with
  | nil => intro i M a b; simp [markAll]
  | cons d l ih =>
    intro i M a b
    simp only [markAll]
    rw [ih, markSeg_eq]
    by_cases h : a = i
    · subst h
      have h1 : decide (a + 1 ≤ a) = false := by rw [decide_eq_false_iff_not]; omega
      have h2 : decide (a ≤ a) = true := by rw [decide_eq_true_iff]; omega
      rw [h1, h2, Nat.sub_self, List.getElem?_cons_zero]
      simp
    · by_cases h2 : i ≤ a
      · have e : a - i = (a - (i + 1)) + 1 := by omega
        have g1 : (a == i) = false := beq_eq_false_iff_ne.2 h
        have g2 : decide (i ≤ a) = true := by rw [decide_eq_true_iff]; omega
        have g3 : decide (i + 1 ≤ a) = true := by rw [decide_eq_true_iff]; omega
        rw [e, List.getElem?_cons_succ, g1, g2, g3]
        simp
      · have g1 : (a == i) = false := beq_eq_false_iff_ne.2 h
        have g2 : decide (i ≤ a) = false := by rw [decide_eq_false_iff_not]; omega
        have g3 : decide (i + 1 ≤ a) = false := by rw [decide_eq_false_iff_not]; omega
        rw [g1, g2, g3]
        simp

/-- a relation whose other rows are empty is followed as the smaller one is. -/
theorem warsh_part {M rel : Mx} {isE : Nat → Bool} {cnt : Nat → Nat} (hc : ∀ k, cnt (k + 1) = if isE k then cnt k + 1 else cnt k) (h0 : cnt 0 = 0)
    (h1 : ∀ a b, isE a = false → M a b = false) (h2 : ∀ a b, isE a = true → isE b = true → M a b = rel (cnt a) (cnt b)) :
    ∀ k, (∀ a b, isE a = false → warsh M k a b = false) ∧ (∀ a b, isE a = true → isE b = true → warsh M k a b = warsh rel (cnt k) (cnt a) (cnt b)) := by
  intro k
  induction k with
  | zero => rw [h0]; exact ⟨h1, h2⟩
  | succ k ih =>
    obtain ⟨i1, i2⟩ := ih
    refine ⟨fun a b ha => ?_, fun a b ha hb => ?_⟩
    · simp only [warsh, phase]; rw [i1 a b ha, i1 a k ha]; rfl
    · simp only [warsh, phase]
      cases hk : isE k with
      | false => rw [hc, hk, i1 k b hk, i2 a b ha hb]; simp
      | true =>
        rw [hc, hk, i2 a b ha hb, i2 a k ha hk, i2 k b hk hb]
        rfl

end Go.Proofs.Ytecegaflhdgfaaa

/- Plain mathematics: cycles and loops: both readers find the same. -/
namespace Go.Proofs.Ytecegaflhdgfaaa

def placeD (ts : List Tk) (x : Dl) : Nat := valOf (lAt ts (x.i + 3))

/-- a declaration as the program has it, and as the tokens have it. -/
structure DX (ts : List Tk) (f : Nd → Nd) (ns : List Nd) (d : Dc) (x : Dl) : Prop where
  kind : d.kind = x.kind
  pos : d.pos = posD ts x
  name : d.name = nameD ts x
  place : x.kind ≠ 0 → d.place = placeD ts x
  none : x.kind = 0 → seg ns d.root d.fin = []
  some : x.kind ≠ 0 → ∃ o, seg ns d.root d.fin = (flat ts x.t (x.i + 5) 0 o).map f

theorem dx_all (ts : List Tk) (f : Nd → Nd) : ∀ (L : List Dl) (off a b : Nat) (N1 : List Nd), N1.length = off → All2 (DX ts f (N1 ++ (nodesD ts L off).map f)) (declsD ts L off a b) L := by
  intro L
  induction L with
  | nil => intro off a b N1 _; trivial
  | cons x r ih =>
    intro off a b N1 hN
    simp only [declsD, nodesD]
    by_cases hk : x.kind = 0
    · rw [if_pos hk, if_pos hk]
      exact ⟨⟨hk.symm, rfl, rfl, fun h => absurd hk h, fun _ => by simp [seg, dcIn], fun h => absurd hk h⟩, ih off (a + 1) b N1 hN⟩
    · rw [if_neg hk, if_neg hk]
      refine ⟨⟨rfl, rfl, rfl, fun _ => rfl, fun h => absurd h hk, fun _ => ⟨off, ?_⟩⟩, ?_⟩
      · rw [List.map_append]
        exact seg_mid hN.symm (by simp [dcEq, flat_len, hN])
      · have := ih (off + x.t.size) a (b + 1) (N1 ++ (flat ts x.t (x.i + 5) 0 off).map f) (by simp [flat_len, hN])
        rw [List.append_assoc, ← List.map_append] at this
        exact this

theorem All2.getOpt {α β : Type} {R : α → β → Prop} : ∀ {l : List α} {m : List β} (k : Nat), All2 R l m → (l[k]? = none ∧ m[k]? = none) ∨ ∃ a b, l[k]? = some a ∧ m[k]? = some b ∧ R a b := by
  intro l
  induction l with
  | nil => intro m k h; cases m with
    | nil => exact .inl ⟨rfl, rfl⟩
    | cons b m => exact h.elim
  | cons a l ih => intro m k h; cases m with
    | nil => exact h.elim
    | cons b m =>
      cases k with
      | zero => exact .inr ⟨a, b, rfl, rfl, h.1⟩
      | succ k => exact ih k h.2

theorem All2.any {α β : Type} {R : α → β → Prop} {p : α → Bool} {q : β → Bool} (h : ∀ a b, R a b → p a = q b) : ∀ {l : List α} {m : List β}, All2 R l m → l.any p = m.any q := by
  intro l
  induction l with
  | nil => intro m hm; cases m with
    | nil => rfl
    | cons b m => exact hm.elim
  | cons a l ih => intro m hm; cases m with
    | nil => exact hm.elim
    | cons b m => rw [List.any_cons, List.any_cons, h a b hm.1, ih hm.2]

/-- the count of equations ahead. -/
def isE (L : List Dl) (k : Nat) : Bool := (L[k]?).any fun x => x.kind != 0
def cntE (L : List Dl) (k : Nat) : Nat := (eqL (L.take k)).length

theorem cntE_succ (L : List Dl) (k : Nat) : cntE L (k + 1) = if isE L k then cntE L k + 1 else cntE L k := by
  unfold cntE isE eqL
  rw [List.take_add_one, List.filter_append, List.length_append]
  cases h : L[k]? with
  | none => simp
  | some x =>
    by_cases hk : x.kind = 0
    · simp [hk]
    · simp [hk]
theorem cntE_get : ∀ (L : List Dl) (k : Nat), isE L k = true → (eqL L)[cntE L k]? = L[k]? := by
  intro L
  induction L with
  | nil => intro k h; simp [isE] at h
  | cons x r ih =>
    intro k h
    cases k with
    | zero =>
      have hk : x.kind ≠ 0 := by simpa [isE] using h
      simp [cntE, eqL, hk]
    | succ k =>
      have h' : isE r k = true := by simpa [isE] using h
      have := ih k h'
      rw [List.getElem?_cons_succ, ← this]
      by_cases hk : x.kind = 0
      · simp [cntE, eqL, hk]
      · have e : cntE (x :: r) (k + 1) = cntE r k + 1 := by simp [cntE, eqL, hk]
        have e2 : eqL (x :: r) = x :: eqL r := by simp [eqL, hk]
        rw [e, e2, List.getElem?_cons_succ]
theorem cntE_all (L : List Dl) : cntE L L.length = (eqL L).length := by unfold cntE; rw [List.take_length]

def relR (ts : List Tk) (L : List Dl) : Mx := fun i j =>
  match (eqL L)[i]?, (eqL L)[j]? with
  | some x, some z => hangsR ts x (nameD ts z).data.toList
  | _, _ => false
def firstC (ts : List Tk) (W : Mx) : Nat → List Dl → Option Nat
  | _, [] => none
  | i, x :: r => if W i i then some (posD ts x) else firstC ts W (i + 1) r
def cycR (ts : List Tk) (L : List Dl) : Option Nat := firstC ts (warsh (relR ts L) (eqL L).length) 0 (eqL L)

theorem find_is {ds : List Dc} (own : ∀ j (hj : j < ds.length), findF ds (ds[j]'hj).name = (j : Int)) {b : Nat} {d : Dc} (hd : ds[b]? = some d) (t : ByteArray) (h0 : 0 ≤ findF ds t) : ((findF ds t).toNat == b) = (t.data.toList == d.name.data.toList) := by
  rw [List.getElem?_eq_some_iff] at hd
  obtain ⟨hb, rfl⟩ := hd
  rw [Bool.eq_iff_iff, beq_iff_eq, beq_iff_eq]
  constructor
  · intro h
    unfold findF at h h0
    split at h
    · rename_i i hi
      rw [List.findIdx?_eq_some_iff_getElem] at hi
      obtain ⟨g1, g2, _⟩ := hi
      rw [Int.toNat_natCast] at h
      subst h
      rw [beq_iff_eq] at g2
      exact g2.symm
    · rename_i hi; rw [hi] at h0; simp at h0
  · intro h
    rw [findF_name ds h, own b hb]; rfl

section
variable {ts : List Tk} (hF : ∀ i, TkF (tkAt ts i)) {L : List Dl} {ds : List Dc} (hN : NamesOk ts L ds)
  (hsp : ∀ x ∈ L, x.kind ≠ 0 → Sp ts x.t (x.i + 5) ∧ x.i + 5 + x.t.len ≤ ts.length)
  (hd : ∀ x ∈ L, x.kind ≠ 0 → ∀ y ∈ nmD ts x.t (x.i + 5) false, 0 ≤ findF ds (tkAt ts y.1).text)
include hF hN hsp hd

omit hN hsp hd in
/-- over the name nodes of an expression. -/
theorem any_flat (q : Nd → Bool) (t : Ast) (i o : Nat) (hs : Sp ts t i) : ((flat ts t i 0 o).map (bindF ds)).any (fun n => n.kind == 2 && q n) = (nmD ts t i false).any fun y => q (bindF ds (nmNd ts y)) := by
  rw [← List.any_filter, bind_filter, flat_names hF t i 0 o hs, List.any_map, List.any_map]
  rfl

omit hF hN hsp hd in
theorem bind_nm (y : Nat × Bool) : bindF ds (nmNd ts y) = { nmNd ts y with decl := findF ds (tkAt ts y.1).text } := by
  unfold bindF; rw [if_pos (by rfl)]; rfl

omit hF hN hsp hd in
theorem mark_none {ns : List Nd} (hdx : All2 (DX ts (bindF ds) ns) ds L) : ∀ a b, isE L a = false → markAll ds ns 0 ds noM a b = false := by
  intro a b h
  rw [markAll_eq]
  rcases hdx.getOpt a with ⟨h1, _⟩ | ⟨d, x, h1, h2, h3⟩
  · rw [Nat.sub_zero, h1]; simp [noM]
  · unfold isE at h
    rw [h2] at h
    have hk : x.kind = 0 := by simpa using h
    rw [Nat.sub_zero, h1]
    simp [noM, h3.none hk]

theorem mark_rel {ns : List Nd} (hdx : All2 (DX ts (bindF ds) ns) ds L) : ∀ a b, isE L a = true → isE L b = true → markAll ds ns 0 ds noM a b = relR ts L (cntE L a) (cntE L b) := by
  intro a b ha hb
  rw [markAll_eq]
  rcases hdx.getOpt a with ⟨_, h2⟩ | ⟨d, x, h1, h2, h3⟩
  · unfold isE at ha; rw [h2] at ha; simp at ha
  rcases hdx.getOpt b with ⟨_, g2⟩ | ⟨e, z, g1, g2, g3⟩
  · unfold isE at hb; rw [g2] at hb; simp at hb
  have hk : x.kind ≠ 0 := by unfold isE at ha; rw [h2] at ha; simpa using ha
  have hx : x ∈ L := List.mem_of_getElem? h2
  obtain ⟨o, ho⟩ := h3.some hk
  have hrel : relR ts L (cntE L a) (cntE L b) = hangsR ts x (nameD ts z).data.toList := by
    unfold relR; rw [cntE_get L a ha, cntE_get L b hb, h2, g2]
  rw [hrel, hangs_nm hF x (hsp x hx hk).1 (hsp x hx hk).2, Nat.sub_zero, h1]
  have hz : (noM a b) = false := rfl
  have hdec : decide (0 ≤ a) = true := by simp
  rw [hz, hdec, Bool.false_or, Bool.true_and, Option.any_some, ho, any_flat hF (fun n => !n.delayed && (kindAt ds n.decl != 0 && n.decl.toNat == b)) x.t (x.i + 5) o (hsp x hx hk).1]
  apply any_congr_mem
  intro y hy
  rw [bind_nm]
  show (!y.2 && (kindAt ds (findF ds (tkAt ts y.1).text) != 0 && (findF ds (tkAt ts y.1).text).toNat == b)) = _
  have hkb : z.kind ≠ 0 := by unfold isE at hb; rw [g2] at hb; simpa using hb
  have hkk : (kindAt ds (findF ds (tkAt ts y.1).text) != 0 && (findF ds (tkAt ts y.1).text).toNat == b) = ((findF ds (tkAt ts y.1).text).toNat == b) := by
    by_cases hq : (findF ds (tkAt ts y.1).text).toNat = b
    · have : kindAt ds (findF ds (tkAt ts y.1).text) = z.kind := by
        unfold kindAt
        rw [hq, List.getD_eq_getElem?_getD, g1, ← g3.kind]; rfl
      rw [this, bne_iff_ne.2 hkb, Bool.true_and]
    · have : ((findF ds (tkAt ts y.1).text).toNat == b) = false := beq_eq_false_iff_ne.2 hq
      rw [this, Bool.and_false]
  rw [hkk, find_is hN.own g1 _ (hd x hx hk y hy), g3.name, Bool.and_comm]
  rfl

theorem cycle_eq {ns : List Nd} (hdx : All2 (DX ts (bindF ds) ns) ds L) : cycleF ds ns = cycR ts L := by
  have hM1 := mark_none hdx (ts := ts)
  have hM2 := mark_rel hF hN hsp hd hdx
  have hw := warsh_part (M := markAll ds ns 0 ds noM) (rel := relR ts L) (isE := isE L) (cnt := cntE L) (cntE_succ L) (by simp [cntE, eqL]) hM1 hM2 ds.length
  have hlen : L.length = ds.length := hdx.len
  unfold cycleF cycR
  rw [← cntE_all L, hlen]
  generalize warsh (markAll ds ns 0 ds noM) ds.length = W at hw ⊢
  generalize warsh (relR ts L) (cntE L ds.length) = W' at hw ⊢
  obtain ⟨hw1, hw2⟩ := hw
  have key : ∀ (L2 L1 : List Dl) (l2 : List Dc), L = L1 ++ L2 → All2 (DX ts (bindF ds) ns) l2 L2 → firstSelf W L1.length l2 = firstC ts W' (cntE L L1.length) (eqL L2) := by
    intro L2
    induction L2 with
    | nil => intro L1 l2 _ h; cases l2 with
      | nil => rfl
      | cons d l2 => exact h.elim
    | cons x r ih => intro L1 l2 hs h; cases l2 with
      | nil => exact h.elim
      | cons d l2 =>
        obtain ⟨h1, h2⟩ := h
        have hget : L[L1.length]? = some x := by rw [hs]; simp
        have hsucc := cntE_succ L L1.length
        have hih := ih (L1 ++ [x]) l2 (by rw [hs]; simp) h2
        rw [List.length_append, List.length_singleton] at hih
        simp only [firstSelf]
        by_cases hk : x.kind = 0
        · have he : isE L L1.length = false := by unfold isE; rw [hget]; simp [hk]
          have e2 : eqL (x :: r) = eqL r := by simp [eqL, hk]
          rw [hw1 _ _ he, if_neg (by simp), hih, e2, hsucc, he]
          simp
        · have he : isE L L1.length = true := by unfold isE; rw [hget]; simp [hk]
          have e2 : eqL (x :: r) = x :: eqL r := by simp [eqL, hk]
          rw [e2]
          simp only [firstC]
          rw [hw2 _ _ he he, hih, hsucc, he, h1.pos]
          simp
  have := key L [] ds rfl hdx
  simpa [cntE, eqL] using this

end

end Go.Proofs.Ytecegaflhdgfaaa
