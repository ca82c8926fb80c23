import Derived.Test.YtmndgoapkmhglaaDoorM13AstK
/- Plain mathematics: cycles and loops: both readers find the same. -/
namespace Go.Proofs.YtmndgoapkmhglaaDoor

def placeD (ts : List Tk) (x : Dl) : Nat := valOf (lAt ts (x.i + 3))

/-- a declaration as the program has it, and as the tokens have it. -/
structure DX (ts : List Tk) (f : Nd → Nd) (ns : List Nd) (d : Dc) (x : Dl) : Prop where
  kind : d.kind = x.kind
  pos : d.pos = posD ts x
  name : d.name = nameD ts x
  place : x.kind ≠ 0 → d.place = placeD ts x
  none : x.kind = 0 → seg ns d.root d.fin = []
  some : x.kind ≠ 0 → ∃ o, seg ns d.root d.fin = (flat ts x.t (x.i + 5) 0 o).map f

theorem dx_all (ts : List Tk) (f : Nd → Nd) : ∀ (L : List Dl) (off a b : Nat) (N1 : List Nd), N1.length = off → All2 (DX ts f (N1 ++ (nodesD ts L off).map f)) (declsD ts L off a b) L := by
  intro L
  induction L with
  | nil => intro off a b N1 _; trivial
  | cons x r ih =>
    intro off a b N1 hN
    simp only [declsD, nodesD]
    by_cases hk : x.kind = 0
    · rw [if_pos hk, if_pos hk]
      exact ⟨⟨hk.symm, rfl, rfl, fun h => absurd hk h, fun _ => by simp [seg, dcIn], fun h => absurd hk h⟩, ih off (a + 1) b N1 hN⟩
    · rw [if_neg hk, if_neg hk]
      refine ⟨⟨rfl, rfl, rfl, fun _ => rfl, fun h => absurd h hk, fun _ => ⟨off, ?_⟩⟩, ?_⟩
      · rw [List.map_append]
        exact seg_mid hN.symm (by simp [dcEq, flat_len, hN])
      · have := ih (off + x.t.size) a (b + 1) (N1 ++ (flat ts x.t (x.i + 5) 0 off).map f) (by simp [flat_len, hN])
        rw [List.append_assoc, ← List.map_append] at this
        exact this

theorem All2.getOpt {α β : Type} {R : α → β → Prop} : ∀ {l : List α} {m : List β} (k : Nat), All2 R l m → (l[k]? = none ∧ m[k]? = none) ∨ ∃ a b, l[k]? = some a ∧ m[k]? = some b ∧ R a b := by
  intro l
  induction l with
  | nil => intro m k h; cases m with
    | nil => exact .inl ⟨rfl, rfl⟩
    | cons b m => exact h.elim
  | cons a l ih => intro m k h; cases m with
    | nil => exact h.elim
    | cons b m =>
      cases k with
      | zero => exact .inr ⟨a, b, rfl, rfl, h.1⟩
      | succ k => exact ih k h.2

theorem All2.any {α β : Type} {R : α → β → Prop} {p : α → Bool} {q : β → Bool} (h : ∀ a b, R a b → p a = q b) : ∀ {l : List α} {m : List β}, All2 R l m → l.any p = m.any q := by
  intro l
  induction l with
  | nil => intro m hm; cases m with
    | nil => rfl
    | cons b m => exact hm.elim
  | cons a l ih => intro m hm; cases m with
    | nil => exact hm.elim
    | cons b m => rw [List.any_cons, List.any_cons, h a b hm.1, ih hm.2]

/-- the count of equations ahead. -/
def isE (L : List Dl) (k : Nat) : Bool := (L[k]?).any fun x => x.kind != 0
def cntE (L : List Dl) (k : Nat) : Nat := (eqL (L.take k)).length

theorem cntE_succ (L : List Dl) (k : Nat) : cntE L (k + 1) = if isE L k then cntE L k + 1 else cntE L k := by
  unfold cntE isE eqL
  rw [List.take_add_one, List.filter_append, List.length_append]
  cases h : L[k]? with
  | none => simp
  | some x =>
    by_cases hk : x.kind = 0
    · simp [hk]
    · simp [hk]
theorem cntE_get : ∀ (L : List Dl) (k : Nat), isE L k = true → (eqL L)[cntE L k]? = L[k]? := by
  intro L
  induction L with
  | nil => intro k h; simp [isE] at h
  | cons x r ih =>
    intro k h
    cases k with
    | zero =>
      have hk : x.kind ≠ 0 := by simpa [isE] using h
      simp [cntE, eqL, hk]
    | succ k =>
      have h' : isE r k = true := by simpa [isE] using h
      have := ih k h'
      rw [List.getElem?_cons_succ, ← this]
      by_cases hk : x.kind = 0
      · simp [cntE, eqL, hk]
      · have e : cntE (x :: r) (k + 1) = cntE r k + 1 := by simp [cntE, eqL, hk]
        have e2 : eqL (x :: r) = x :: eqL r := by simp [eqL, hk]
        rw [e, e2, List.getElem?_cons_succ]
theorem cntE_all (L : List Dl) : cntE L L.length = (eqL L).length := by unfold cntE; rw [List.take_length]

def relR (ts : List Tk) (L : List Dl) : Mx := fun i j =>
  match (eqL L)[i]?, (eqL L)[j]? with
  | some x, some z => hangsR ts x (nameD ts z).data.toList
  | _, _ => false
def firstC (ts : List Tk) (W : Mx) : Nat → List Dl → Option Nat
  | _, [] => none
  | i, x :: r => if W i i then some (posD ts x) else firstC ts W (i + 1) r
def cycR (ts : List Tk) (L : List Dl) : Option Nat := firstC ts (warsh (relR ts L) (eqL L).length) 0 (eqL L)

theorem find_is {ds : List Dc} (own : ∀ j (hj : j < ds.length), findF ds (ds[j]'hj).name = (j : Int)) {b : Nat} {d : Dc} (hd : ds[b]? = some d) (t : ByteArray) (h0 : 0 ≤ findF ds t) : ((findF ds t).toNat == b) = (t.data.toList == d.name.data.toList) := by
  rw [List.getElem?_eq_some_iff] at hd
  obtain ⟨hb, rfl⟩ := hd
  rw [Bool.eq_iff_iff, beq_iff_eq, beq_iff_eq]
  constructor
  · intro h
    unfold findF at h h0
    split at h
    · rename_i i hi
      rw [List.findIdx?_eq_some_iff_getElem] at hi
      obtain ⟨g1, g2, _⟩ := hi
      rw [Int.toNat_natCast] at h
      subst h
      rw [beq_iff_eq] at g2
      exact g2.symm
    · rename_i hi; rw [hi] at h0; simp at h0
  · intro h
    rw [findF_name ds h, own b hb]; rfl

section
variable {ts : List Tk} (hF : ∀ i, TkF (tkAt ts i)) {L : List Dl} {ds : List Dc} (hN : NamesOk ts L ds)
  (hsp : ∀ x ∈ L, x.kind ≠ 0 → Sp ts x.t (x.i + 5) ∧ x.i + 5 + x.t.len ≤ ts.length)
  (hd : ∀ x ∈ L, x.kind ≠ 0 → ∀ y ∈ nmD ts x.t (x.i + 5) false, 0 ≤ findF ds (tkAt ts y.1).text)
include hF hN hsp hd

omit hN hsp hd in
/-- over the name nodes of an expression. -/
theorem any_flat (q : Nd → Bool) (t : Ast) (i o : Nat) (hs : Sp ts t i) : ((flat ts t i 0 o).map (bindF ds)).any (fun n => n.kind == 2 && q n) = (nmD ts t i false).any fun y => q (bindF ds (nmNd ts y)) := by
  rw [← List.any_filter, bind_filter, flat_names hF t i 0 o hs, List.any_map, List.any_map]
  rfl

omit hF hN hsp hd in
theorem bind_nm (y : Nat × Bool) : bindF ds (nmNd ts y) = { nmNd ts y with decl := findF ds (tkAt ts y.1).text } := by
  unfold bindF; rw [if_pos (by rfl)]; rfl

omit hF hN hsp hd in
theorem mark_none {ns : List Nd} (hdx : All2 (DX ts (bindF ds) ns) ds L) : ∀ a b, isE L a = false → markAll ds ns 0 ds noM a b = false := by
  intro a b h
  rw [markAll_eq]
  rcases hdx.getOpt a with ⟨h1, _⟩ | ⟨d, x, h1, h2, h3⟩
  · rw [Nat.sub_zero, h1]; simp [noM]
  · unfold isE at h
    rw [h2] at h
    have hk : x.kind = 0 := by simpa using h
    rw [Nat.sub_zero, h1]
    simp [noM, h3.none hk]

theorem mark_rel {ns : List Nd} (hdx : All2 (DX ts (bindF ds) ns) ds L) : ∀ a b, isE L a = true → isE L b = true → markAll ds ns 0 ds noM a b = relR ts L (cntE L a) (cntE L b) := by
  intro a b ha hb
  rw [markAll_eq]
  rcases hdx.getOpt a with ⟨_, h2⟩ | ⟨d, x, h1, h2, h3⟩
  · unfold isE at ha; rw [h2] at ha; simp at ha
  rcases hdx.getOpt b with ⟨_, g2⟩ | ⟨e, z, g1, g2, g3⟩
  · unfold isE at hb; rw [g2] at hb; simp at hb
  have hk : x.kind ≠ 0 := by unfold isE at ha; rw [h2] at ha; simpa using ha
  have hx : x ∈ L := List.mem_of_getElem? h2
  obtain ⟨o, ho⟩ := h3.some hk
  have hrel : relR ts L (cntE L a) (cntE L b) = hangsR ts x (nameD ts z).data.toList := by
    unfold relR; rw [cntE_get L a ha, cntE_get L b hb, h2, g2]
  rw [hrel, hangs_nm hF x (hsp x hx hk).1 (hsp x hx hk).2, Nat.sub_zero, h1]
  have hz : (noM a b) = false := rfl
  have hdec : decide (0 ≤ a) = true := by simp
  rw [hz, hdec, Bool.false_or, Bool.true_and, Option.any_some, ho, any_flat hF (fun n => !n.delayed && (kindAt ds n.decl != 0 && n.decl.toNat == b)) x.t (x.i + 5) o (hsp x hx hk).1]
  apply any_congr_mem
  intro y hy
  rw [bind_nm]
  show (!y.2 && (kindAt ds (findF ds (tkAt ts y.1).text) != 0 && (findF ds (tkAt ts y.1).text).toNat == b)) = _
  have hkb : z.kind ≠ 0 := by unfold isE at hb; rw [g2] at hb; simpa using hb
  have hkk : (kindAt ds (findF ds (tkAt ts y.1).text) != 0 && (findF ds (tkAt ts y.1).text).toNat == b) = ((findF ds (tkAt ts y.1).text).toNat == b) := by
    by_cases hq : (findF ds (tkAt ts y.1).text).toNat = b
    · have : kindAt ds (findF ds (tkAt ts y.1).text) = z.kind := by
        unfold kindAt
        rw [hq, List.getD_eq_getElem?_getD, g1, ← g3.kind]; rfl
      rw [this, bne_iff_ne.2 hkb, Bool.true_and]
    · have : ((findF ds (tkAt ts y.1).text).toNat == b) = false := beq_eq_false_iff_ne.2 hq
      rw [this, Bool.and_false]
  rw [hkk, find_is hN.own g1 _ (hd x hx hk y hy), g3.name, Bool.and_comm]
  rfl

theorem cycle_eq {ns : List Nd} (hdx : All2 (DX ts (bindF ds) ns) ds L) : cycleF ds ns = cycR ts L := by
  have hM1 := mark_none hdx (ts := ts)
  have hM2 := mark_rel hF hN hsp hd hdx
  have hw := warsh_part (M := markAll ds ns 0 ds noM) (rel := relR ts L) (isE := isE L) (cnt := cntE L) (cntE_succ L) (by simp [cntE, eqL]) hM1 hM2 ds.length
  have hlen : L.length = ds.length := hdx.len
  unfold cycleF cycR
  rw [← cntE_all L, hlen]
  generalize warsh (markAll ds ns 0 ds noM) ds.length = W at hw ⊢
  generalize warsh (relR ts L) (cntE L ds.length) = W' at hw ⊢
  obtain ⟨hw1, hw2⟩ := hw
  have key : ∀ (L2 L1 : List Dl) (l2 : List Dc), L = L1 ++ L2 → All2 (DX ts (bindF ds) ns) l2 L2 → firstSelf W L1.length l2 = firstC ts W' (cntE L L1.length) (eqL L2) := by
    intro L2
    induction L2 with
    | nil => intro L1 l2 _ h; cases l2 with
      | nil => rfl
      | cons d l2 => exact h.elim
    | cons x r ih => intro L1 l2 hs h; cases l2 with
      | nil => exact h.elim
      | cons d l2 =>
        obtain ⟨h1, h2⟩ := h
        have hget : L[L1.length]? = some x := by rw [hs]; simp
        have hsucc := cntE_succ L L1.length
        have hih := ih (L1 ++ [x]) l2 (by rw [hs]; simp) h2
        rw [List.length_append, List.length_singleton] at hih
        simp only [firstSelf]
        by_cases hk : x.kind = 0
        · have he : isE L L1.length = false := by unfold isE; rw [hget]; simp [hk]
          have e2 : eqL (x :: r) = eqL r := by simp [eqL, hk]
          rw [hw1 _ _ he, if_neg (by simp), hih, e2, hsucc, he]
          simp
        · have he : isE L L1.length = true := by unfold isE; rw [hget]; simp [hk]
          have e2 : eqL (x :: r) = x :: eqL r := by simp [eqL, hk]
          rw [e2]
          simp only [firstC]
          rw [hw2 _ _ he he, hih, hsucc, he, h1.pos]
          simp
  have := key L [] ds rfl hdx
  simpa [cntE, eqL] using this

end

end Go.Proofs.YtmndgoapkmhglaaDoor

/- Plain mathematics: links and loops: both readers find the same. -/
namespace Go.Proofs.YtmndgoapkmhglaaDoor

def useOf (ts : List Tk) (x : Dl) (nm : List UInt8) : List Nat := (List.range' (x.i + 5) x.t.len).filter fun j => isNm ts j && lAt ts j == nm
def usesR (ts : List Tk) (L : List Dl) (nm : List UInt8) (q : Nat) : List Nat := (eqL L).flatMap fun x => if placeD ts x = q then useOf ts x nm else []
def lateR (ts : List Tk) (u : List Nat) : Bool := u.all fun k => lAt ts (k - 1) == kFby
def routeAt (ts : List Tk) (L : List Dl) (b : Nat) (x : Dl) (q : Nat) : List Rt :=
  if usesR ts L (nameD ts x).data.toList q ≠ [] ∧ q ≠ placeD ts x then [⟨b, q, lateR ts (usesR ts L (nameD ts x).data.toList q)⟩] else []
def routeTo (ts : List Tk) (L : List Dl) (b : Nat) (x : Dl) : Nat → List Rt
  | 0 => []
  | q + 1 => routeTo ts L b x q ++ routeAt ts L b x q
def routesFrom (ts : List Tk) (L : List Dl) : Nat → List Dl → List Rt
  | _, [] => []
  | b, x :: r => routeTo ts L b x 4 ++ routesFrom ts L (b + 1) r
def routesR (ts : List Tk) (L : List Dl) : List Rt := routesFrom ts L 0 (eqL L)
def waitsP (pl : List Nat) : List Rt → Mx → Mx
  | [], M => M
  | r :: l, M => waitsP pl l (if r.late = true then M else upd M r.dst (pl.getD r.src 0) true)
def firstP (ts : List Tk) (W : Mx) : List Dl → Option Nat
  | [] => none
  | x :: r => if W (placeD ts x) (placeD ts x) then some (posD ts x) else firstP ts W r
def lpR (ts : List Tk) (L : List Dl) : Option Nat := firstP ts (warsh (waitsP ((eqL L).map (placeD ts)) (routesR ts L) noM) 4) (eqL L)

theorem usesSeg_eq (decl : Nat) : ∀ (l : List Nd) (u p : Bool), usesSeg decl l u p = (u || l.any (fun n => n.kind == 2 && decide (n.decl = (decl : Int))), p || l.any (fun n => n.kind == 2 && (decide (n.decl = (decl : Int)) && !n.behind))) := by
  intro l
  induction l with
  | nil => intro u p; simp [usesSeg]
  | cons n l ih =>
    intro u p
    simp only [usesSeg]
    by_cases h : n.kind = 2 ∧ n.decl = (decl : Int)
    · rw [if_pos h, ih, List.any_cons, List.any_cons, h.1, decide_eq_true h.2]
      simp [Bool.or_assoc]
    · rw [if_neg h, ih, List.any_cons, List.any_cons]
      by_cases hk : n.kind = 2
      · have hd : decide (n.decl = (decl : Int)) = false := decide_eq_false (fun e => h ⟨hk, e⟩)
        rw [hd]; simp
      · have hk' : (n.kind == 2) = false := beq_eq_false_iff_ne.2 hk
        rw [hk']; simp

theorem usesAll_eq (ns : List Nd) (decl q : Nat) : ∀ (l : List Dc) (u p : Bool), usesAll ns decl q l u p =
    (u || l.any (fun d => (d.kind != 0 && d.place == q) && (seg ns d.root d.fin).any (fun n => n.kind == 2 && decide (n.decl = (decl : Int)))),
     p || l.any (fun d => (d.kind != 0 && d.place == q) && (seg ns d.root d.fin).any (fun n => n.kind == 2 && (decide (n.decl = (decl : Int)) && !n.behind)))) := by
  intro l
  induction l with
  | nil => intro u p; simp [usesAll]
  | cons d l ih =>
    intro u p
    simp only [usesAll]
    by_cases h : d.kind = 0 ∨ d.place ≠ q
    · have hc : (d.kind != 0 && d.place == q) = false := by
        rcases h with h | h
        · rw [h]; rfl
        · rw [beq_eq_false_iff_ne.2 h, Bool.and_false]
      rw [if_pos h, ih, List.any_cons, List.any_cons, hc]; simp
    · have h1 : d.kind ≠ 0 := fun e => h (.inl e)
      have h2 : d.place = q := Classical.byContradiction fun e => h (.inr e)
      have hc : (d.kind != 0 && d.place == q) = true := by rw [h2]; simp [h1]
      rw [if_neg h, ih, usesSeg_eq, List.any_cons, List.any_cons, hc]
      simp [Bool.or_assoc]

theorem find_int {x : Int} {a : Nat} (h0 : 0 ≤ x) : decide (x = (a : Int)) = (x.toNat == a) := by
  rw [Bool.eq_iff_iff, decide_eq_true_iff, beq_iff_eq]; omega

section
variable {ts : List Tk} (hF : ∀ i, TkF (tkAt ts i)) {L : List Dl} {ds : List Dc} (hN : NamesOk ts L ds)
  (hsp : ∀ x ∈ L, x.kind ≠ 0 → Sp ts x.t (x.i + 5) ∧ x.i + 5 + x.t.len ≤ ts.length)
  (hd : ∀ x ∈ L, x.kind ≠ 0 → ∀ y ∈ nmD ts x.t (x.i + 5) false, 0 ≤ findF ds (tkAt ts y.1).text)
include hF hN hsp hd

omit hN hsp hd in
theorem useOf_any (x : Dl) (hs : Sp ts x.t (x.i + 5)) (nm : List UInt8) (p : Nat → Bool) : (useOf ts x nm).any p = (nmD ts x.t (x.i + 5) false).any fun y => lAt ts y.1 == nm && p y.1 := by
  unfold useOf
  have e : ((List.range' (x.i + 5) x.t.len).filter fun j => isNm ts j && lAt ts j == nm) = ((List.range' (x.i + 5) x.t.len).filter (isNm ts)).filter fun j => lAt ts j == nm := by
    rw [List.filter_filter]
    congr 1
    funext j
    rw [Bool.and_comm]
  rw [e, nm_filter hF x.t (x.i + 5) false hs, List.any_filter, List.any_map]
  rfl

theorem uses_eq {ns : List Nd} (hdx : All2 (DX ts (bindF ds) ns) ds L) {a : Nat} {d : Dc} (ha : ds[a]? = some d) (q : Nat) :
    usesF ds ns a q = (decide (usesR ts L d.name.data.toList q ≠ []), (usesR ts L d.name.data.toList q).any fun k => !(lAt ts (k - 1) == kFby)) := by
  have hin : ∀ x, x ∈ L → x.kind ≠ 0 → ∀ y ∈ nmD ts x.t (x.i + 5) false, decide (findF ds (tkAt ts y.1).text = (a : Int)) = (lAt ts y.1 == d.name.data.toList) := by
    intro x hx hk y hy
    rw [find_int (hd x hx hk y hy), find_is hN.own ha _ (hd x hx hk y hy)]
    rfl
  have hall : ∀ (p : Nat → Bool) (q' : Nd → Bool), (∀ y : Nat × Bool, 5 ≤ y.1 → q' (bindF ds (nmNd ts y)) = p y.1) →
      ds.any (fun e => (e.kind != 0 && e.place == q) && (seg ns e.root e.fin).any (fun n => n.kind == 2 && (decide (n.decl = (a : Int)) && q' n))) = (usesR ts L d.name.data.toList q).any p := by
    intro p q' hq
    unfold usesR
    rw [List.any_flatMap]
    unfold eqL
    rw [List.any_filter]
    have key : ∀ (l : List Dc) (m : List Dl), All2 (DX ts (bindF ds) ns) l m → (∀ x ∈ m, x ∈ L) → l.any (fun e => (e.kind != 0 && e.place == q) && (seg ns e.root e.fin).any (fun n => n.kind == 2 && (decide (n.decl = (a : Int)) && q' n))) = m.any (fun x => x.kind != 0 && (if placeD ts x = q then useOf ts x d.name.data.toList else []).any p) := by
      intro l
      induction l with
      | nil => intro m h _; cases m with
        | nil => rfl
        | cons x m => exact h.elim
      | cons e l ih => intro m h hm; cases m with
        | nil => exact h.elim
        | cons x m =>
          obtain ⟨h1, h2⟩ := h
          rw [List.any_cons, List.any_cons, ih m h2 (fun z hz => hm z (List.mem_cons_of_mem _ hz))]
          congr 1
          by_cases hk : x.kind = 0
          · rw [h1.kind, hk]; rfl
          · have hx := hm x (List.mem_cons_self ..)
            obtain ⟨o, ho⟩ := h1.some hk
            rw [h1.kind, h1.place hk]
            have hkb : (x.kind != 0) = true := by simpa using hk
            rw [hkb, Bool.true_and, Bool.true_and]
            by_cases hp : placeD ts x = q
            · rw [if_pos hp, hp, ho, any_flat hF (fun n => decide (n.decl = (a : Int)) && q' n) x.t (x.i + 5) o (hsp x hx hk).1, useOf_any hF x (hsp x hx hk).1]
              simp only [beq_self_eq_true, Bool.true_and]
              apply any_congr_mem
              intro y hy
              have h5 := (nm_in _ _ _ y hy).1
              rw [hq y (by omega), bind_nm]
              show (decide (findF ds (tkAt ts y.1).text = (a : Int)) && p y.1) = _
              rw [hin x hx hk y hy]
            · rw [if_neg hp, beq_eq_false_iff_ne.2 hp]; rfl
    exact key ds L hdx (fun x hx => hx)
  unfold usesF
  rw [usesAll_eq, Bool.false_or, Bool.false_or]
  have e1 := hall (fun _ => true) (fun _ => true) (fun _ _ => rfl)
  have e2 := hall (fun k => !(lAt ts (k - 1) == kFby)) (fun n => !n.behind) (fun y hy => by
    rw [bind_nm]
    show (!(decide (0 < y.1) && ((tkAt ts (y.1 - 1)).l == kFby))) = _
    rw [decide_eq_true (by omega : 0 < y.1), Bool.true_and])
  simp only [Bool.and_true] at e1
  rw [e1, e2]
  congr 1
  cases usesR ts L d.name.data.toList q with
  | nil => simp
  | cons k r => simp

theorem links_eq {ns : List Nd} (hdx : All2 (DX ts (bindF ds) ns) ds L) (hnum : ∀ a d x, ds[a]? = some d → L[a]? = some x → x.kind ≠ 0 → d.number = cntE L a) : linksF ds ns = routesR ts L := by
  have hto : ∀ a d x, ds[a]? = some d → L[a]? = some x → x.kind ≠ 0 → DX ts (bindF ds) ns d x → ∀ q, linksTo ds ns a d q = routeTo ts L (cntE L a) x q := by
    intro a d x h1 h2 hk h3 q
    induction q with
    | zero => rfl
    | succ q ih =>
      simp only [linksTo, routeTo]
      rw [ih]
      congr 1
      unfold linkAt routeAt
      rw [uses_eq hF hN hsp hd hdx h1 q, h3.name, h3.place hk, hnum a d x h1 h2 hk]
      simp only [decide_eq_true_iff]
      split
      · unfold lateR
        congr 2
        rw [List.not_any_eq_all_not]
        simp
      · rfl
  have key : ∀ (L2 L1 : List Dl) (l2 : List Dc) (l1 : List Dc), L = L1 ++ L2 → ds = l1 ++ l2 → l1.length = L1.length → All2 (DX ts (bindF ds) ns) l2 L2 → linksFrom ds ns L1.length l2 = routesFrom ts L (cntE L L1.length) (eqL L2) := by
    intro L2
    induction L2 with
    | nil => intro L1 l2 l1 _ _ _ h; cases l2 with
      | nil => rfl
      | cons d l2 => exact h.elim
    | cons x r ih => intro L1 l2 l1 hs hs2 hl h; cases l2 with
      | nil => exact h.elim
      | cons d l2 =>
        obtain ⟨h1, h2⟩ := h
        have hget : L[L1.length]? = some x := by rw [hs]; simp
        have hget2 : ds[L1.length]? = some d := by rw [hs2, ← hl]; simp
        have hsucc := cntE_succ L L1.length
        have hih := ih (L1 ++ [x]) l2 (l1 ++ [d]) (by rw [hs]; simp) (by rw [hs2]; simp) (by simp [hl]) h2
        rw [List.length_append, List.length_singleton] at hih
        simp only [linksFrom]
        rw [hih, hsucc, h1.kind]
        by_cases hk : x.kind = 0
        · have he : isE L L1.length = false := by unfold isE; rw [hget]; simp [hk]
          have e2 : eqL (x :: r) = eqL r := by simp [eqL, hk]
          rw [if_pos hk, e2, he]
          simp
        · have he : isE L L1.length = true := by unfold isE; rw [hget]; simp [hk]
          have e2 : eqL (x :: r) = x :: eqL r := by simp [eqL, hk]
          rw [if_neg hk, e2, he, hto _ d x hget2 hget hk h1]
          simp [routesFrom]
  have := key L [] ds [] rfl rfl rfl hdx
  unfold linksF routesR
  simpa [cntE, eqL] using this

omit hF hN hsp hd in
theorem eqs_all {ns : List Nd} {f : Nd → Nd} (hdx : All2 (DX ts f ns) ds L) : All2 (fun d x => d.place = placeD ts x ∧ d.pos = posD ts x) (eqsF ds) (eqL L) := by
  have key : ∀ (l : List Dc) (m : List Dl), All2 (DX ts f ns) l m → All2 (fun d x => d.place = placeD ts x ∧ d.pos = posD ts x) (eqsF l) (eqL m) := by
    intro l
    induction l with
    | nil => intro m h; cases m with
      | nil => trivial
      | cons x m => exact h.elim
    | cons d l ih => intro m h; cases m with
      | nil => exact h.elim
      | cons x m =>
        obtain ⟨h1, h2⟩ := h
        have := ih m h2
        unfold eqsF eqL at this ⊢
        by_cases hk : x.kind = 0
        · rw [List.filter_cons_of_neg (by rw [h1.kind, hk]; simp), List.filter_cons_of_neg (by rw [hk]; simp)]
          exact this
        · rw [List.filter_cons_of_pos (by rw [h1.kind]; simpa using hk), List.filter_cons_of_pos (by simpa using hk)]
          exact ⟨⟨h1.place hk, h1.pos⟩, this⟩
  exact key ds L hdx

omit hF hN hsp hd in
theorem waits_pl (es : List Dc) : ∀ (l : List Rt) (M : Mx), waitsM es l M = waitsP (es.map Dc.place) l M := by
  intro l
  induction l with
  | nil => intro M; rfl
  | cons r l ih =>
    intro M
    simp only [waitsM, waitsP]
    rw [ih]
    congr 3
    rw [List.getD_eq_getElem?_getD, List.getD_eq_getElem?_getD, List.getElem?_map]
    cases es[r.src]? <;> rfl

theorem loop_eq {ns : List Nd} (hdx : All2 (DX ts (bindF ds) ns) ds L) (hnum : ∀ a d x, ds[a]? = some d → L[a]? = some x → x.kind ≠ 0 → d.number = cntE L a) : loopF ds ns = lpR ts L := by
  have he := eqs_all hdx
  have hpl : (eqsF ds).map Dc.place = (eqL L).map (placeD ts) := by
    have key : ∀ (l : List Dc) (m : List Dl), All2 (fun d x => d.place = placeD ts x ∧ d.pos = posD ts x) l m → l.map Dc.place = m.map (placeD ts) := by
      intro l
      induction l with
      | nil => intro m h; cases m with
        | nil => rfl
        | cons x m => exact h.elim
      | cons d l ih => intro m h; cases m with
        | nil => exact h.elim
        | cons x m => rw [List.map_cons, List.map_cons, h.1.1, ih m h.2]
    exact key _ _ he
  have hfirst : ∀ (W : Mx) (l : List Dc) (m : List Dl), All2 (fun d x => d.place = placeD ts x ∧ d.pos = posD ts x) l m → firstAt W l = firstP ts W m := by
    intro W l
    induction l with
    | nil => intro m h; cases m with
      | nil => rfl
      | cons x m => exact h.elim
    | cons d l ih => intro m h; cases m with
      | nil => exact h.elim
      | cons x m => simp only [firstAt, firstP]; rw [h.1.1, h.1.2, ih m h.2]
  unfold loopF lpR
  rw [waits_pl, hpl, links_eq hF hN hsp hd hdx hnum, hfirst _ _ _ he]

end

end Go.Proofs.YtmndgoapkmhglaaDoor
