import Derived.Lib.ItoaNum
import Derived.WalkSmall
import Derived.Test.Ytmndgoapkmhglabc00Base
import Derived.Test.Ytmndgoapkmhglabc05Bytes
import Derived.Test.Ytmndgoapkmhglabc07RefC
import Derived.Test.Ytmndgoapkmhglabc08RefE
import Derived.Test.Ytmndgoapkmhglabc13JudA
/- Plain mathematics: cycles and loops: both readers find the same. -/
namespace Go.Proofs.Ytmndgoapkmhglab

def placeD (ts : List Tk) (x : Dl) : Nat := valOf (lAt ts (x.i + 3))

/-- a declaration as the program has it, and as the tokens have it. -/
structure DX (ts : List Tk) (f : Nd → Nd) (ns : List Nd) (d : Dc) (x : Dl) : Prop where
  kind : d.kind = x.kind
  pos : d.pos = posD ts x
  name : d.name = nameD ts x
  place : x.kind ≠ 0 → d.place = placeD ts x
  none : x.kind = 0 → seg ns d.root d.fin = []
  some : x.kind ≠ 0 → ∃ o, seg ns d.root d.fin = (flat ts x.t (x.i + 5) 0 o).map f

theorem dx_all (ts : List Tk) (f : Nd → Nd) : ∀ (L : List Dl) (off a b : Nat) (N1 : List Nd), N1.length = off → All2 (DX ts f (N1 ++ (nodesD ts L off).map f)) (declsD ts L off a b) L := by
  intro L
  induction L with
  | nil => intro off a b N1 _; trivial
  | cons x r ih =>
    intro off a b N1 hN
    simp only [declsD, nodesD]
    by_cases hk : x.kind = 0
    · rw [if_pos hk, if_pos hk]
      exact ⟨⟨hk.symm, rfl, rfl, fun h => absurd hk h, fun _ => by simp [seg, dcIn], fun h => absurd hk h⟩, ih off (a + 1) b N1 hN⟩
    · rw [if_neg hk, if_neg hk]
      refine ⟨⟨rfl, rfl, rfl, fun _ => rfl, fun h => absurd h hk, fun _ => ⟨off, ?_⟩⟩, ?_⟩
      · rw [List.map_append]
        exact seg_mid hN.symm (by simp [dcEq, flat_len, hN])
      · have := ih (off + x.t.size) a (b + 1) (N1 ++ (flat ts x.t (x.i + 5) 0 off).map f) (by simp [flat_len, hN])
        rw [List.append_assoc, ← List.map_append] at this
        exact this

theorem All2.getOpt {α β : Type} {R : α → β → Prop} : ∀ {l : List α} {m : List β} (k : Nat), All2 R l m → (l[k]? = none ∧ m[k]? = none) ∨ ∃ a b, l[k]? = some a ∧ m[k]? = some b ∧ R a b := by
  intro l
  induction l with
  | nil => intro m k h; cases m with
    | nil => exact .inl ⟨rfl, rfl⟩
    | cons b m => exact h.elim
  | cons a l ih => intro m k h; cases m with
    | nil => exact h.elim
    | cons b m =>
      cases k with
      | zero => exact .inr ⟨a, b, rfl, rfl, h.1⟩
      | succ k => exact ih k h.2

theorem All2.any {α β : Type} {R : α → β → Prop} {p : α → Bool} {q : β → Bool} (h : ∀ a b, R a b → p a = q b) : ∀ {l : List α} {m : List β}, All2 R l m → l.any p = m.any q := by
  intro l
  induction l with
  | nil => intro m hm; cases m with
    | nil => rfl
    | cons b m => exact hm.elim
  | cons a l ih => intro m hm; cases m with
    | nil => exact hm.elim
    | cons b m => rw [List.any_cons, List.any_cons, h a b hm.1, ih hm.2]

/-- the count of equations ahead. -/
def isE (L : List Dl) (k : Nat) : Bool := (L[k]?).any fun x => x.kind != 0
def cntE (L : List Dl) (k : Nat) : Nat := (eqL (L.take k)).length

theorem cntE_succ (L : List Dl) (k : Nat) : cntE L (k + 1) = if isE L k then cntE L k + 1 else cntE L k := by
  unfold cntE isE eqL
  rw [List.take_add_one, List.filter_append, List.length_append]
  cases h : L[k]? with
  | none => simp
  | some x =>
    by_cases hk : x.kind = 0
    · simp [hk]
    · simp [hk]
theorem cntE_get : ∀ (L : List Dl) (k : Nat), isE L k = true → (eqL L)[cntE L k]? = L[k]? := by
  intro L
  induction L with
  | nil => intro k h; simp [isE] at h
  | cons x r ih =>
    intro k h
    cases k with
    | zero =>
      have hk : x.kind ≠ 0 := by simpa [isE] using h
      simp [cntE, eqL, hk]
    | succ k =>
      have h' : isE r k = true := by simpa [isE] using h
      have := ih k h'
      rw [List.getElem?_cons_succ, ← this]
      by_cases hk : x.kind = 0
      · simp [cntE, eqL, hk]
      · have e : cntE (x :: r) (k + 1) = cntE r k + 1 := by simp [cntE, eqL, hk]
        have e2 : eqL (x :: r) = x :: eqL r := by simp [eqL, hk]
        rw [e, e2, List.getElem?_cons_succ]
theorem cntE_all (L : List Dl) : cntE L L.length = (eqL L).length := by unfold cntE; rw [List.take_length]

def relR (ts : List Tk) (L : List Dl) : Mx := fun i j =>
  match (eqL L)[i]?, (eqL L)[j]? with
  | some x, some z => hangsR ts x (nameD ts z).data.toList
  | _, _ => false
def firstC (ts : List Tk) (W : Mx) : Nat → List Dl → Option Nat
  | _, [] => none
  | i, x :: r => if W i i then some (posD ts x) else firstC ts W (i + 1) r
def cycR (ts : List Tk) (L : List Dl) : Option Nat := firstC ts (warsh (relR ts L) (eqL L).length) 0 (eqL L)

theorem find_is {ds : List Dc} (own : ∀ j (hj : j < ds.length), findF ds (ds[j]'hj).name = (j : Int)) {b : Nat} {d : Dc} (hd : ds[b]? = some d) (t : ByteArray) (h0 : 0 ≤ findF ds t) : ((findF ds t).toNat == b) = (t.data.toList == d.name.data.toList) := by
  rw [List.getElem?_eq_some_iff] at hd
  obtain ⟨hb, rfl⟩ := hd
  rw [Bool.eq_iff_iff, beq_iff_eq, beq_iff_eq]
  constructor
  · intro h
    unfold findF at h h0
    split at h
    · rename_i i hi
      rw [List.findIdx?_eq_some_iff_getElem] at hi
      obtain ⟨g1, g2, _⟩ := hi
      rw [Int.toNat_natCast] at h
      subst h
      rw [beq_iff_eq] at g2
      exact g2.symm
    · rename_i hi; rw [hi] at h0; simp at h0
  · intro h
    rw [findF_name ds h, own b hb]; rfl

section
variable {ts : List Tk} (hF : ∀ i, TkF (tkAt ts i)) {L : List Dl} {ds : List Dc} (hN : NamesOk ts L ds)
  (hsp : ∀ x ∈ L, x.kind ≠ 0 → Sp ts x.t (x.i + 5) ∧ x.i + 5 + x.t.len ≤ ts.length)
  (hd : ∀ x ∈ L, x.kind ≠ 0 → ∀ y ∈ nmD ts x.t (x.i + 5) false, 0 ≤ findF ds (tkAt ts y.1).text)
include hF hN hsp hd

omit hN hsp hd in
/-- over the name nodes of an expression. -/
theorem any_flat (q : Nd → Bool) (t : Ast) (i o : Nat) (hs : Sp ts t i) : ((flat ts t i 0 o).map (bindF ds)).any (fun n => n.kind == 2 && q n) = (nmD ts t i false).any fun y => q (bindF ds (nmNd ts y)) := by
  rw [← List.any_filter, bind_filter, flat_names hF t i 0 o hs, List.any_map, List.any_map]
  rfl

omit hF hN hsp hd in
theorem bind_nm (y : Nat × Bool) : bindF ds (nmNd ts y) = { nmNd ts y with decl := findF ds (tkAt ts y.1).text } := by
  unfold bindF; rw [if_pos (by rfl)]; rfl

omit hF hN hsp hd in
theorem mark_none {ns : List Nd} (hdx : All2 (DX ts (bindF ds) ns) ds L) : ∀ a b, isE L a = false → markAll ds ns 0 ds noM a b = false := by
  intro a b h
  rw [markAll_eq]
  rcases hdx.getOpt a with ⟨h1, _⟩ | ⟨d, x, h1, h2, h3⟩
  · rw [Nat.sub_zero, h1]; simp [noM]
  · unfold isE at h
    rw [h2] at h
    have hk : x.kind = 0 := by simpa using h
    rw [Nat.sub_zero, h1]
    simp [noM, h3.none hk]

theorem mark_rel {ns : List Nd} (hdx : All2 (DX ts (bindF ds) ns) ds L) : ∀ a b, isE L a = true → isE L b = true → markAll ds ns 0 ds noM a b = relR ts L (cntE L a) (cntE L b) := by
  intro a b ha hb
  rw [markAll_eq]
  rcases hdx.getOpt a with ⟨_, h2⟩ | ⟨d, x, h1, h2, h3⟩
  · unfold isE at ha; rw [h2] at ha; simp at ha
  rcases hdx.getOpt b with ⟨_, g2⟩ | ⟨e, z, g1, g2, g3⟩
  · unfold isE at hb; rw [g2] at hb; simp at hb
  have hk : x.kind ≠ 0 := by unfold isE at ha; rw [h2] at ha; simpa using ha
  have hx : x ∈ L := List.mem_of_getElem? h2
  obtain ⟨o, ho⟩ := h3.some hk
  have hrel : relR ts L (cntE L a) (cntE L b) = hangsR ts x (nameD ts z).data.toList := by
    unfold relR; rw [cntE_get L a ha, cntE_get L b hb, h2, g2]
  rw [hrel, hangs_nm hF x (hsp x hx hk).1 (hsp x hx hk).2, Nat.sub_zero, h1]
  have hz : (noM a b) = false := rfl
  have hdec : decide (0 ≤ a) = true := by simp
  rw [hz, hdec, Bool.false_or, Bool.true_and, Option.any_some, ho, any_flat hF (fun n => !n.delayed && (kindAt ds n.decl != 0 && n.decl.toNat == b)) x.t (x.i + 5) o (hsp x hx hk).1]
  apply any_congr_mem
  intro y hy
  rw [bind_nm]
  show (!y.2 && (kindAt ds (findF ds (tkAt ts y.1).text) != 0 && (findF ds (tkAt ts y.1).text).toNat == b)) = _
  have hkb : z.kind ≠ 0 := by unfold isE at hb; rw [g2] at hb; simpa using hb
  have hkk : (kindAt ds (findF ds (tkAt ts y.1).text) != 0 && (findF ds (tkAt ts y.1).text).toNat == b) = ((findF ds (tkAt ts y.1).text).toNat == b) := by
    by_cases hq : (findF ds (tkAt ts y.1).text).toNat = b
    · have : kindAt ds (findF ds (tkAt ts y.1).text) = z.kind := by
        unfold kindAt
        rw [hq, List.getD_eq_getElem?_getD, g1, ← g3.kind]; rfl
      rw [this, bne_iff_ne.2 hkb, Bool.true_and]
    · have : ((findF ds (tkAt ts y.1).text).toNat == b) = false := beq_eq_false_iff_ne.2 hq
      rw [this, Bool.and_false]
  rw [hkk, find_is hN.own g1 _ (hd x hx hk y hy), g3.name, Bool.and_comm]
  rfl

theorem cycle_eq {ns : List Nd} (hdx : All2 (DX ts (bindF ds) ns) ds L) : cycleF ds ns = cycR ts L := by
  have hM1 := mark_none hdx (ts := ts)
  have hM2 := mark_rel hF hN hsp hd hdx
  have hw := warsh_part (M := markAll ds ns 0 ds noM) (rel := relR ts L) (isE := isE L) (cnt := cntE L) (cntE_succ L) (by simp [cntE, eqL]) hM1 hM2 ds.length
  have hlen : L.length = ds.length := hdx.len
  unfold cycleF cycR
  rw [← cntE_all L, hlen]
  generalize warsh (markAll ds ns 0 ds noM) ds.length = W at hw ⊢
  generalize warsh (relR ts L) (cntE L ds.length) = W' at hw ⊢
  obtain ⟨hw1, hw2⟩ := hw
  have key : ∀ (L2 L1 : List Dl) (l2 : List Dc), L = L1 ++ L2 → All2 (DX ts (bindF ds) ns) l2 L2 → firstSelf W L1.length l2 = firstC ts W' (cntE L L1.length) (eqL L2) := by
    intro L2
    induction L2 with
    | nil => intro L1 l2 _ h; cases l2 with
      | nil => rfl
      | cons d l2 => exact h.elim
    | cons x r ih => intro L1 l2 hs h; cases l2 with
      | nil => exact h.elim
      | cons d l2 =>
        obtain ⟨h1, h2⟩ := h
        have hget : L[L1.length]? = some x := by rw [hs]; simp
        have hsucc := cntE_succ L L1.length
        have hih := ih (L1 ++ [x]) l2 (by rw [hs]; simp) h2
        rw [List.length_append, List.length_singleton] at hih
        simp only [firstSelf]
        by_cases hk : x.kind = 0
        · have he : isE L L1.length = false := by unfold isE; rw [hget]; simp [hk]
          have e2 : eqL (x :: r) = eqL r := by simp [eqL, hk]
          rw [hw1 _ _ he, if_neg (by simp), hih, e2, hsucc, he]
          simp
        · have he : isE L L1.length = true := by unfold isE; rw [hget]; simp [hk]
          have e2 : eqL (x :: r) = x :: eqL r := by simp [eqL, hk]
          rw [e2]
          simp only [firstC]
          rw [hw2 _ _ he he, hih, hsucc, he, h1.pos]
          simp
  have := key L [] ds rfl hdx
  simpa [cntE, eqL] using this

end

end Go.Proofs.Ytmndgoapkmhglab

/- Plain mathematics: links and loops: both readers find the same. -/
namespace Go.Proofs.Ytmndgoapkmhglab

def useOf (ts : List Tk) (x : Dl) (nm : List UInt8) : List Nat := (List.range' (x.i + 5) x.t.len).filter fun j => isNm ts j && lAt ts j == nm
def usesR (ts : List Tk) (L : List Dl) (nm : List UInt8) (q : Nat) : List Nat := (eqL L).flatMap fun x => if placeD ts x = q then useOf ts x nm else []
def lateR (ts : List Tk) (u : List Nat) : Bool := u.all fun k => lAt ts (k - 1) == kFby
def routeAt (ts : List Tk) (L : List Dl) (b : Nat) (x : Dl) (q : Nat) : List Rt :=
  if usesR ts L (nameD ts x).data.toList q ≠ [] ∧ q ≠ placeD ts x then [⟨b, q, lateR ts (usesR ts L (nameD ts x).data.toList q)⟩] else []
def routeTo (ts : List Tk) (L : List Dl) (b : Nat) (x : Dl) : Nat → List Rt
  | 0 => []
  | q + 1 => routeTo ts L b x q ++ routeAt ts L b x q
def routesFrom (ts : List Tk) (L : List Dl) : Nat → List Dl → List Rt
  | _, [] => []
  | b, x :: r => routeTo ts L b x 4 ++ routesFrom ts L (b + 1) r
def routesR (ts : List Tk) (L : List Dl) : List Rt := routesFrom ts L 0 (eqL L)
def waitsP (pl : List Nat) : List Rt → Mx → Mx
  | [], M => M
  | r :: l, M => waitsP pl l (if r.late = true then M else upd M r.dst (pl.getD r.src 0) true)
def firstP (ts : List Tk) (W : Mx) : List Dl → Option Nat
  | [] => none
  | x :: r => if W (placeD ts x) (placeD ts x) then some (posD ts x) else firstP ts W r
def lpR (ts : List Tk) (L : List Dl) : Option Nat := firstP ts (warsh (waitsP ((eqL L).map (placeD ts)) (routesR ts L) noM) 4) (eqL L)

theorem usesSeg_eq (decl : Nat) : ∀ (l : List Nd) (u p : Bool), usesSeg decl l u p = (u || l.any (fun n => n.kind == 2 && decide (n.decl = (decl : Int))), p || l.any (fun n => n.kind == 2 && (decide (n.decl = (decl : Int)) && !n.behind))) := by
  intro l
  induction l with
  | nil => intro u p; simp [usesSeg]
  | cons n l ih =>
    intro u p
    simp only [usesSeg]
    by_cases h : n.kind = 2 ∧ n.decl = (decl : Int)
    · rw [if_pos h, ih, List.any_cons, List.any_cons, h.1, decide_eq_true h.2]
      simp [Bool.or_assoc]
    · rw [if_neg h, ih, List.any_cons, List.any_cons]
      by_cases hk : n.kind = 2
      · have hd : decide (n.decl = (decl : Int)) = false := decide_eq_false (fun e => h ⟨hk, e⟩)
        rw [hd]; simp
      · have hk' : (n.kind == 2) = false := beq_eq_false_iff_ne.2 hk
        rw [hk']; simp

theorem usesAll_eq (ns : List Nd) (decl q : Nat) : ∀ (l : List Dc) (u p : Bool), usesAll ns decl q l u p =
    (u || l.any (fun d => (d.kind != 0 && d.place == q) && (seg ns d.root d.fin).any (fun n => n.kind == 2 && decide (n.decl = (decl : Int)))),
     p || l.any (fun d => (d.kind != 0 && d.place == q) && (seg ns d.root d.fin).any (fun n => n.kind == 2 && (decide (n.decl = (decl : Int)) && !n.behind)))) := by
  intro l
  induction l with
  | nil => intro u p; simp [usesAll]
  | cons d l ih =>
    intro u p
    simp only [usesAll]
    by_cases h : d.kind = 0 ∨ d.place ≠ q
    · have hc : (d.kind != 0 && d.place == q) = false := by
        rcases h with h | h
        · rw [h]; rfl
        · rw [beq_eq_false_iff_ne.2 h, Bool.and_false]
      rw [if_pos h, ih, List.any_cons, List.any_cons, hc]; simp
    · have h1 : d.kind ≠ 0 := fun e => h (.inl e)
      have h2 : d.place = q := Classical.byContradiction fun e => h (.inr e)
      have hc : (d.kind != 0 && d.place == q) = true := by rw [h2]; simp [h1]
      rw [if_neg h, ih, usesSeg_eq, List.any_cons, List.any_cons, hc]
      simp [Bool.or_assoc]

theorem find_int {x : Int} {a : Nat} (h0 : 0 ≤ x) : decide (x = (a : Int)) = (x.toNat == a) := by
  rw [Bool.eq_iff_iff, decide_eq_true_iff, beq_iff_eq]; omega

section
variable {ts : List Tk} (hF : ∀ i, TkF (tkAt ts i)) {L : List Dl} {ds : List Dc} (hN : NamesOk ts L ds)
  (hsp : ∀ x ∈ L, x.kind ≠ 0 → Sp ts x.t (x.i + 5) ∧ x.i + 5 + x.t.len ≤ ts.length)
  (hd : ∀ x ∈ L, x.kind ≠ 0 → ∀ y ∈ nmD ts x.t (x.i + 5) false, 0 ≤ findF ds (tkAt ts y.1).text)
include hF hN hsp hd

omit hN hsp hd in
theorem useOf_any (x : Dl) (hs : Sp ts x.t (x.i + 5)) (nm : List UInt8) (p : Nat → Bool) : (useOf ts x nm).any p = (nmD ts x.t (x.i + 5) false).any fun y => lAt ts y.1 == nm && p y.1 := by
  unfold useOf
  have e : ((List.range' (x.i + 5) x.t.len).filter fun j => isNm ts j && lAt ts j == nm) = ((List.range' (x.i + 5) x.t.len).filter (isNm ts)).filter fun j => lAt ts j == nm := by
    rw [List.filter_filter]
    congr 1
    funext j
    rw [Bool.and_comm]
  rw [e, nm_filter hF x.t (x.i + 5) false hs, List.any_filter, List.any_map]
  rfl

theorem uses_eq {ns : List Nd} (hdx : All2 (DX ts (bindF ds) ns) ds L) {a : Nat} {d : Dc} (ha : ds[a]? = some d) (q : Nat) :
    usesF ds ns a q = (decide (usesR ts L d.name.data.toList q ≠ []), (usesR ts L d.name.data.toList q).any fun k => !(lAt ts (k - 1) == kFby)) := by
  have hin : ∀ x, x ∈ L → x.kind ≠ 0 → ∀ y ∈ nmD ts x.t (x.i + 5) false, decide (findF ds (tkAt ts y.1).text = (a : Int)) = (lAt ts y.1 == d.name.data.toList) := by
    intro x hx hk y hy
    rw [find_int (hd x hx hk y hy), find_is hN.own ha _ (hd x hx hk y hy)]
    rfl
  have hall : ∀ (p : Nat → Bool) (q' : Nd → Bool), (∀ y : Nat × Bool, 5 ≤ y.1 → q' (bindF ds (nmNd ts y)) = p y.1) →
      ds.any (fun e => (e.kind != 0 && e.place == q) && (seg ns e.root e.fin).any (fun n => n.kind == 2 && (decide (n.decl = (a : Int)) && q' n))) = (usesR ts L d.name.data.toList q).any p := by
    intro p q' hq
    unfold usesR
    rw [List.any_flatMap]
    unfold eqL
    rw [List.any_filter]
    have key : ∀ (l : List Dc) (m : List Dl), All2 (DX ts (bindF ds) ns) l m → (∀ x ∈ m, x ∈ L) → l.any (fun e => (e.kind != 0 && e.place == q) && (seg ns e.root e.fin).any (fun n => n.kind == 2 && (decide (n.decl = (a : Int)) && q' n))) = m.any (fun x => x.kind != 0 && (if placeD ts x = q then useOf ts x d.name.data.toList else []).any p) := by
      intro l
      induction l with
      | nil => intro m h _; cases m with
        | nil => rfl
        | cons x m => exact h.elim
      | cons e l ih => intro m h hm; cases m with
        | nil => exact h.elim
        | cons x m =>
          obtain ⟨h1, h2⟩ := h
          rw [List.any_cons, List.any_cons, ih m h2 (fun z hz => hm z (List.mem_cons_of_mem _ hz))]
          congr 1
          by_cases hk : x.kind = 0
          · rw [h1.kind, hk]; rfl
          · have hx := hm x (List.mem_cons_self ..)
            obtain ⟨o, ho⟩ := h1.some hk
            rw [h1.kind, h1.place hk]
            have hkb : (x.kind != 0) = true := by simpa using hk
            rw [hkb, Bool.true_and, Bool.true_and]
            by_cases hp : placeD ts x = q
            · rw [if_pos hp, hp, ho, any_flat hF (fun n => decide (n.decl = (a : Int)) && q' n) x.t (x.i + 5) o (hsp x hx hk).1, useOf_any hF x (hsp x hx hk).1]
              simp only [beq_self_eq_true, Bool.true_and]
              apply any_congr_mem
              intro y hy
              have h5 := (nm_in _ _ _ y hy).1
              rw [hq y (by omega), bind_nm]
              show (decide (findF ds (tkAt ts y.1).text = (a : Int)) && p y.1) = _
              rw [hin x hx hk y hy]
            · rw [if_neg hp, beq_eq_false_iff_ne.2 hp]; rfl
    exact key ds L hdx (fun x hx => hx)
  unfold usesF
  rw [usesAll_eq, Bool.false_or, Bool.false_or]
  have e1 := hall (fun _ => true) (fun _ => true) (fun _ _ => rfl)
  have e2 := hall (fun k => !(lAt ts (k - 1) == kFby)) (fun n => !n.behind) (fun y hy => by
    rw [bind_nm]
    show (!(decide (0 < y.1) && ((tkAt ts (y.1 - 1)).l == kFby))) = _
    rw [decide_eq_true (by omega : 0 < y.1), Bool.true_and])
  simp only [Bool.and_true] at e1
  rw [e1, e2]
  congr 1
  cases usesR ts L d.name.data.toList q with
  | nil => simp
  | cons k r => simp

theorem links_eq {ns : List Nd} (hdx : All2 (DX ts (bindF ds) ns) ds L) (hnum : ∀ a d x, ds[a]? = some d → L[a]? = some x → x.kind ≠ 0 → d.number = cntE L a) : linksF ds ns = routesR ts L := by
  have hto : ∀ a d x, ds[a]? = some d → L[a]? = some x → x.kind ≠ 0 → DX ts (bindF ds) ns d x → ∀ q, linksTo ds ns a d q = routeTo ts L (cntE L a) x q := by
    intro a d x h1 h2 hk h3 q
    induction q with
    | zero => rfl
    | succ q ih =>
      simp only [linksTo, routeTo]
      rw [ih]
      congr 1
      unfold linkAt routeAt
      rw [uses_eq hF hN hsp hd hdx h1 q, h3.name, h3.place hk, hnum a d x h1 h2 hk]
      simp only [decide_eq_true_iff]
      split
      · unfold lateR
        congr 2
        rw [List.not_any_eq_all_not]
        simp
      · rfl
  have key : ∀ (L2 L1 : List Dl) (l2 : List Dc) (l1 : List Dc), L = L1 ++ L2 → ds = l1 ++ l2 → l1.length = L1.length → All2 (DX ts (bindF ds) ns) l2 L2 → linksFrom ds ns L1.length l2 = routesFrom ts L (cntE L L1.length) (eqL L2) := by
    intro L2
    induction L2 with
    | nil => intro L1 l2 l1 _ _ _ h; cases l2 with
      | nil => rfl
      | cons d l2 => exact h.elim
    | cons x r ih => intro L1 l2 l1 hs hs2 hl h; cases l2 with
      | nil => exact h.elim
      | cons d l2 =>
        obtain ⟨h1, h2⟩ := h
        have hget : L[L1.length]? = some x := by rw [hs]; simp
        have hget2 : ds[L1.length]? = some d := by rw [hs2, ← hl]; simp
        have hsucc := cntE_succ L L1.length
        have hih := ih (L1 ++ [x]) l2 (l1 ++ [d]) (by rw [hs]; simp) (by rw [hs2]; simp) (by simp [hl]) h2
        rw [List.length_append, List.length_singleton] at hih
        simp only [linksFrom]
        rw [hih, hsucc, h1.kind]
        by_cases hk : x.kind = 0
        · have he : isE L L1.length = false := by unfold isE; rw [hget]; simp [hk]
          have e2 : eqL (x :: r) = eqL r := by simp [eqL, hk]
          rw [if_pos hk, e2, he]
          simp
        · have he : isE L L1.length = true := by unfold isE; rw [hget]; simp [hk]
          have e2 : eqL (x :: r) = x :: eqL r := by simp [eqL, hk]
          rw [if_neg hk, e2, he, hto _ d x hget2 hget hk h1]
          simp [routesFrom]
  have := key L [] ds [] rfl rfl rfl hdx
  unfold linksF routesR
  simpa [cntE, eqL] using this

omit hF hN hsp hd in
theorem eqs_all {ns : List Nd} {f : Nd → Nd} (hdx : All2 (DX ts f ns) ds L) : All2 (fun d x => d.place = placeD ts x ∧ d.pos = posD ts x) (eqsF ds) (eqL L) := by
  have key : ∀ (l : List Dc) (m : List Dl), All2 (DX ts f ns) l m → All2 (fun d x => d.place = placeD ts x ∧ d.pos = posD ts x) (eqsF l) (eqL m) := by
    intro l
    induction l with
    | nil => intro m h; cases m with
      | nil => trivial
      | cons x m => exact h.elim
    | cons d l ih => intro m h; cases m with
      | nil => exact h.elim
      | cons x m =>
        obtain ⟨h1, h2⟩ := h
        have := ih m h2
        unfold eqsF eqL at this ⊢
        by_cases hk : x.kind = 0
        · rw [List.filter_cons_of_neg (by rw [h1.kind, hk]; simp), List.filter_cons_of_neg (by rw [hk]; simp)]
          exact this
        · rw [List.filter_cons_of_pos (by rw [h1.kind]; simpa using hk), List.filter_cons_of_pos (by simpa using hk)]
          exact ⟨⟨h1.place hk, h1.pos⟩, this⟩
  exact key ds L hdx

omit hF hN hsp hd in
theorem waits_pl (es : List Dc) : ∀ (l : List Rt) (M : Mx), waitsM es l M = waitsP (es.map Dc.place) l M := by
  intro l
  induction l with
  | nil => intro M; rfl
  | cons r l ih =>
    intro M
    simp only [waitsM, waitsP]
    rw [ih]
    congr 3
    rw [List.getD_eq_getElem?_getD, List.getD_eq_getElem?_getD, List.getElem?_map]
    cases es[r.src]? <;> rfl

theorem loop_eq {ns : List Nd} (hdx : All2 (DX ts (bindF ds) ns) ds L) (hnum : ∀ a d x, ds[a]? = some d → L[a]? = some x → x.kind ≠ 0 → d.number = cntE L a) : loopF ds ns = lpR ts L := by
  have he := eqs_all hdx
  have hpl : (eqsF ds).map Dc.place = (eqL L).map (placeD ts) := by
    have key : ∀ (l : List Dc) (m : List Dl), All2 (fun d x => d.place = placeD ts x ∧ d.pos = posD ts x) l m → l.map Dc.place = m.map (placeD ts) := by
      intro l
      induction l with
      | nil => intro m h; cases m with
        | nil => rfl
        | cons x m => exact h.elim
      | cons d l ih => intro m h; cases m with
        | nil => exact h.elim
        | cons x m => rw [List.map_cons, List.map_cons, h.1.1, ih m h.2]
    exact key _ _ he
  have hfirst : ∀ (W : Mx) (l : List Dc) (m : List Dl), All2 (fun d x => d.place = placeD ts x ∧ d.pos = posD ts x) l m → firstAt W l = firstP ts W m := by
    intro W l
    induction l with
    | nil => intro m h; cases m with
      | nil => rfl
      | cons x m => exact h.elim
    | cons d l ih => intro m h; cases m with
      | nil => exact h.elim
      | cons x m => simp only [firstAt, firstP]; rw [h.1.1, h.1.2, ih m h.2]
  unfold loopF lpR
  rw [waits_pl, hpl, links_eq hF hN hsp hd hdx hnum, hfirst _ _ _ he]

end

end Go.Proofs.Ytmndgoapkmhglab

/- Plain mathematics: what the program answers of a text is the document's own answer. -/
namespace Go.Proofs.Ytmndgoapkmhglab

theorem tk_pos : ∀ n k (l : List UInt8), l.length = n → (∀ t ∈ tk k l, k ≤ t.pos ∧ t.pos < k + l.length) ∧ (tk k l).Pairwise (fun a b => a.pos < b.pos) := by
  intro n
  induction n using Nat.strongRecOn with
  | _ n ih =>
    intro k l hn
    cases l with
    | nil => rw [tk_nil]; exact ⟨fun t ht => by simp at ht, List.Pairwise.nil⟩
    | cons c r =>
      simp only [List.length_cons] at hn
      by_cases h0 : cls c.toNat = 0
      · rw [tk_blank h0]
        obtain ⟨h1, h2⟩ := ih r.length (by omega) (k + 1) r rfl
        exact ⟨fun t ht => by have := h1 t ht; simp only [List.length_cons]; omega, h2⟩
      · by_cases h12 : cls c.toNat = 1 ∨ cls c.toNat = 2
        · rw [tk_word h12]
          have hl := take_drop_len (W (cls c.toNat)) r
          obtain ⟨h1, h2⟩ := ih _ (by omega) (k + 1 + (r.takeWhile (W (cls c.toNat))).length) (r.dropWhile (W (cls c.toNat))) rfl
          refine ⟨fun t ht => ?_, List.Pairwise.cons (fun t ht => ?_) h2⟩
          · simp only [List.length_cons]
            rcases List.mem_cons.1 ht with rfl | ht
            · show k ≤ k ∧ k < _; omega
            · have := h1 t ht; omega
          · have := h1 t ht; show k < t.pos; omega
        · rw [tk_one (by omega)]
          obtain ⟨h1, h2⟩ := ih r.length (by omega) (k + 1) r rfl
          refine ⟨fun t ht => ?_, List.Pairwise.cons (fun t ht => ?_) h2⟩
          · simp only [List.length_cons]
            rcases List.mem_cons.1 ht with rfl | ht
            · show k ≤ k ∧ k < _; omega
            · have := h1 t ht; omega
          · have := h1 t ht; show k < t.pos; omega

theorem toks_pos (s : ByteArray) : PosLt (toks s) := by
  obtain ⟨h1, h2⟩ := tk_pos _ 0 s.data.toList rfl
  have hp : (toks s).Pairwise (fun a b => a.pos < b.pos) := by
    rw [toks_list, List.pairwise_append]
    refine ⟨h2, List.pairwise_singleton _ _, fun a ha b hb => ?_⟩
    rw [List.mem_singleton] at hb
    subst hb
    have := h1 a ha
    show a.pos < s.size
    rw [size_list]; omega
  intro i j hij hj
  have := (List.pairwise_iff_getElem.1 hp) i j (by omega) hj hij
  unfold tkAt
  rw [List.getD_eq_getElem?_getD, List.getD_eq_getElem?_getD, List.getElem?_eq_getElem hj, List.getElem?_eq_getElem (show i < (toks s).length by omega)]
  exact this

theorem toks_end (s : ByteArray) (i : Nat) (h : (tkAt (toks s) i).kind = 0) : (toks s).length ≤ i + 1 := by
  by_cases hi : i < (tk 0 s.data.toList).length
  · exfalso
    rw [toks_list, tkAt_left hi] at h
    exact (tk_kind _ _ _ rfl _ (tkAt_mem hi)).1 h
  · rw [toks_list]; simp; omega

theorem badName_own {all : List Dc} {ns : List Nd} : ∀ (l : List Dc) (i : Nat), badNameF all ns i l = none → ∀ j (hj : j < l.length), findF all (l[j]'hj).name = ((i + j : Nat) : Int) := by
  intro l
  induction l with
  | nil => intro i _ j hj; simp at hj
  | cons d l ih =>
    intro i h j hj
    unfold badNameF at h
    split at h
    · cases h
    · rename_i hd
      have hd' : findF all d.name = (i : Int) := Classical.byContradiction hd
      split at h
      · cases h
      · cases j with
        | zero => exact hd'
        | succ j =>
          have := ih (i + 1) h j (by simpa using hj)
          rw [List.getElem_cons_succ, this]
          congr 1; omega

theorem dx_two {ts : List Tk} {f : Nd → Nd} {ns : List Nd} : ∀ {l : List Dc} {m : List Dl}, All2 (DX ts f ns) l m → l.map (fun d => (d.name, d.kind)) = m.map fun x => (nameD ts x, x.kind) := by
  intro l
  induction l with
  | nil => intro m h; cases m with
    | nil => rfl
    | cons x m => exact h.elim
  | cons d l ih => intro m h; cases m with
    | nil => exact h.elim
    | cons x m => rw [List.map_cons, List.map_cons, h.1.name, h.1.kind, ih h.2]

theorem declsD_num (ts : List Tk) : ∀ (L : List Dl) (off a b k : Nat) (d : Dc) (x : Dl), (declsD ts L off a b)[k]? = some d → L[k]? = some x → x.kind ≠ 0 → d.number = b + cntE L k := by
  intro L
  induction L with
  | nil => intro off a b k d x h; simp [declsD] at h
  | cons z r ih =>
    intro off a b k d x h1 h2 hk
    simp only [declsD] at h1
    cases k with
    | zero =>
      rw [List.getElem?_cons_zero] at h2
      cases h2
      rw [if_neg hk, List.getElem?_cons_zero] at h1
      cases h1
      simp [cntE, eqL, dcEq]
    | succ k =>
      rw [List.getElem?_cons_succ] at h2
      by_cases hz : z.kind = 0
      · rw [if_pos hz, List.getElem?_cons_succ] at h1
        rw [ih _ _ _ k d x h1 h2 hk]
        simp [cntE, eqL, hz]
      · rw [if_neg hz, List.getElem?_cons_succ] at h1
        rw [ih _ _ _ k d x h1 h2 hk]
        simp [cntE, eqL, hz]; omega

/-- the document's own answer of tokens that can all stand. -/
def readR (ts : List Tk) (L : List Dl) : Nat × Nat :=
  match manyR ts L with
  | some a => (3, a)
  | none => match namesR ts L with
    | some a => (4, a)
    | none => match typesR ts L with
      | some a => (5, a)
      | none => match cycR ts L with
        | some a => (6, a)
        | none => match lpR ts L with
          | some a => (7, a)
          | none => (0, 0)

theorem meaning_ref {ts : List Tk} (hF : ∀ i, TkF (tkAt ts i)) (hP : PosLt ts) (hE : ∀ i, (tkAt ts i).kind = 0 → ts.length ≤ i + 1) (L : List Dl) (hL : Spell ts L 0) (ht : 0 < ts.length) :
    meaningF (declsD ts L 0 0 0) ((nodesD ts L 0).map (bindF (declsD ts L 0 0 0))) = readR ts L := by
  obtain ⟨ds, hds⟩ : ∃ ds, ds = declsD ts L 0 0 0 := ⟨_, rfl⟩
  obtain ⟨ns, hns⟩ : ∃ ns, ns = (nodesD ts L 0).map (bindF ds) := ⟨_, rfl⟩
  rw [← hds, ← hns]
  have hmany : tooManyF ds = manyR ts L := by rw [hds]; exact many_eq hP L 0 0 0 0 hL (by omega) (by omega)
  have hnm : ds.map Dc.name = L.map (nameD ts) := by rw [hds]; exact declsD_names ts L 0 0 0
  have hnames : badNameF ds ns 0 ds = namesR ts L := by
    have := names_eq hF hE L hL ds hnm L [] 0 0 0 0 [] [] rfl hL (by omega) (by rw [List.nil_append]; exact hds) rfl rfl
    rw [List.nil_append, ← hns, ← hds] at this
    exact this
  have hdx : All2 (DX ts (bindF ds) ns) ds L := by
    have := dx_all ts (bindF ds) L 0 0 0 [] rfl
    rw [List.nil_append, ← hns, ← hds] at this
    exact this
  unfold meaningF readR
  rw [hmany, hnames]
  cases manyR ts L with
  | some a => rfl
  | none =>
    simp only
    cases hn : namesR ts L with
    | some a => rfl
    | none =>
      simp only
      rw [hn] at hnames
      have hN : NamesOk ts L ds := ⟨fun j hj => by have := badName_own ds 0 hnames j hj; rw [this, Nat.zero_add], dx_two hdx⟩
      have hsp : ∀ x ∈ L, x.kind ≠ 0 → Sp ts x.t (x.i + 5) ∧ x.i + 5 + x.t.len ≤ ts.length := by
        intro x hx hk
        obtain ⟨_, h2, h3⟩ := spell_mem _ _ hL x hx
        have hlen : x.len = x.t.len + 6 := by unfold Dl.len; rw [if_neg hk]
        refine ⟨?_, by omega⟩
        rcases h3 with ⟨h, _⟩ | ⟨_, _, _, _, _, h, _⟩
        · exact absurd h hk
        · exact h
      have hd : ∀ x ∈ L, x.kind ≠ 0 → ∀ y ∈ nmD ts x.t (x.i + 5) false, 0 ≤ findF ds (tkAt ts y.1).text := by
        intro x hx hk y hy
        obtain ⟨k, hk2, rfl⟩ := List.getElem_of_mem hx
        rcases hdx.getOpt k with ⟨_, h2⟩ | ⟨d, z, h1, h2, h3⟩
        · rw [List.getElem?_eq_getElem hk2] at h2; cases h2
        · rw [List.getElem?_eq_getElem hk2] at h2
          cases h2
          have hnone := badName_none ds 0 hnames d (List.mem_of_getElem? h1)
          obtain ⟨o, ho⟩ := h3.some hk
          have hmem : bindF ds (nmNd ts y) ∈ seg ns d.root d.fin := by
            rw [ho]
            have : bindF ds (nmNd ts y) ∈ (((flat ts (L[k]'hk2).t ((L[k]'hk2).i + 5) 0 o).map (bindF ds)).filter fun n => n.kind == 2) := by
              rw [bind_filter, flat_names hF _ _ _ _ (hsp _ hx hk).1]
              exact List.mem_map.2 ⟨_, List.mem_map.2 ⟨y, hy, rfl⟩, rfl⟩
            exact (List.mem_filter.1 this).1
          have := badNode_none _ hnone _ hmem (by rw [bind_nm]; rfl)
          rw [bind_nm] at this
          exact this
      have htot : (nodesD ts L 0).length = totN L := nodesD_len ts L 0
      have hnl : ns.length = totN L := by rw [hns, List.length_map, htot]
      have htypes : badTypeF ds 0 ns (roots ds (List.replicate ns.length false)) = typesR ts L := by
        have hT : TrOk L 0 (roots ds (List.replicate ns.length false)) := by
          rw [hds]
          refine roots_ok ts L 0 0 0 _ (fun j _ => ?_) (by simp [hnl])
          rw [List.getD_eq_getElem?_getD, List.getElem?_replicate]
          split <;> rfl
        have := types_eq hF hN L 0 0 (roots ds (List.replicate ns.length false)) hL hT (by rw [roots_len]; simp [hnl]) hd
        rw [← hns] at this
        exact this
      rw [htypes]
      cases typesR ts L with
      | some a => rfl
      | none =>
        simp only
        rw [cycle_eq hF hN hsp hd hdx]
        cases cycR ts L with
        | some a => rfl
        | none =>
          simp only
          rw [loop_eq hF hN hsp hd hdx (fun a d x h1 h2 hk => by rw [hds] at h1; have := declsD_num ts L 0 0 0 a d x h1 h2 hk; rw [this, Nat.zero_add])]
          cases lpR ts L <;> rfl

/-- the text's answer, by the document's own reader. -/
theorem text_ref (s : ByteArray) (hs : s.size ≤ 1500) :
    (∃ k, k < (toks s).length ∧ textF s = (2, (tkAt (toks s) k).pos) ∧ ∃ n, Ans (toks s) n [80] 0 0 ((tkAt (toks s) k).pos : Int)) ∨
    (∃ L, Spell (toks s) L 0 ∧ (∃ n, Ans (toks s) n [80] 0 0 (-1)) ∧ textF s = readR (toks s) L) := by
  obtain ⟨hok, hbad⟩ := parseA s hs
  unfold textF
  rw [if_neg (by omega)]
  cases hp : parseF s with
  | error k =>
    obtain ⟨h1, h2⟩ := hbad k hp
    exact .inl ⟨k, h1, rfl, h2⟩
  | ok p =>
    obtain ⟨L, h1, h2, h3, h4⟩ := hok p hp
    refine .inr ⟨L, h1, h4, ?_⟩
    show meaningF p.decls (boundN p) = _
    unfold boundN
    rw [h2, h3]
    exact meaning_ref (toks_F s) (toks_pos s) (toks_end s) L h1 (toks_ok s hs).pos

end Go.Proofs.Ytmndgoapkmhglab

/- Plain mathematics: a circle-free relation has ranks. -/
namespace Go.Proofs.Ytmndgoapkmhglab

theorem warsh_up (M : Mx) (i j : Nat) (h : M i j = true) : ∀ n, warsh M n i j = true := by
  intro n
  induction n with
  | zero => exact h
  | succ n ih => show phase (warsh M n) n i j = true; unfold phase; rw [ih]; rfl

theorem warsh_trans (M : Mx) : ∀ n k i j, k < n → warsh M n i k = true → warsh M n k j = true → warsh M n i j = true := by
  intro n
  induction n with
  | zero => intro k i j h; omega
  | succ n ih =>
    intro k i j hk h1 h2
    change phase (warsh M n) n i k = true at h1
    change phase (warsh M n) n k j = true at h2
    show phase (warsh M n) n i j = true
    unfold phase at *
    simp only [Bool.or_eq_true, Bool.and_eq_true] at *
    by_cases e : k = n
    · subst e
      have a1 : warsh M k i k = true := h1.elim id And.left
      have a2 : warsh M k k j = true := h2.elim id And.right
      exact .inr ⟨a1, a2⟩
    · have hk' : k < n := by omega
      rcases h1 with a | ⟨a1, a2⟩ <;> rcases h2 with b | ⟨b1, b2⟩
      · exact .inl (ih k i j hk' a b)
      · exact .inr ⟨ih k i n hk' a b1, b2⟩
      · exact .inr ⟨a1, ih k n j hk' a2 b⟩
      · exact .inr ⟨a1, b2⟩

theorem filter_lt {p q : Nat → Bool} : ∀ (l : List Nat), (∀ x ∈ l, p x = true → q x = true) → (∃ x ∈ l, q x = true ∧ p x = false) → (l.filter p).length < (l.filter q).length := by
  have le : ∀ (l : List Nat), (∀ x ∈ l, p x = true → q x = true) → (l.filter p).length ≤ (l.filter q).length := by
    intro l
    induction l with
    | nil => intro _; exact Nat.le_refl _
    | cons a r ih =>
      intro h
      have ih' := ih fun x hx => h x (List.mem_cons_of_mem _ hx)
      have ha := h a (by simp)
      simp only [List.filter_cons]
      cases hp : p a <;> cases hq : q a
      · simpa using ih'
      · simp; omega
      · rw [ha hp] at hq; cases hq
      · simp; omega
  intro l
  induction l with
  | nil => rintro _ ⟨x, hx, _⟩; simp at hx
  | cons a r ih =>
    rintro h ⟨x, hx, hqx, hpx⟩
    have h' := fun x hx => h x (List.mem_cons_of_mem a hx)
    have ha := h a (by simp)
    have hle := le r h'
    simp only [List.filter_cons]
    rcases List.mem_cons.1 hx with rfl | hx
    · rw [hqx, hpx]; simp; omega
    · have := ih h' ⟨x, hx, hqx, hpx⟩
      cases hp : p a <;> cases hq : q a
      · simpa using this
      · simp; omega
      · rw [ha hp] at hq; cases hq
      · simp; omega

/-- how many it leads to. -/
def rankM (M : Mx) (m i : Nat) : Nat := ((List.range m).filter (warsh M m i)).length

theorem rank_lt {M : Mx} {m i : Nat} (hc : warsh M m i i = false) (hi : i < m) : rankM M m i < m := by
  have h := filter_lt (p := warsh M m i) (q := fun _ => true) (List.range m) (fun _ _ _ => rfl) ⟨i, by simpa using hi, rfl, hc⟩
  have e : ((List.range m).filter fun _ => true).length = m := by rw [List.filter_eq_self.2 (fun _ _ => rfl), List.length_range]
  unfold rankM
  omega

theorem rank_less {M : Mx} {m i j : Nat} (hj : j < m) (hc : warsh M m j j = false) (h : M i j = true) : rankM M m j < rankM M m i := by
  have hij := warsh_up M i j h m
  exact filter_lt (List.range m) (fun x _ hx => warsh_trans M m j i x hj hij hx) ⟨j, by simpa using hj, hij, hc⟩

theorem firstC_none {ts : List Tk} {W : Mx} : ∀ (l : List Dl) (i : Nat), firstC ts W i l = none → ∀ k, k < l.length → W (i + k) (i + k) = false := by
  intro l
  induction l with
  | nil => intro i _ k hk; simp at hk
  | cons x r ih =>
    intro i h k hk
    unfold firstC at h
    cases hw : W i i with
    | true => rw [if_pos hw] at h; cases h
    | false =>
      rw [if_neg (by rw [hw]; decide)] at h
      cases k with
      | zero => exact hw
      | succ k => have := ih (i + 1) h k (by simpa using hk); rwa [show i + 1 + k = i + (k + 1) by omega] at this

/-- the rank of an equation of a text without a circle. -/
def rk (ts : List Tk) (L : List Dl) (i : Nat) : Nat := rankM (relR ts L) (eqL L).length i
theorem rk_lt {ts : List Tk} {L : List Dl} (h : cycR ts L = none) {i : Nat} (hi : i < (eqL L).length) : rk ts L i < (eqL L).length :=
  rank_lt (by have := firstC_none _ _ h i hi; rwa [Nat.zero_add] at this) hi
theorem rk_less {ts : List Tk} {L : List Dl} (h : cycR ts L = none) {i j : Nat} (hj : j < (eqL L).length) (hr : relR ts L i j = true) : rk ts L j < rk ts L i :=
  rank_less hj (by have := firstC_none _ _ h j hj; rwa [Nat.zero_add] at this) hr

end Go.Proofs.Ytmndgoapkmhglab

/- Plain mathematics: the streams of a text without a circle. -/
namespace Go.Proofs.Ytmndgoapkmhglab

def w64 (x : Int) : Int := Go.RowKit.wrap64 x
def b2i (b : Bool) : Int := if b then 1 else 0
/-- an operator. -/
def apF (o : List UInt8) (a b : Int) : Int :=
  if o = [43] then w64 (a + b) else if o = [45] then w64 (a - b) else if o = [42] then w64 (a * b)
  else if o = [47] then (if b = 0 then 0 else w64 (a.tdiv b)) else if o = [60] then b2i (decide (a < b)) else if o = [61] then b2i (decide (a = b))
  else if o = [38] then b2i (decide (a = 1) && decide (b = 1)) else b2i (decide (a = 1) || decide (b = 1))
def litV (t : Tk) : Int := if t.kind = 3 then (valOf t.l : Int) else b2i (decide (t.l = kTrue))

/-- the value of an expression at token i at the instant n, by the values of names. -/
def evT (ts : List Tk) (V : List UInt8 → Nat → Int) : Ast → Nat → Nat → Int
  | .leaf, i, n => if (tkAt ts i).kind = 1 then V (lAt ts i) n else litV (tkAt ts i)
  | .neg a, i, n => w64 (1 - evT ts V a (i + 2) n)
  | .ite a b c, i, n => if evT ts V a (i + 2) n = 1 then evT ts V b (i + 2 + a.len) n else evT ts V c (i + 2 + a.len + b.len) n
  | .dly _, i, 0 => litV (tkAt ts (i + 1))
  | .dly b, i, n + 1 => evT ts V b (i + 3) n
  | .bin a b, i, n => apF (lAt ts (i + 1 + a.len)) (evT ts V a (i + 1) n) (evT ts V b (i + 2 + a.len) n)

/-- where the names of an expression stand that are not behind a delay. -/
def und (ts : List Tk) : Ast → Nat → List Nat
  | .leaf, i => if (tkAt ts i).kind = 1 then [i] else []
  | .neg a, i => und ts a (i + 2)
  | .ite a b c, i => und ts a (i + 2) ++ (und ts b (i + 2 + a.len) ++ und ts c (i + 2 + a.len + b.len))
  | .dly _, _ => []
  | .bin a b, i => und ts a (i + 1) ++ und ts b (i + 2 + a.len)
/-- where its names stand. -/
def nms (ts : List Tk) : Ast → Nat → List Nat
  | .leaf, i => if (tkAt ts i).kind = 1 then [i] else []
  | .neg a, i => nms ts a (i + 2)
  | .ite a b c, i => nms ts a (i + 2) ++ (nms ts b (i + 2 + a.len) ++ nms ts c (i + 2 + a.len + b.len))
  | .dly b, i => nms ts b (i + 3)
  | .bin a b, i => nms ts a (i + 1) ++ nms ts b (i + 2 + a.len)

theorem und_nms (ts : List Tk) : ∀ (t : Ast) (i : Nat), ∀ j ∈ und ts t i, j ∈ nms ts t i := by
  intro t
  induction t with
  | leaf => intro i j h; exact h
  | neg a iha => intro i j h; exact iha _ j h
  | ite a b c iha ihb ihc =>
    intro i j h
    simp only [und, nms, List.mem_append] at *
    exact h.imp (iha _ j) (Or.imp (ihb _ j) (ihc _ j))
  | dly b ihb => intro i j h; simp [und] at h
  | bin a b iha ihb =>
    intro i j h
    simp only [und, nms, List.mem_append] at *
    exact h.imp (iha _ j) (ihb _ j)

theorem nms_nmD (ts : List Tk) : ∀ (t : Ast) (i : Nat) (dl : Bool), nms ts t i = (nmD ts t i dl).map Prod.fst := by
  intro t
  induction t with
  | leaf => intro i dl; simp only [nms, nmD]; split <;> rfl
  | neg a iha => intro i dl; exact iha _ dl
  | ite a b c iha ihb ihc => intro i dl; simp only [nms, nmD, List.map_append]; rw [iha _ dl, ihb _ dl, ihc _ dl]
  | dly b ihb => intro i dl; exact ihb _ true
  | bin a b iha ihb => intro i dl; simp only [nms, nmD, List.map_append]; rw [iha _ dl, ihb _ dl]

theorem und_nmD (ts : List Tk) : ∀ (t : Ast) (i : Nat), ∀ j ∈ und ts t i, (j, false) ∈ nmD ts t i false := by
  intro t
  induction t with
  | leaf => intro i j h; simp only [und, nmD] at *; split at h <;> simp_all
  | neg a iha => intro i j h; exact iha _ j h
  | ite a b c iha ihb ihc =>
    intro i j h
    simp only [und, nmD, List.mem_append] at *
    exact h.imp (iha _ j) (Or.imp (ihb _ j) (ihc _ j))
  | dly b ihb => intro i j h; simp [und] at h
  | bin a b iha ihb =>
    intro i j h
    simp only [und, nmD, List.mem_append] at *
    exact h.imp (iha _ j) (ihb _ j)

/-- the value hangs on the names alone: on those behind a delay at earlier instants. -/
theorem evT_congr (ts : List Tk) {V V' : List UInt8 → Nat → Int} : ∀ (t : Ast) (i n : Nat), (∀ j ∈ und ts t i, V (lAt ts j) n = V' (lAt ts j) n) → (∀ w n', n' < n → V w n' = V' w n') → evT ts V t i n = evT ts V' t i n := by
  intro t
  induction t with
  | leaf =>
    intro i n h _
    unfold evT
    by_cases hk : (tkAt ts i).kind = 1
    · rw [if_pos hk, if_pos hk]; exact h i (by unfold und; rw [if_pos hk]; simp)
    · rw [if_neg hk, if_neg hk]
  | neg a iha => intro i n h h2; simp only [evT]; rw [iha _ n h h2]
  | ite a b c iha ihb ihc =>
    intro i n h h2
    simp only [und, List.mem_append] at h
    simp only [evT]
    rw [iha _ n (fun j hj => h j (.inl hj)) h2, ihb _ n (fun j hj => h j (.inr (.inl hj))) h2, ihc _ n (fun j hj => h j (.inr (.inr hj))) h2]
  | dly b ihb =>
    intro i n h h2
    cases n with
    | zero => rfl
    | succ n => simp only [evT]; exact ihb _ n (fun j _ => h2 _ n (by omega)) (fun w n' hn => h2 w n' (by omega))
  | bin a b iha ihb =>
    intro i n h h2
    simp only [und, List.mem_append] at h
    simp only [evT]
    rw [iha _ n (fun j hj => h j (.inl hj)) h2, ihb _ n (fun j hj => h j (.inr hj)) h2]

/-- the same, as far as it is known. -/
def evR (ts : List Tk) (V : List UInt8 → Nat → Int × Bool) : Ast → Nat → Nat → Int × Bool
  | .leaf, i, n => if (tkAt ts i).kind = 1 then V (lAt ts i) n else (litV (tkAt ts i), true)
  | .neg a, i, n => (w64 (1 - (evR ts V a (i + 2) n).1), (evR ts V a (i + 2) n).2)
  | .ite a b c, i, n => (if (evR ts V a (i + 2) n).1 = 1 then (evR ts V b (i + 2 + a.len) n).1 else (evR ts V c (i + 2 + a.len + b.len) n).1, (evR ts V a (i + 2) n).2 && ((evR ts V b (i + 2 + a.len) n).2 && (evR ts V c (i + 2 + a.len + b.len) n).2))
  | .dly _, i, 0 => (litV (tkAt ts (i + 1)), true)
  | .dly b, i, n + 1 => evR ts V b (i + 3) n
  | .bin a b, i, n => (apF (lAt ts (i + 1 + a.len)) (evR ts V a (i + 1) n).1 (evR ts V b (i + 2 + a.len) n).1, (evR ts V a (i + 1) n).2 && (evR ts V b (i + 2 + a.len) n).2)

theorem evR_val (ts : List Tk) {V : List UInt8 → Nat → Int × Bool} {U : List UInt8 → Nat → Int} : ∀ (t : Ast) (i n : Nat), (∀ w n', n' ≤ n → (V w n').2 = true → (V w n').1 = U w n') → (evR ts V t i n).2 = true → (evR ts V t i n).1 = evT ts U t i n := by
  intro t
  induction t with
  | leaf =>
    intro i n h hk
    unfold evR evT at *
    split at hk
    · rename_i h1; rw [if_pos h1, if_pos h1]; exact h _ n (Nat.le_refl _) hk
    · rename_i h1; rw [if_neg h1, if_neg h1]
  | neg a iha => intro i n h hk; simp only [evR, evT] at *; rw [iha _ n h hk]
  | ite a b c iha ihb ihc =>
    intro i n h hk
    simp only [evR, evT, Bool.and_eq_true] at *
    rw [iha _ n h hk.1, ihb _ n h hk.2.1, ihc _ n h hk.2.2]
  | dly b ihb =>
    intro i n h hk
    cases n with
    | zero => rfl
    | succ n => simp only [evR, evT] at *; exact ihb _ n (fun w n' hn => h w n' (by omega)) hk
  | bin a b iha ihb =>
    intro i n h hk
    simp only [evR, evT, Bool.and_eq_true] at *
    rw [iha _ n h hk.1, ihb _ n h hk.2]

theorem evR_known (ts : List Tk) {V : List UInt8 → Nat → Int × Bool} : ∀ (t : Ast) (i n : Nat), (∀ j ∈ und ts t i, (V (lAt ts j) n).2 = true) → (∀ j ∈ nms ts t i, ∀ n', n' < n → (V (lAt ts j) n').2 = true) → (evR ts V t i n).2 = true := by
  intro t
  induction t with
  | leaf =>
    intro i n h _
    unfold evR
    by_cases hk : (tkAt ts i).kind = 1
    · rw [if_pos hk]; exact h i (by unfold und; rw [if_pos hk]; simp)
    · rw [if_neg hk]
  | neg a iha => intro i n h h2; simp only [evR]; exact iha _ n h h2
  | ite a b c iha ihb ihc =>
    intro i n h h2
    simp only [und, nms, List.mem_append] at h h2
    simp only [evR, Bool.and_eq_true]
    exact ⟨iha _ n (fun j hj => h j (.inl hj)) (fun j hj => h2 j (.inl hj)), ihb _ n (fun j hj => h j (.inr (.inl hj))) (fun j hj => h2 j (.inr (.inl hj))), ihc _ n (fun j hj => h j (.inr (.inr hj))) (fun j hj => h2 j (.inr (.inr hj)))⟩
  | dly b ihb =>
    intro i n h h2
    cases n with
    | zero => rfl
    | succ n => simp only [evR]; exact ihb _ n (fun j hj => h2 j (und_nms ts b _ j hj) n (by omega)) (fun j hj n' hn => h2 j hj n' (by omega))
  | bin a b iha ihb =>
    intro i n h h2
    simp only [und, nms, List.mem_append] at h h2
    simp only [evR, Bool.and_eq_true]
    exact ⟨iha _ n (fun j hj => h j (.inl hj)) (fun j hj => h2 j (.inl hj)), ihb _ n (fun j hj => h j (.inr hj)) (fun j hj => h2 j (.inr hj))⟩

def nmIs (ts : List Tk) (w : List UInt8) (x : Dl) : Bool := (nameD ts x).data.toList == w
def inIx (ts : List Tk) (L : List Dl) (w : List UInt8) : Option Nat := (inL L).findIdx? (nmIs ts w)
def eqIx (ts : List Tk) (L : List Dl) (w : List UInt8) : Option Nat := (eqL L).findIdx? (nmIs ts w)
def elemF (ins : List (List Int)) (i k : Nat) : Int := (ins.getD i []).getD k 0
/-- the value of a name, by the rows of the equations. -/
def valV (ts : List Tk) (L : List Dl) (ins : List (List Int)) (R : Nat → Nat → Int) (w : List UInt8) (n : Nat) : Int :=
  match inIx ts L w with
  | some i => elemF ins i n
  | none => match eqIx ts L w with
    | some j => R j n
    | none => 0
def bodyV (ts : List Tk) (E : List Dl) (V : List UInt8 → Nat → Int) (j n : Nat) : Int :=
  match E[j]? with
  | some x => evT ts V x.t (x.i + 5) n
  | none => 0
def solF (ts : List Tk) (L : List Dl) (ins : List (List Int)) : Nat → Nat → Nat → Int
  | 0, _, _ => 0
  | f + 1, j, n => bodyV ts (eqL L) (valV ts L ins (solF ts L ins f)) j n
/-- THE STREAMS: the value of equation j at the instant n. -/
def sol (ts : List Tk) (L : List Dl) (ins : List (List Int)) (j n : Nat) : Int := solF ts L ins (n * ((eqL L).length + 1) + (eqL L).length + 1) j n

theorem valV_congr {ts : List Tk} {L : List Dl} {ins : List (List Int)} {R R' : Nat → Nat → Int} {w : List UInt8} {n : Nat} (h : ∀ j, eqIx ts L w = some j → R j n = R' j n) : valV ts L ins R w n = valV ts L ins R' w n := by
  unfold valV
  cases inIx ts L w with
  | some i => rfl
  | none =>
    cases he : eqIx ts L w with
    | none => rfl
    | some j => exact h j he

theorem eqIx_some {ts : List Tk} {L : List Dl} {w : List UInt8} {j : Nat} (h : eqIx ts L w = some j) : ∃ x, (eqL L)[j]? = some x ∧ (nameD ts x).data.toList = w := by
  obtain ⟨hj, hp, _⟩ := List.findIdx?_eq_some_iff_getElem.1 h
  exact ⟨(eqL L)[j], List.getElem?_eq_getElem hj, by simpa [nmIs] using hp⟩

theorem rel_und {ts : List Tk} (hF : ∀ i, TkF (tkAt ts i)) {L : List Dl} {i l j : Nat} {x : Dl} (hx : (eqL L)[i]? = some x) (hs : Sp ts x.t (x.i + 5)) (hl : x.i + 5 + x.t.len ≤ ts.length) (hj : j ∈ und ts x.t (x.i + 5)) (he : eqIx ts L (lAt ts j) = some l) : relR ts L i l = true := by
  obtain ⟨z, hz, hn⟩ := eqIx_some he
  unfold relR
  rw [hx, hz]
  show hangsR ts x (nameD ts z).data.toList = true
  rw [hangs_nm hF x hs hl, List.any_eq_true]
  exact ⟨(j, false), und_nmD ts _ _ j hj, by simp [hn]⟩

/-- what is known of the text's equations. -/
structure Eqs (ts : List Tk) (L : List Dl) : Prop where
  F : ∀ i, TkF (tkAt ts i)
  sp : ∀ x ∈ eqL L, Sp ts x.t (x.i + 5) ∧ x.i + 5 + x.t.len ≤ ts.length
  cyc : cycR ts L = none

section
variable {ts : List Tk} {L : List Dl} {ins : List (List Int)} (H : Eqs ts L)
include H

theorem sol_stable : ∀ m f f' j n, j < (eqL L).length → n * ((eqL L).length + 1) + rk ts L j ≤ m → m < f → m < f' → solF ts L ins f j n = solF ts L ins f' j n := by
  intro m
  induction m using Nat.strongRecOn with
  | ind m ih =>
    intro f f' j n hj hm hf hf'
    obtain ⟨f, rfl⟩ : ∃ g, f = g + 1 := ⟨f - 1, by omega⟩
    obtain ⟨f', rfl⟩ : ∃ g, f' = g + 1 := ⟨f' - 1, by omega⟩
    have hx : (eqL L)[j]? = some (eqL L)[j] := List.getElem?_eq_getElem hj
    obtain ⟨hs, hl⟩ := H.sp (eqL L)[j] (List.getElem_mem hj)
    simp only [solF, bodyV, hx]
    refine evT_congr ts _ _ _ (fun k hk => valV_congr fun l hl' => ?_) (fun w n' hn => valV_congr fun l hl' => ?_)
    · have hr := rel_und H.F hx hs hl hk hl'
      obtain ⟨z, hz, _⟩ := eqIx_some hl'
      have hlt : l < (eqL L).length := (List.getElem?_eq_some_iff.1 hz).1
      have hrk := rk_less H.cyc hlt hr
      exact ih (n * ((eqL L).length + 1) + rk ts L l) (by omega) f f' l n hlt (Nat.le_refl _) (by omega) (by omega)
    · obtain ⟨z, hz, _⟩ := eqIx_some hl'
      have hlt : l < (eqL L).length := (List.getElem?_eq_some_iff.1 hz).1
      have hrk := rk_lt H.cyc hlt
      have hmul : (n' + 1) * ((eqL L).length + 1) ≤ n * ((eqL L).length + 1) := Nat.mul_le_mul_right _ (by omega)
      rw [Nat.succ_mul] at hmul
      exact ih (n' * ((eqL L).length + 1) + rk ts L l) (by omega) f f' l n' hlt (Nat.le_refl _) (by omega) (by omega)

/-- the streams keep to their equations. -/
theorem sol_eq (j n : Nat) (hj : j < (eqL L).length) : sol ts L ins j n = evT ts (valV ts L ins (sol ts L ins)) (eqL L)[j].t ((eqL L)[j].i + 5) n := by
  have hx : (eqL L)[j]? = some (eqL L)[j] := List.getElem?_eq_getElem hj
  obtain ⟨hs, hl⟩ := H.sp (eqL L)[j] (List.getElem_mem hj)
  have hjr := rk_lt H.cyc hj
  show bodyV ts (eqL L) (valV ts L ins (solF ts L ins (n * ((eqL L).length + 1) + (eqL L).length))) j n = _
  simp only [bodyV, hx]
  refine evT_congr ts _ _ _ (fun k hk => valV_congr fun l hl' => ?_) (fun w n' hn => valV_congr fun l hl' => ?_)
  · have hr := rel_und H.F hx hs hl hk hl'
    obtain ⟨z, hz, _⟩ := eqIx_some hl'
    have hlt : l < (eqL L).length := (List.getElem?_eq_some_iff.1 hz).1
    have hrk := rk_less H.cyc hlt hr
    exact sol_stable H (n * ((eqL L).length + 1) + rk ts L l) _ _ l n hlt (Nat.le_refl _) (by omega) (by omega)
  · obtain ⟨z, hz, _⟩ := eqIx_some hl'
    have hlt : l < (eqL L).length := (List.getElem?_eq_some_iff.1 hz).1
    have hrk := rk_lt H.cyc hlt
    have hmul : (n' + 1) * ((eqL L).length + 1) ≤ n * ((eqL L).length + 1) := Nat.mul_le_mul_right _ (by omega)
    rw [Nat.succ_mul] at hmul
    exact sol_stable H (n' * ((eqL L).length + 1) + rk ts L l) _ _ l n' hlt (Nat.le_refl _) (by omega) (by omega)

end
end Go.Proofs.Ytmndgoapkmhglab

namespace Go.Proofs.Ytmndgoapkmhglab
open Go.RowKit
attribute [local go_sem ↓] Go.wp_at_zero Go.wp_at_succ

/-- which of m things a raw number speaks of. -/
def pickN (c : Int) (m : Nat) : Nat := (if c < 0 then -(c + 1) else c).toNat % m
theorem pickN_lt (c : Int) {m : Nat} (h : 0 < m) : pickN c m < m := Nat.mod_lt _ h

theorem i64_wrap (x : Int) (h : -9223372036854775808 ≤ x) (h2 : x ≤ 9223372036854775807) : IntKind.i64.wrap x = x := by
  rw [IntKind.wrap_i64]
  omega

set_option maxHeartbeats 1000000 in
theorem pick_any (c : Int) (m : Nat) (w : World) (hc : -9223372036854775808 ≤ c) (hc' : c ≤ 9223372036854775807) (hm : 0 < m) (hm' : m ≤ 1000001) :
    Calls Try.prog 18 #[.int .i64 c, .int .i64 (m : Int)] w fun e w' => e = .returned (.int .i64 (pickN c m : Nat)) ∧ w = w' := by
  have hm0 : ((m : Int) == 0) = false := by rw [beq_eq_false_iff_ne]; omega
  have hm1 : (m : Int) ≠ 0 := by omega
  by_cases h : c < 0
  · have HP : Hid (((pickN c m : Nat) : Int) = (-(c + 1)) % (m : Int)) := hide (by
      unfold pickN; rw [if_pos h, Int.natCast_emod, Int.toNat_of_nonneg (by omega)])
    have e1 : IntKind.i64.wrap (c + 1) = c + 1 := i64_wrap _ (by omega) (by omega)
    have e2 : IntKind.i64.wrap (-(c + 1)) = -(c + 1) := i64_wrap _ (by omega) (by omega)
    go_enter Try.func18, Try.ntmps18
    go_wp2
    go_ret
    exact ⟨by rw [HP.out, ← Int.tmod_eq_emod_of_nonneg (by omega), Int.neg_tmod]; rfl, rfl⟩
  · have HP : Hid (((pickN c m : Nat) : Int) = c % (m : Int)) := hide (by
      unfold pickN; rw [if_neg h, Int.natCast_emod, Int.toNat_of_nonneg (by omega)])
    go_enter Try.func18, Try.ntmps18
    go_wp2
    go_ret
    exact ⟨by rw [HP.out]; rfl, rfl⟩

end Go.Proofs.Ytmndgoapkmhglab

/- Plain mathematics: a right text laid out is the same text. -/
namespace Go.Proofs.Ytmndgoapkmhglab

/-- the tokens of a right text, one by one. -/
theorem right_tok (s : ByteArray) (hs : s.size ≤ 1500) (h : (textF s).1 = 0) (i : Nat) (hi : i < (tk 0 s.data.toList).length) :
    (tkAt (toks s) i).kind = 1 ∨ (tkAt (toks s) i).kind = 3 ∨ kwL.contains (tkAt (toks s) i).l = true := by
  obtain ⟨p, hp⟩ := text_ok hs h
  obtain ⟨h1, h2, _⟩ := end_at s hs p hp
  by_cases k1 : (tkAt (toks s) i).kind = 1
  · exact .inl k1
  by_cases k3 : (tkAt (toks s) i).kind = 3
  · exact .inr (.inl k3)
  by_cases kw : kwL.contains (tkAt (toks s) i).l = true
  · exact .inr (.inr kw)
  exfalso
  have hlt : i < (toks s).length := by rw [toks_list]; simp; omega
  have hc : CutTs i (toks s) (toks s) := ⟨toks_ok s hs, hlt, hlt, fun _ _ => rfl, k1, k3, by simpa using kw⟩
  have hk0 : (tkAt (toks s) i).kind ≠ 0 := by
    rw [toks_list, tkAt_left hi]
    exact (tk_kind _ _ _ rfl _ (tkAt_mem hi)).1
  have he := declsC hc (.inl hk0) _ (toks s).length _ _ (Nat.zero_le _) (by simp) hp h2 (by rw [h1]; omega)
  have hp' : declsF (toks s) (toks s).length pZero = .ok p := hp
  rw [hp'] at he
  cases he

/-- the two ways to lay out are one. -/
theorem outN_list (A : List Tk) (e : Tk) (he : bareL e = []) (hel : e.l = []) : ∀ m j, A.length - j = m → 1 ≤ j → j ≤ A.length → outN (A ++ [e]) (A.length + 1) = outN (A ++ [e]) j ++ outG (tkAt (A ++ [e]) (j - 1)).l (A.drop j) := by
  intro m
  induction m with
  | zero =>
    intro j hm h1 hj
    have : j = A.length := by omega
    subst this
    rw [outN, pieceL, if_neg (by omega), tkAt_mid, he, hel, List.append_nil, List.drop_length]
    rfl
  | succ m ih =>
    intro j hm h1 hj
    have hlt : j < A.length := by omega
    rw [ih (j + 1) (by omega) (by omega) (by omega), outN, pieceL, if_neg (by omega), List.drop_eq_getElem_cons hlt, outG]
    have e1 : tkAt (A ++ [e]) j = A[j]'hlt := by rw [tkAt_left hlt]; unfold tkAt; rw [List.getD_eq_getElem?_getD, List.getElem?_eq_getElem hlt]; rfl
    rw [show j + 1 - 1 = j by omega, e1]
    simp only [List.append_assoc]

theorem outF_list (s : ByteArray) : (outF s).data.toList = outL (tk 0 s.data.toList) := by
  show outN (toks s) (toks s).length = _
  rw [toks_list]
  have hl : (tk 0 s.data.toList ++ [(⟨0, s.size, ⟨#[]⟩⟩ : Tk)]).length = (tk 0 s.data.toList).length + 1 := by simp
  rw [hl]
  generalize hA : tk 0 s.data.toList = A
  cases A with
  | nil => rfl
  | cons t r =>
    rw [outN_list (t :: r) ⟨0, s.size, ⟨#[]⟩⟩ rfl rfl _ 1 rfl (Nat.le_refl _) (by simp)]
    rfl

theorem out_toks (s : ByteArray) : All2 OutR (toks s) (toks (outF s)) := by
  rw [toks_list (outF s), outF_list, toks_list s]
  exact All2.app (outL_tk _ (fun u hu => tk_fine _ _ _ rfl u hu) 0) ⟨⟨rfl, rfl⟩, trivial⟩

theorem text_of_l {t u : Tk} (h : u.l = t.l) : u.text = t.text := ba_ext h

theorem out_at (s : ByteArray) (i : Nat) : OutR (tkAt (toks s) i) (tkAt (toks (outF s)) i) := All2.getD (R := OutR) ⟨rfl, rfl⟩ i (out_toks s)

theorem out_tsR (s : ByteArray) : TsR (fun _ _ => True) (toks s) (toks (outF s)) := by
  refine ⟨(out_toks s).len, fun i => ?_⟩
  obtain ⟨h1, h2⟩ := out_at s i
  have hd := (toks_dig s).all i
  refine ⟨h1, trivial, fun hk => ?_, fun hk => ?_, fun hk => ?_⟩
  · rw [h2]; unfold bareL; rw [if_pos hk]; exact trim_val _
  · have := (hd hk).2
    refine ⟨this, ?_⟩
    rw [h2]; unfold bareL; rw [if_pos hk]
    intro c hc
    exact this c (trim_mem _ c hc)
  · apply text_of_l
    rw [h2]; unfold bareL; rw [if_neg hk]

theorem out_text (s : ByteArray) (hs : s.size ≤ 1500) (hs' : (outF s).size ≤ 1500) : (textF (outF s)).1 = (textF s).1 :=
  (textR (P := fun _ _ => True) trivial s (outF s) hs hs' (out_tsR s)).1

theorem out_out (s : ByteArray) : outF (outF s) = outF s := by
  have h := out_toks s
  have hp : ∀ j, pieceL (toks (outF s)) j = pieceL (toks s) j := by
    intro j
    have t1 := (out_tsR s).at' j
    have t2 := (out_tsR s).at' (j - 1)
    obtain ⟨a1, a2⟩ := out_at s j
    have hb : bareL (tkAt (toks (outF s)) j) = bareL (tkAt (toks s) j) := by
      have e : ∀ t u : Tk, OutR t u → bareL u = bareL t := by
        intro t u ⟨h1, h2⟩
        unfold bareL at h2 ⊢
        rw [h1, h2]
        by_cases hk : t.kind = 3
        · simp only [hk, if_true]; exact trim_trim _
        · simp only [hk, if_false]
      exact e _ _ ⟨a1, a2⟩
    unfold pieceL gapL
    rw [hb]
    simp only [t2.same (l := [59]) (by decide), t2.same (l := [40]) (by decide), t1.same (l := [41]) (by decide), t1.same (l := [59]) (by decide)]
  have ho : ∀ n, outN (toks (outF s)) n = outN (toks s) n := by
    intro n
    induction n with
    | zero => rfl
    | succ n ih => unfold outN; rw [ih, hp]
  have e : outF (outF s) = ⟨(outN (toks (outF s)) (toks (outF s)).length).toArray⟩ := rfl
  rw [e, h.len, ho]
  rfl

/- without blanks and noughts in front -/
def digU (c : UInt8) : Bool := decide (48 ≤ c.toNat) && decide (c.toNat ≤ 57)
def blankU (c : UInt8) : Bool := decide (c.toNat = 32) || decide (c.toNat = 10)
def moreU : List UInt8 → Bool
  | [] => false
  | c :: _ => digU c
def bareR : Bool → List UInt8 → List UInt8
  | _, [] => []
  | b, c :: r => if blankU c then bareR (b && digU c) r else if decide (c.toNat = 48) && !(b && digU c) && moreU r then bareR (b && digU c) r else c :: bareR (digU c) r

theorem dig_cls (c : UInt8) : digU c = true ↔ cls c.toNat = 2 := by
  constructor
  · intro h
    unfold digU at h
    simp at h
    exact cls_2 h.1 h.2
  · intro h
    have := cls_two h
    unfold digU; simp; exact this
theorem blank_cls (c : UInt8) : blankU c = true ↔ cls c.toNat = 0 := by
  unfold blankU cls
  constructor
  · intro h; simp at h; rw [if_pos h]
  · intro h
    split at h
    · rename_i h1; simp; exact h1
    split at h
    · cases h
    split at h
    · cases h
    split at h <;> cases h
theorem dig_no {c : UInt8} (h : cls c.toNat ≠ 2) : digU c = false := by
  cases hd : digU c
  · rfl
  · exact absurd ((dig_cls c).1 hd) h
theorem blank_no {c : UInt8} (h : cls c.toNat ≠ 0) : blankU c = false := by
  cases hd : blankU c
  · rfl
  · exact absurd ((blank_cls c).1 hd) h
theorem nought_no {c : UInt8} (h : cls c.toNat ≠ 2) : decide (c.toNat = 48) = false := by
  simp only [decide_eq_false_iff_not]
  intro e; rw [e] at h; exact h (by decide)

theorem bareR_reset {b : Bool} {rest : List UInt8} (h : Stops 2 rest) : bareR b rest = bareR false rest := by
  cases rest with
  | nil => rfl
  | cons c r =>
    have hd : digU c = false := dig_no (fun e => by have := h c rfl; unfold W at this; rw [e] at this; cases this)
    unfold bareR
    rw [hd, Bool.and_false, Bool.and_false]
theorem bareR_other {b : Bool} {c : UInt8} {r : List UInt8} (h0 : cls c.toNat ≠ 0) (h2 : cls c.toNat ≠ 2) : bareR b (c :: r) = c :: bareR false r := by
  rw [bareR, blank_no h0, nought_no h2, dig_no h2]
  rfl
theorem bareR_word {cl : Nat} (h0 : cl ≠ 0) (h2 : cl ≠ 2) : ∀ (w rest : List UInt8) (b : Bool), w ≠ [] → (∀ c ∈ w, W cl c = true) → bareR b (w ++ rest) = w ++ bareR false rest := by
  intro w
  induction w with
  | nil => intro rest b h _; exact absurd rfl h
  | cons c w ih =>
    intro rest b _ hw
    have hc := W_cls (hw c (List.mem_cons_self ..))
    rw [List.cons_append, bareR_other (by rw [hc]; exact h0) (by rw [hc]; exact h2)]
    cases w with
    | nil => rfl
    | cons d w => rw [ih rest false (by simp) (fun x hx => hw x (List.mem_cons_of_mem _ hx))]; rfl
theorem bareR_keep : ∀ (w rest : List UInt8), (∀ c ∈ w, W 2 c = true) → bareR true (w ++ rest) = w ++ bareR true rest := by
  intro w
  induction w with
  | nil => intro rest _; rfl
  | cons c w ih =>
    intro rest hw
    have hc := W_cls (hw c (List.mem_cons_self ..))
    have hd : digU c = true := (dig_cls c).2 hc
    rw [List.cons_append, bareR, blank_no (by rw [hc]; decide), hd]
    simp only [Bool.and_self, Bool.not_true, Bool.and_false, Bool.false_eq_true, if_false]
    rw [ih rest (fun x hx => hw x (List.mem_cons_of_mem _ hx))]
    rfl
theorem bareR_num : ∀ (w rest : List UInt8), w ≠ [] → (∀ c ∈ w, W 2 c = true) → Stops 2 rest → bareR false (w ++ rest) = trimL w ++ bareR false rest := by
  intro w
  induction w with
  | nil => intro rest h; exact absurd rfl h
  | cons c w ih =>
    intro rest _ hw hr
    have hc := W_cls (hw c (List.mem_cons_self ..))
    have hd : digU c = true := (dig_cls c).2 hc
    have hw' : ∀ x ∈ w, W 2 x = true := fun x hx => hw x (List.mem_cons_of_mem _ hx)
    rw [List.cons_append, bareR, blank_no (by rw [hc]; decide), hd]
    simp only [Bool.not_false, Bool.and_true, Bool.false_eq_true, if_false]
    cases w with
    | nil =>
      have hm : moreU rest = false := by
        cases rest with
        | nil => rfl
        | cons d r => exact dig_no (fun e => by have := hr d rfl; unfold W at this; rw [e] at this; cases this)
      rw [List.nil_append, hm, Bool.and_false]
      simp only [Bool.false_eq_true, if_false]
      rw [bareR_reset hr]
      rfl
    | cons d w =>
      have hm : moreU (d :: w ++ rest) = true := (dig_cls d).2 (W_cls (hw' d (List.mem_cons_self ..)))
      rw [hm, Bool.and_true]
      by_cases h48 : c.toNat = 48
      · have hc48 : c = 48 := UInt8.toNat_inj.1 (by rw [h48]; rfl)
        rw [if_pos (by simpa using h48), ih rest (by simp) hw' hr]
        conv => rhs; rw [trimL, if_pos hc48]
      · have hc48 : c ≠ 48 := fun e => h48 (by rw [e]; rfl)
        rw [if_neg (by simpa using h48), bareR_keep _ _ hw', bareR_reset hr]
        conv => rhs; rw [trimL, if_neg hc48]
        rfl

theorem dw_head (p : UInt8 → Bool) : ∀ (r : List UInt8) (d : UInt8), (r.dropWhile p).head? = some d → p d = false := by
  intro r
  induction r with
  | nil => intro d h; simp at h
  | cons c r ih =>
    intro d h
    rw [List.dropWhile_cons] at h
    split at h
    · exact ih d h
    · rename_i hc
      simp at h
      subst h
      simpa using hc

def bareC (t : Tk) : List UInt8 := if moreU t.l then trimL t.l else t.l

theorem bareR_tk : ∀ n k (l : List UInt8), l.length = n → bareR false l = (tk k l).flatMap bareC := by
  intro n
  induction n using Nat.strongRecOn with
  | _ n ih =>
    intro k l hn
    cases l with
    | nil => rfl
    | cons c r =>
      simp only [List.length_cons] at hn
      by_cases h0 : cls c.toNat = 0
      · rw [tk_blank h0, bareR, (blank_cls c).2 h0, Bool.false_and]
        simp only [if_true]
        exact ih r.length (by omega) (k + 1) r rfl
      · have hl := take_drop_len (W (cls c.toNat)) r
        by_cases h12 : cls c.toNat = 1 ∨ cls c.toNat = 2
        · have hsp : c :: r = (c :: r.takeWhile (W (cls c.toNat))) ++ r.dropWhile (W (cls c.toNat)) := by rw [List.cons_append, List.takeWhile_append_dropWhile]
          have hall : ∀ d ∈ c :: r.takeWhile (W (cls c.toNat)), W (cls c.toNat) d = true := by
            intro d hd
            rcases List.mem_cons.1 hd with rfl | hd
            · exact W_self d
            · exact tw_all _ r d hd
          have hst : Stops (cls c.toNat) (r.dropWhile (W (cls c.toNat))) := by
            intro d hd
            exact dw_head _ r d hd
          rw [tk_word h12, List.flatMap_cons]
          have hrest := ih (r.dropWhile (W (cls c.toNat))).length (by omega) (k + 1 + (r.takeWhile (W (cls c.toNat))).length) _ rfl
          rw [← hrest]
          have htl : (tokW k (c :: r.takeWhile (W (cls c.toNat))) (cls c.toNat)).l = c :: r.takeWhile (W (cls c.toNat)) := by simp [tokW, Tk.l]
          unfold bareC
          rw [htl]
          rcases h12 with h1 | h2
          · have hm : moreU (c :: r.takeWhile (W (cls c.toNat))) = false := dig_no (by rw [h1]; decide)
            rw [hm]
            simp only [Bool.false_eq_true, if_false]
            conv => lhs; rw [hsp]
            exact bareR_word (cl := cls c.toNat) (by omega) (by omega) _ _ _ (by simp) hall
          · have hm : moreU (c :: r.takeWhile (W (cls c.toNat))) = true := (dig_cls c).2 h2
            rw [hm]
            simp only [if_true]
            conv => lhs; rw [hsp]
            rw [h2] at hall hst ⊢
            exact bareR_num _ _ (by simp) hall hst
        · rw [tk_one (by omega), bareR_other h0 (by omega), List.flatMap_cons]
          rw [ih r.length (by omega) (k + 1) r rfl]
          have htl : (tokW k [c] (cls c.toNat)).l = [c] := by simp [tokW, Tk.l]
          unfold bareC
          rw [htl, show moreU [c] = false from dig_no (by omega)]
          rfl
theorem all2_flat {R : Tk → Tk → Prop} {f g : Tk → List UInt8} (h : ∀ t u, R t u → g u = f t) : ∀ {l m : List Tk}, All2 R l m → m.flatMap g = l.flatMap f := by
  intro l
  induction l with
  | nil => intro m hm; cases m with
    | nil => rfl
    | cons b m => exact hm.elim
  | cons a l ih => intro m hm; cases m with
    | nil => exact hm.elim
    | cons b m => rw [List.flatMap_cons, List.flatMap_cons, h a b hm.1, ih hm.2]

theorem out_bare (s : ByteArray) (hs : s.size ≤ 1500) (h : (textF s).1 = 0) : bareR false (outF s).data.toList = bareR false s.data.toList := by
  rw [bareR_tk _ 0 _ rfl, bareR_tk _ 0 _ rfl, outF_list]
  have hA := outL_tk (tk 0 s.data.toList) (fun u hu => tk_fine _ _ _ rfl u hu) 0
  have hright : ∀ t ∈ tk 0 s.data.toList, (t.kind = 3 → ∀ c ∈ t.l, W 2 c = true) ∧ (t.kind = 3 → t.l ≠ []) ∧ (t.kind ≠ 3 → moreU t.l = false) := by
    intro t ht
    have hf := tk_fine _ _ _ rfl t ht
    obtain ⟨i, hi, rfl⟩ := List.getElem_of_mem ht
    have hr := right_tok s hs h i hi
    have e1 : tkAt (toks s) i = (tk 0 s.data.toList)[i]'hi := by
      rw [toks_list, tkAt_left hi]; unfold tkAt; rw [List.getD_eq_getElem?_getD, List.getElem?_eq_getElem hi]; rfl
    rw [e1] at hr
    generalize (tk 0 s.data.toList)[i]'hi = t at hf hr
    rcases hf with ⟨cl, hcl, hne, hal, hk⟩ | ⟨c, hl, hc, hk⟩
    · refine ⟨fun h3 => ?_, fun _ => hne, fun h3 => ?_⟩
      · obtain ⟨rfl, _⟩ := kind3_cls (hk ▸ h3)
        exact hal
      · rcases hcl with rfl | rfl
        · cases hl : t.l with
          | nil => rfl
          | cons c r => exact dig_no (by rw [W_cls (hal c (by rw [hl]; simp))]; decide)
        · exfalso
          rcases hr with hr | hr | hr
          · rw [hk] at hr; unfold kindK numK at hr; rw [if_neg (by decide), if_pos rfl] at hr; split at hr <;> cases hr
          · exact h3 hr
          · have hw : ∀ l : List UInt8, kwL.contains l = true → ∃ c ∈ l, W 2 c = false := by
              intro l hl
              have hm : l ∈ kwL := by simpa using hl
              have : ∀ m ∈ kwL, m.any (fun c => !W 2 c) = true := by decide
              have := this l hm
              rw [List.any_eq_true] at this
              obtain ⟨c, hc, hd⟩ := this
              exact ⟨c, hc, by simpa using hd⟩
            obtain ⟨c, hc, hd⟩ := hw _ hr
            rw [hal c hc] at hd
            cases hd
    · refine ⟨fun h3 => ?_, fun _ => by rw [hl]; simp, fun _ => by rw [hl]; exact dig_no (by omega)⟩
      have := (kind3_cls (hk ▸ h3)).1
      omega
  have hB : All2 (fun t u => OutR t u ∧ (t.kind = 3 → ∀ c ∈ t.l, W 2 c = true) ∧ (t.kind = 3 → t.l ≠ []) ∧ (t.kind ≠ 3 → moreU t.l = false)) (tk 0 s.data.toList) (tk 0 (outL (tk 0 s.data.toList))) := by
    have : ∀ (l m : List Tk), All2 OutR l m → (∀ t ∈ l, (t.kind = 3 → ∀ c ∈ t.l, W 2 c = true) ∧ (t.kind = 3 → t.l ≠ []) ∧ (t.kind ≠ 3 → moreU t.l = false)) → All2 (fun t u => OutR t u ∧ (t.kind = 3 → ∀ c ∈ t.l, W 2 c = true) ∧ (t.kind = 3 → t.l ≠ []) ∧ (t.kind ≠ 3 → moreU t.l = false)) l m := by
      intro l
      induction l with
      | nil => intro m hm _; cases m with
        | nil => exact trivial
        | cons b m => exact hm.elim
      | cons a l ih => intro m hm hr; cases m with
        | nil => exact hm.elim
        | cons b m => exact ⟨⟨hm.1, hr a (List.mem_cons_self ..)⟩, ih m hm.2 (fun t ht => hr t (List.mem_cons_of_mem _ ht))⟩
    exact this _ _ hA hright
  refine all2_flat ?_ hB
  intro t u ⟨⟨h1, h2⟩, h3, h3', h4⟩
  unfold bareC
  by_cases hk : t.kind = 3
  · have e : u.l = trimL t.l := by rw [h2]; unfold bareL; rw [if_pos hk]
    have m1 : ∀ l : List UInt8, l ≠ [] → (∀ c ∈ l, W 2 c = true) → moreU l = true := by
      intro l hl ha
      cases l with
      | nil => exact absurd rfl hl
      | cons c r => exact (dig_cls c).2 (W_cls (ha c (List.mem_cons_self ..)))
    rw [e, m1 _ (trim_ne (h3' hk)) (fun c hc => h3 hk c (trim_mem _ c hc)), m1 _ (h3' hk) (h3 hk)]
    simp only [if_true]
    exact trim_trim _
  · have e : u.l = t.l := by rw [h2]; unfold bareL; rw [if_neg hk]
    rw [e]

end Go.Proofs.Ytmndgoapkmhglab

/- Plain mathematics: a number's own digits are those that stand there, but for noughts ahead; and the two ways to lay a text out are one. -/
namespace Go.Proofs.Ytmndgoapkmhglab

theorem valOf_snoc (l : List UInt8) (d : UInt8) : valOf (l ++ [d]) = valOf l * 10 + (d.toNat - 48) := by
  unfold valOf; rw [List.foldl_append]; rfl

theorem valOf_pos : ∀ (l : List UInt8), (∀ c ∈ l, 48 ≤ c.toNat ∧ c.toNat ≤ 57) → (∃ c r, l = c :: r ∧ c ≠ 48) → 1 ≤ valOf l := by
  have key : ∀ (n : Nat) (l : List UInt8), l.length = n → (∀ c ∈ l, 48 ≤ c.toNat ∧ c.toNat ≤ 57) → (∃ c r, l = c :: r ∧ c ≠ 48) → 1 ≤ valOf l := by
    intro n
    induction n with
    | zero => rintro l hl _ ⟨c, r, rfl, _⟩; simp at hl
    | succ n ih =>
      rintro l hl hd ⟨c, r, rfl, hc⟩
      rcases List.eq_nil_or_concat r with rfl | ⟨r', d, rfl⟩
      · have h1 := hd c (by simp)
        have h2 : c.toNat ≠ 48 := fun e => hc (UInt8.toNat_inj.1 e)
        simp only [valOf, List.foldl_cons, List.foldl_nil]
        omega
      · have e : c :: (r' ++ [d]) = (c :: r') ++ [d] := rfl
        have := ih (c :: r') (by simp at hl ⊢; omega) (fun x hx => hd x (by rw [List.concat_eq_append, e]; exact List.mem_append_left _ hx)) ⟨c, r', rfl, hc⟩
        rw [List.concat_eq_append, e, valOf_snoc]
        omega
  exact fun l => key l.length l rfl

theorem dec_val : ∀ (n : Nat) (l : List UInt8), l.length = n → l ≠ [] → (∀ c ∈ l, 48 ≤ c.toNat ∧ c.toNat ≤ 57) → (l.length = 1 ∨ ∃ c r, l = c :: r ∧ c ≠ 48) → Lib.decDigits (valOf l) = l := by
  intro n
  induction n with
  | zero => intro l hl hne; exact absurd (List.eq_nil_of_length_eq_zero hl) hne
  | succ n ih =>
    intro l hl hne hd hh
    rcases List.eq_nil_or_concat l with rfl | ⟨r, d, rfl⟩
    · exact absurd rfl hne
    rw [List.concat_eq_append] at *
    have hdd := hd d (by simp)
    have hof : UInt8.ofNat (48 + (d.toNat - 48)) = d := by
      rw [show 48 + (d.toNat - 48) = d.toNat by omega]; simp
    rcases hr : r with _ | ⟨c, r'⟩
    · subst hr
      have hv : valOf ([] ++ [d]) = d.toNat - 48 := by rw [valOf_snoc]; simp [valOf]
      rw [hv, Lib.decDigits_one (by omega), hof]; rfl
    · have hc : c ≠ 48 := by
        rcases hh with h | ⟨c', r'', e, h⟩
        · rw [hr] at h; simp at h
        · rw [hr] at e; simp at e; rw [e.1]; exact h
      have hd' : ∀ x ∈ c :: r', 48 ≤ x.toNat ∧ x.toNat ≤ 57 := fun x hx => hd x (by rw [hr]; exact List.mem_append_left _ hx)
      have hp := valOf_pos (c :: r') hd' ⟨c, r', rfl, hc⟩
      rw [hr] at hl
      have hi := ih (c :: r') (by simp at hl ⊢; omega) (by simp) hd' (.inr ⟨c, r', rfl, hc⟩)
      rw [valOf_snoc, Lib.decDigits, dif_neg (by omega), show (valOf (c :: r') * 10 + (d.toNat - 48)) / 10 = valOf (c :: r') by omega, show (valOf (c :: r') * 10 + (d.toNat - 48)) % 10 = d.toNat - 48 by omega, hi, hof]

theorem trim_head : ∀ l : List UInt8, l ≠ [] → ((trimL l).length = 1 ∨ ∃ c r, trimL l = c :: r ∧ c ≠ 48) := by
  intro l
  induction l with
  | nil => intro h; exact absurd rfl h
  | cons c r ih =>
    intro _
    cases r with
    | nil => exact .inl rfl
    | cons d r =>
      simp only [trimL]
      split
      · exact ih (by simp)
      · rename_i h; exact .inr ⟨c, d :: r, rfl, h⟩

/-- a number as strconv writes it. -/
theorem dec_trim (l : List UInt8) (hne : l ≠ []) (hd : ∀ c ∈ l, 48 ≤ c.toNat ∧ c.toNat ≤ 57) : Lib.decDigits (valOf l) = trimL l := by
  rw [← trim_val l]
  exact dec_val _ (trimL l) rfl (trim_ne hne) (fun c hc => hd c (trim_mem l c hc)) (trim_head l hne)

/-- what the reference has laid out of the first k tokens. -/
def refN (ts : List Tk) (k : Nat) : List UInt8 := outN ts k ++ (if 0 < k ∧ (tkAt ts (k - 1)).l = [59] then [10] else [])
/-- is the next token the first of a line? -/
def freshN (ts : List Tk) (k : Nat) : Bool := decide (k = 0) || ((tkAt ts (k - 1)).l == [59])

theorem refN_succ (ts : List Tk) (k : Nat) : refN ts (k + 1) =
    refN ts k ++ (if freshN ts k = true then [] else if (tkAt ts (k - 1)).l = [40] ∨ (tkAt ts k).l = [41] ∨ (tkAt ts k).l = [59] then [] else [32]) ++ bareL (tkAt ts k) ++ (if (tkAt ts k).l = [59] then [10] else []) := by
  unfold refN freshN
  rw [outN]
  unfold pieceL
  by_cases h0 : k = 0
  · subst h0
    simp
  · have hk : 0 < k := by omega
    by_cases h1 : (tkAt ts (k - 1)).l = [59]
    · simp [h0, hk, h1, gapL]
    · have h1' : ((tkAt ts (k - 1)).l == [59]) = false := beq_eq_false_iff_ne.2 h1
      simp [h0, hk, h1, h1', gapL]

theorem refN_end (s : ByteArray) (hs : s.size ≤ 1500) (h : (textF s).1 = 0) : refN (toks s) ((toks s).length - 1) = (outF s).data.toList := by
  obtain ⟨p, hp⟩ := text_ok hs h
  obtain ⟨h1, h2, h3⟩ := end_at s hs p hp
  have hlen : (toks s).length = (tk 0 s.data.toList).length + 1 := by rw [toks_list]; simp
  have hlast : (tkAt (toks s) (tk 0 s.data.toList).length).l = [] ∧ (tkAt (toks s) (tk 0 s.data.toList).length).kind = 0 := by
    rw [toks_list, tkAt_mid]; exact ⟨rfl, rfl⟩
  have ho : (outF s).data.toList = outN (toks s) (toks s).length := by unfold outF; simp
  rw [ho, hlen, Nat.add_sub_cancel, outN]
  unfold refN
  congr 1
  have hb : bareL (tkAt (toks s) (tk 0 s.data.toList).length) = [] := by unfold bareL; rw [if_neg (by rw [hlast.2]; decide)]; exact hlast.1
  unfold pieceL
  rw [hb, hlast.1, List.append_nil]
  rcases h3 with h3 | h3
  · have : (tk 0 s.data.toList).length = 0 := by rw [← h1, h3]; rfl
    rw [this]; simp
  · rw [h1] at h3
    by_cases hz : (tk 0 s.data.toList).length = 0
    · rw [hz]; simp
    · rw [if_neg hz, if_pos ⟨by omega, h3⟩]
      unfold gapL
      rw [if_pos h3]

end Go.Proofs.Ytmndgoapkmhglab

namespace Go.Proofs.Ytmndgoapkmhglab
open Go.RowKit
attribute [local go_sem ↓] Go.wp_at_zero Go.wp_at_succ

/-- a text's tokens lie in a row. -/
structure TokAt (w : World) (g cap : Nat) (ts : List Tk) : Prop where
  own : w.ownsRow 0 157 4 (.slice (some ⟨g, 0, none⟩) ts.length cap) ts.length (rkCells (ts.map rtok))
  lt : g < w.heap.size

theorem tkAt_get {ts : List Tk} {k : Nat} (hk : k < ts.length) : tkAt ts k = ts[k]'hk := by
  unfold tkAt; rw [List.getD_eq_getElem?_getD, List.getElem?_eq_getElem hk]; rfl

theorem TokAt.cells {w wr : World} {g cap : Nat} {ts : List Tk} (h : TokAt w g cap ts) (hb : Below w.heap.size w wr) {k : Nat} (hk : k < ts.length) (a : RTk) (ha : a = rtok (tkAt ts k)) :
    wr.cell? ⟨g, k * 4, none⟩ = some (.int .u8 (a.c : Int)) ∧ wr.cell? ⟨g, k * 4 + 1, none⟩ = some (.string a.word) ∧ wr.cell? ⟨g, k * 4 + 2, none⟩ = some (.int .i64 (a.pos : Int)) ∧ wr.cell? ⟨g, k * 4 + 3, none⟩ = some (.int .i64 (a.n : Int)) := by
  have hcr : ∀ j, j < 4 → wr.cell? ⟨g, k * 4 + j, none⟩ = a.cells[j]? := fun j hj => by
    rw [hb.cell (p := ⟨g, k * 4 + j, none⟩) h.lt, h.own.cellAt (k * 4 + j) (by omega)]
    have e := flat_get RTk.cells 4 rk_len (ts.map rtok) k j (by simpa using hk) hj
    rw [List.getElem_map, ← tkAt_get hk, ← ha] at e
    exact e
  exact ⟨hcr 0 (by omega), hcr 1 (by omega), hcr 2 (by omega), hcr 3 (by omega)⟩

theorem TokAt.below {w w' : World} {g cap : Nat} {ts : List Tk} (h : TokAt w g cap ts) (hb : Below w.heap.size w w') : TokAt w' g cap ts := ⟨bel_own h.own hb, Nat.lt_of_lt_of_le h.lt hb.size⟩

set_option maxHeartbeats 1000000 in
theorem behind_any (ts : List Tk) (i : Nat) (w : World) (g cap : Nat) (h : TokAt w g cap ts) (hF : ∀ i, TkF (tkAt ts i)) (hl : ts.length ≤ 1501) (hi : i ≤ ts.length) :
    Calls Try.prog 91 #[.slice (some ⟨g, 0, none⟩) ts.length cap, .int .i64 (i : Int)] w fun e w' => e = .returned (.int .i64 (behindF ts i : Nat)) ∧ w = w' := by
  have HT := hide h
  have HF := hide hF
  clear h hF
  go_enter Try.func91, Try.ntmps91
  go_wp2
  go_loop [5, 6] (fun d k => ∃ (m : Nat) (e : Int), m ≤ ts.length ∧ k = .int .i64 m ∧ d = .int .i64 e ∧ 0 ≤ e ∧ e ≤ (m : Int) ∧ bhF ts (ts.length - m) m e = behindF ts i) (fun _ k => ts.length - (intOf k).toNat)
  case atStart => exact ⟨i, 0, hi, rfl, rfl, by omega, by omega, rfl⟩
  case round =>
    obtain ⟨m, e, hm, rfl, rfl, he0, he1, hrec⟩ := hrel
    by_cases hlt : m < ts.length
    · obtain ⟨a, ha⟩ : ∃ a, a = rtok (tkAt ts m) := ⟨_, rfl⟩
      obtain ⟨x0, x1, x2, x3⟩ := HT.out.cells (Below.refl _ _) hlt a ha
      have hk1 := (HF.out m).kw [40] (by decide)
      have hk2 := (HF.out m).kw [41] (by decide)
      rw [← ha] at hk1 hk2
      have hst : bhF ts (ts.length - m) m e = if dstep ts m e ≤ 0 then m + 1 else bhF ts (ts.length - (m + 1)) (m + 1) (dstep ts m e) := by
        rw [show ts.length - m = (ts.length - (m + 1)) + 1 by omega]; rfl
      rw [hst] at hrec
      have j1 : (0 : Int) ≤ (m : Int) := by omega
      have j2 : (m : Int) < (ts.length : Int) := by omega
      by_cases h1 : a.l = [40]
      · have q1 := str_yes (t := a.word) h1
        have hd : dstep ts m e = e + 1 := by unfold dstep; rw [if_pos (hk1.1 h1)]
        rw [hd, if_neg (by omega)] at hrec
        have HR := hide hrec
        have i1 : ¬ e + 1 ≤ 0 := by omega
        clear hd hst hrec hk1 hk2 h1 ha
        go_wp2
        go_round
        case rel => exact ⟨m + 1, e + 1, by omega, by go_num, by go_num, by omega, by omega, HR.out⟩
        case measure => simp [intOf]; omega
      · have q1 := str_no (t := a.word) h1
        by_cases h2 : a.l = [41]
        · have q2 := str_yes (t := a.word) h2
          have hd : dstep ts m e = e - 1 := by unfold dstep; rw [if_neg (fun h => h1 (hk1.2 h)), if_pos (hk2.1 h2)]
          rw [hd] at hrec
          by_cases h3 : e - 1 ≤ 0
          · rw [if_pos h3] at hrec
            have HR := hide hrec
            clear hd hst hrec hk1 hk2 h1 h2 ha q1
            go_wp2
            go_ret
            exact ⟨by rw [← HR.out]; go_num, rfl⟩
          · rw [if_neg h3] at hrec
            have HR := hide hrec
            clear hd hst hrec hk1 hk2 h1 h2 ha q1
            go_wp2
            go_round
            case rel => exact ⟨m + 1, e - 1, by omega, by go_num, by go_num, by omega, by omega, HR.out⟩
            case measure => simp [intOf]; omega
        · have q2 := str_no (t := a.word) h2
          have hd : dstep ts m e = e := by unfold dstep; rw [if_neg (fun h => h1 (hk1.2 h)), if_neg (fun h => h2 (hk2.2 h))]
          rw [hd] at hrec
          by_cases h3 : e ≤ 0
          · rw [if_pos h3] at hrec
            have HR := hide hrec
            clear hd hst hrec hk1 hk2 h1 h2 ha
            go_wp2
            go_ret
            exact ⟨by rw [← HR.out]; go_num, rfl⟩
          · rw [if_neg h3] at hrec
            have HR := hide hrec
            clear hd hst hrec hk1 hk2 h1 h2 ha
            go_wp2
            go_round
            case rel => exact ⟨m + 1, e, by omega, by go_num, rfl, by omega, by omega, HR.out⟩
            case measure => simp [intOf]; omega
    · have em : ts.length - m = 0 := by omega
      rw [em] at hrec
      have HR := hide hrec
      have i1 : ¬ (m : Int) < (ts.length : Int) := by omega
      clear hrec em
      go_wp2
      go_ret
      exact ⟨by rw [← HR.out]; rfl, rfl⟩

end Go.Proofs.Ytmndgoapkmhglab
