import Derived.Lib.ItoaNum
import Derived.Test.Ytmndgoapkmhglabo00Base
import Derived.Test.Ytmndgoapkmhglabo04RePure
import Derived.Test.Ytmndgoapkmhglabo05AstK
namespace Go.Proofs.Ytmndgoapkmhglab
def placeD (ts : List Tk) (x : Dl) : Nat := valOf (lAt ts (x.i + 3))
structure DX (ts : List Tk) (f : Nd → Nd) (ns : List Nd) (d : Dc) (x : Dl) : Prop where
  kind : d.kind = x.kind
  pos : d.pos = posD ts x
  name : d.name = nameD ts x
  place : x.kind ≠ 0 → d.place = placeD ts x
  none : x.kind = 0 → seg ns d.root d.fin = []
  some : x.kind ≠ 0 → ∃ o, seg ns d.root d.fin = (flat ts x.t (x.i + 5) 0 o).map f
theorem dx_all (ts : List Tk) (f : Nd → Nd) : ∀ (L : List Dl) (off a b : Nat) (N1 : List Nd), N1.length = off → All2 (DX ts f (N1 ++ (nodesD ts L off).map f)) (declsD ts L off a b) L := by
  intro L
  induction L with
  | nil => intro off a b N1 _; trivial
  | cons x r ih =>
    intro off a b N1 hN
    simp only [declsD, nodesD]
    by_cases hk : x.kind = 0
    · rw [if_pos hk, if_pos hk]
      exact ⟨⟨hk.symm, rfl, rfl, fun h => absurd hk h, fun _ => by simp [seg, dcIn], fun h => absurd hk h⟩, ih off (a + 1) b N1 hN⟩
    · rw [if_neg hk, if_neg hk]
      refine ⟨⟨rfl, rfl, rfl, fun _ => rfl, fun h => absurd h hk, fun _ => ⟨off, ?_⟩⟩, ?_⟩
      · rw [List.map_append]
        exact seg_mid hN.symm (by simp [dcEq, flat_len, hN])
      · have := ih (off + x.t.size) a (b + 1) (N1 ++ (flat ts x.t (x.i + 5) 0 off).map f) (by simp [flat_len, hN])
        rw [List.append_assoc, ← List.map_append] at this
        exact this
theorem All2.getOpt {α β : Type} {R : α → β → Prop} : ∀ {l : List α} {m : List β} (k : Nat), All2 R l m → (l[k]? = none ∧ m[k]? = none) ∨ ∃ a b, l[k]? = some a ∧ m[k]? = some b ∧ R a b := by
  intro l
  induction l with
  | nil => intro m k h; cases m with
    | nil => exact .inl ⟨rfl, rfl⟩
    | cons b m => exact h.elim
  | cons a l ih => intro m k h; cases m with
    | nil => exact h.elim
    | cons b m =>
      cases k with
      | zero => exact .inr ⟨a, b, rfl, rfl, h.1⟩
      | succ k => exact ih k h.2
def isE (L : List Dl) (k : Nat) : Bool := (L[k]?).any fun x => x.kind != 0
def cntE (L : List Dl) (k : Nat) : Nat := (eqL (L.take k)).length
theorem cntE_succ (L : List Dl) (k : Nat) : cntE L (k + 1) = if isE L k then cntE L k + 1 else cntE L k := by
  unfold cntE isE eqL
  rw [List.take_add_one, List.filter_append, List.length_append]
  cases h : L[k]? with
  | none => simp
  | some x =>
    by_cases hk : x.kind = 0
    · simp [hk]
    · simp [hk]
theorem cntE_get : ∀ (L : List Dl) (k : Nat), isE L k = true → (eqL L)[cntE L k]? = L[k]? := by
  intro L
  induction L with
  | nil => intro k h; simp [isE] at h
  | cons x r ih =>
    intro k h
    cases k with
    | zero =>
      have hk : x.kind ≠ 0 := by simpa [isE] using h
      simp [cntE, eqL, hk]
    | succ k =>
      have h' : isE r k = true := by simpa [isE] using h
      have := ih k h'
      rw [List.getElem?_cons_succ, ← this]
      by_cases hk : x.kind = 0
      · simp [cntE, eqL, hk]
      · have e : cntE (x :: r) (k + 1) = cntE r k + 1 := by simp [cntE, eqL, hk]
        have e2 : eqL (x :: r) = x :: eqL r := by simp [eqL, hk]
        rw [e, e2, List.getElem?_cons_succ]
theorem cntE_all (L : List Dl) : cntE L L.length = (eqL L).length := by unfold cntE; rw [List.take_length]
def relR (ts : List Tk) (L : List Dl) : Mx := fun i j =>
  match (eqL L)[i]?, (eqL L)[j]? with
  | some x, some z => hangsR ts x (nameD ts z).data.toList
  | _, _ => false
def firstC (ts : List Tk) (W : Mx) : Nat → List Dl → Option Nat
  | _, [] => none
  | i, x :: r => if W i i then some (posD ts x) else firstC ts W (i + 1) r
def cycR (ts : List Tk) (L : List Dl) : Option Nat := firstC ts (warsh (relR ts L) (eqL L).length) 0 (eqL L)
theorem find_is {ds : List Dc} (own : ∀ j (hj : j < ds.length), findF ds (ds[j]'hj).name = (j : Int)) {b : Nat} {d : Dc} (hd : ds[b]? = some d) (t : ByteArray) (h0 : 0 ≤ findF ds t) : ((findF ds t).toNat == b) = (t.data.toList == d.name.data.toList) := by
  rw [List.getElem?_eq_some_iff] at hd
  obtain ⟨hb, rfl⟩ := hd
  rw [Bool.eq_iff_iff, beq_iff_eq, beq_iff_eq]
  constructor
  · intro h
    unfold findF at h h0
    split at h
    · rename_i i hi
      rw [List.findIdx?_eq_some_iff_getElem] at hi
      obtain ⟨g1, g2, _⟩ := hi
      rw [Int.toNat_natCast] at h
      subst h
      rw [beq_iff_eq] at g2
      exact g2.symm
    · rename_i hi; rw [hi] at h0; simp at h0
  · intro h
    rw [findF_name ds h, own b hb]; rfl
section
variable {ts : List Tk} (hF : ∀ i, TkF (tkAt ts i)) {L : List Dl} {ds : List Dc} (hN : NamesOk ts L ds)
  (hsp : ∀ x ∈ L, x.kind ≠ 0 → Sp ts x.t (x.i + 5) ∧ x.i + 5 + x.t.len ≤ ts.length)
  (hd : ∀ x ∈ L, x.kind ≠ 0 → ∀ y ∈ nmD ts x.t (x.i + 5) false, 0 ≤ findF ds (tkAt ts y.1).text)
include hF hN hsp hd
omit hN hsp hd in
theorem any_flat (q : Nd → Bool) (t : Ast) (i o : Nat) (hs : Sp ts t i) : ((flat ts t i 0 o).map (bindF ds)).any (fun n => n.kind == 2 && q n) = (nmD ts t i false).any fun y => q (bindF ds (nmNd ts y)) := by
  rw [← List.any_filter, bind_filter, flat_names hF t i 0 o hs, List.any_map, List.any_map]
  rfl
omit hF hN hsp hd in
theorem bind_nm (y : Nat × Bool) : bindF ds (nmNd ts y) = { nmNd ts y with decl := findF ds (tkAt ts y.1).text } := by
  unfold bindF; rw [if_pos (by rfl)]; rfl
omit hF hN hsp hd in
theorem mark_none {ns : List Nd} (hdx : All2 (DX ts (bindF ds) ns) ds L) : ∀ a b, isE L a = false → markAll ds ns 0 ds noM a b = false := by
  intro a b h
  rw [markAll_eq]
  rcases hdx.getOpt a with ⟨h1, _⟩ | ⟨d, x, h1, h2, h3⟩
  · rw [Nat.sub_zero, h1]; simp [noM]
  · unfold isE at h
    rw [h2] at h
    have hk : x.kind = 0 := by simpa using h
    rw [Nat.sub_zero, h1]
    simp [noM, h3.none hk]
theorem mark_rel {ns : List Nd} (hdx : All2 (DX ts (bindF ds) ns) ds L) : ∀ a b, isE L a = true → isE L b = true → markAll ds ns 0 ds noM a b = relR ts L (cntE L a) (cntE L b) := by
  intro a b ha hb
  rw [markAll_eq]
  rcases hdx.getOpt a with ⟨_, h2⟩ | ⟨d, x, h1, h2, h3⟩
  · unfold isE at ha; rw [h2] at ha; simp at ha
  rcases hdx.getOpt b with ⟨_, g2⟩ | ⟨e, z, g1, g2, g3⟩
  · unfold isE at hb; rw [g2] at hb; simp at hb
  have hk : x.kind ≠ 0 := by unfold isE at ha; rw [h2] at ha; simpa using ha
  have hx : x ∈ L := List.mem_of_getElem? h2
  obtain ⟨o, ho⟩ := h3.some hk
  have hrel : relR ts L (cntE L a) (cntE L b) = hangsR ts x (nameD ts z).data.toList := by
    unfold relR; rw [cntE_get L a ha, cntE_get L b hb, h2, g2]
  rw [hrel, hangs_nm hF x (hsp x hx hk).1 (hsp x hx hk).2, Nat.sub_zero, h1]
  have hz : (noM a b) = false := rfl
  have hdec : decide (0 ≤ a) = true := by simp
  rw [hz, hdec, Bool.false_or, Bool.true_and, Option.any_some, ho, any_flat hF (fun n => !n.delayed && (kindAt ds n.decl != 0 && n.decl.toNat == b)) x.t (x.i + 5) o (hsp x hx hk).1]
  apply any_congr_mem
  intro y hy
  rw [bind_nm]
  show (!y.2 && (kindAt ds (findF ds (tkAt ts y.1).text) != 0 && (findF ds (tkAt ts y.1).text).toNat == b)) = _
  have hkb : z.kind ≠ 0 := by unfold isE at hb; rw [g2] at hb; simpa using hb
  have hkk : (kindAt ds (findF ds (tkAt ts y.1).text) != 0 && (findF ds (tkAt ts y.1).text).toNat == b) = ((findF ds (tkAt ts y.1).text).toNat == b) := by
    by_cases hq : (findF ds (tkAt ts y.1).text).toNat = b
    · have : kindAt ds (findF ds (tkAt ts y.1).text) = z.kind := by
        unfold kindAt
        rw [hq, List.getD_eq_getElem?_getD, g1, ← g3.kind]; rfl
      rw [this, bne_iff_ne.2 hkb, Bool.true_and]
    · have : ((findF ds (tkAt ts y.1).text).toNat == b) = false := beq_eq_false_iff_ne.2 hq
      rw [this, Bool.and_false]
  rw [hkk, find_is hN.own g1 _ (hd x hx hk y hy), g3.name, Bool.and_comm]
  rfl
theorem cycle_eq {ns : List Nd} (hdx : All2 (DX ts (bindF ds) ns) ds L) : cycleF ds ns = cycR ts L := by
  have hM1 := mark_none hdx (ts := ts)
  have hM2 := mark_rel hF hN hsp hd hdx
  have hw := warsh_part (M := markAll ds ns 0 ds noM) (rel := relR ts L) (isE := isE L) (cnt := cntE L) (cntE_succ L) (by simp [cntE, eqL]) hM1 hM2 ds.length
  have hlen : L.length = ds.length := hdx.len
  unfold cycleF cycR
  rw [← cntE_all L, hlen]
  generalize warsh (markAll ds ns 0 ds noM) ds.length = W at hw ⊢
  generalize warsh (relR ts L) (cntE L ds.length) = W' at hw ⊢
  obtain ⟨hw1, hw2⟩ := hw
  have key : ∀ (L2 L1 : List Dl) (l2 : List Dc), L = L1 ++ L2 → All2 (DX ts (bindF ds) ns) l2 L2 → firstSelf W L1.length l2 = firstC ts W' (cntE L L1.length) (eqL L2) := by
    intro L2
    induction L2 with
    | nil => intro L1 l2 _ h; cases l2 with
      | nil => rfl
      | cons d l2 => exact h.elim
    | cons x r ih => intro L1 l2 hs h; cases l2 with
      | nil => exact h.elim
      | cons d l2 =>
        obtain ⟨h1, h2⟩ := h
        have hget : L[L1.length]? = some x := by rw [hs]; simp
        have hsucc := cntE_succ L L1.length
        have hih := ih (L1 ++ [x]) l2 (by rw [hs]; simp) h2
        rw [List.length_append, List.length_singleton] at hih
        simp only [firstSelf]
        by_cases hk : x.kind = 0
        · have he : isE L L1.length = false := by unfold isE; rw [hget]; simp [hk]
          have e2 : eqL (x :: r) = eqL r := by simp [eqL, hk]
          rw [hw1 _ _ he, if_neg (by simp), hih, e2, hsucc, he]
          simp
        · have he : isE L L1.length = true := by unfold isE; rw [hget]; simp [hk]
          have e2 : eqL (x :: r) = x :: eqL r := by simp [eqL, hk]
          rw [e2]
          simp only [firstC]
          rw [hw2 _ _ he he, hih, hsucc, he, h1.pos]
          simp
  have := key L [] ds rfl hdx
  simpa [cntE, eqL] using this
end
def useOf (ts : List Tk) (x : Dl) (nm : List UInt8) : List Nat := (List.range' (x.i + 5) x.t.len).filter fun j => isNm ts j && lAt ts j == nm
def usesR (ts : List Tk) (L : List Dl) (nm : List UInt8) (q : Nat) : List Nat := (eqL L).flatMap fun x => if placeD ts x = q then useOf ts x nm else []
def lateR (ts : List Tk) (u : List Nat) : Bool := u.all fun k => lAt ts (k - 1) == kFby
def routeAt (ts : List Tk) (L : List Dl) (b : Nat) (x : Dl) (q : Nat) : List Rt :=
  if usesR ts L (nameD ts x).data.toList q ≠ [] ∧ q ≠ placeD ts x then [⟨b, q, lateR ts (usesR ts L (nameD ts x).data.toList q)⟩] else []
def routeTo (ts : List Tk) (L : List Dl) (b : Nat) (x : Dl) : Nat → List Rt
  | 0 => []
  | q + 1 => routeTo ts L b x q ++ routeAt ts L b x q
def routesFrom (ts : List Tk) (L : List Dl) : Nat → List Dl → List Rt
  | _, [] => []
  | b, x :: r => routeTo ts L b x 4 ++ routesFrom ts L (b + 1) r
def routesR (ts : List Tk) (L : List Dl) : List Rt := routesFrom ts L 0 (eqL L)
def waitsP (pl : List Nat) : List Rt → Mx → Mx
  | [], M => M
  | r :: l, M => waitsP pl l (if r.late = true then M else upd M r.dst (pl.getD r.src 0) true)
def firstP (ts : List Tk) (W : Mx) : List Dl → Option Nat
  | [] => none
  | x :: r => if W (placeD ts x) (placeD ts x) then some (posD ts x) else firstP ts W r
def lpR (ts : List Tk) (L : List Dl) : Option Nat := firstP ts (warsh (waitsP ((eqL L).map (placeD ts)) (routesR ts L) noM) 4) (eqL L)
theorem usesSeg_eq (decl : Nat) : ∀ (l : List Nd) (u p : Bool), usesSeg decl l u p = (u || l.any (fun n => n.kind == 2 && decide (n.decl = (decl : Int))), p || l.any (fun n => n.kind == 2 && (decide (n.decl = (decl : Int)) && !n.behind))) := by
  intro l
  induction l with
  | nil => intro u p; simp [usesSeg]
  | cons n l ih =>
    intro u p
    simp only [usesSeg]
    by_cases h : n.kind = 2 ∧ n.decl = (decl : Int)
    · rw [if_pos h, ih, List.any_cons, List.any_cons, h.1, decide_eq_true h.2]
      simp [Bool.or_assoc]
    · rw [if_neg h, ih, List.any_cons, List.any_cons]
      by_cases hk : n.kind = 2
      · have hd : decide (n.decl = (decl : Int)) = false := decide_eq_false (fun e => h ⟨hk, e⟩)
        rw [hd]; simp
      · have hk' : (n.kind == 2) = false := beq_eq_false_iff_ne.2 hk
        rw [hk']; simp
theorem usesAll_eq (ns : List Nd) (decl q : Nat) : ∀ (l : List Dc) (u p : Bool), usesAll ns decl q l u p =
    (u || l.any (fun d => (d.kind != 0 && d.place == q) && (seg ns d.root d.fin).any (fun n => n.kind == 2 && decide (n.decl = (decl : Int)))),
     p || l.any (fun d => (d.kind != 0 && d.place == q) && (seg ns d.root d.fin).any (fun n => n.kind == 2 && (decide (n.decl = (decl : Int)) && !n.behind)))) := by
  intro l
  induction l with
  | nil => intro u p; simp [usesAll]
  | cons d l ih =>
    intro u p
    simp only [usesAll]
    by_cases h : d.kind = 0 ∨ d.place ≠ q
    · have hc : (d.kind != 0 && d.place == q) = false := by
        rcases h with h | h
        · rw [h]; rfl
        · rw [beq_eq_false_iff_ne.2 h, Bool.and_false]
      rw [if_pos h, ih, List.any_cons, List.any_cons, hc]; simp
    · have h1 : d.kind ≠ 0 := fun e => h (.inl e)
      have h2 : d.place = q := Classical.byContradiction fun e => h (.inr e)
      have hc : (d.kind != 0 && d.place == q) = true := by rw [h2]; simp [h1]
      rw [if_neg h, ih, usesSeg_eq, List.any_cons, List.any_cons, hc]
      simp [Bool.or_assoc]
theorem find_int {x : Int} {a : Nat} (h0 : 0 ≤ x) : decide (x = (a : Int)) = (x.toNat == a) := by
  rw [Bool.eq_iff_iff, decide_eq_true_iff, beq_iff_eq]; omega
section
variable {ts : List Tk} (hF : ∀ i, TkF (tkAt ts i)) {L : List Dl} {ds : List Dc} (hN : NamesOk ts L ds)
  (hsp : ∀ x ∈ L, x.kind ≠ 0 → Sp ts x.t (x.i + 5) ∧ x.i + 5 + x.t.len ≤ ts.length)
  (hd : ∀ x ∈ L, x.kind ≠ 0 → ∀ y ∈ nmD ts x.t (x.i + 5) false, 0 ≤ findF ds (tkAt ts y.1).text)
include hF hN hsp hd
omit hN hsp hd in
theorem useOf_any (x : Dl) (hs : Sp ts x.t (x.i + 5)) (nm : List UInt8) (p : Nat → Bool) : (useOf ts x nm).any p = (nmD ts x.t (x.i + 5) false).any fun y => lAt ts y.1 == nm && p y.1 := by
  unfold useOf
  have e : ((List.range' (x.i + 5) x.t.len).filter fun j => isNm ts j && lAt ts j == nm) = ((List.range' (x.i + 5) x.t.len).filter (isNm ts)).filter fun j => lAt ts j == nm := by
    rw [List.filter_filter]
    congr 1
    funext j
    rw [Bool.and_comm]
  rw [e, nm_filter hF x.t (x.i + 5) false hs, List.any_filter, List.any_map]
  rfl
theorem uses_eq {ns : List Nd} (hdx : All2 (DX ts (bindF ds) ns) ds L) {a : Nat} {d : Dc} (ha : ds[a]? = some d) (q : Nat) :
    usesF ds ns a q = (decide (usesR ts L d.name.data.toList q ≠ []), (usesR ts L d.name.data.toList q).any fun k => !(lAt ts (k - 1) == kFby)) := by
  have hin : ∀ x, x ∈ L → x.kind ≠ 0 → ∀ y ∈ nmD ts x.t (x.i + 5) false, decide (findF ds (tkAt ts y.1).text = (a : Int)) = (lAt ts y.1 == d.name.data.toList) := by
    intro x hx hk y hy
    rw [find_int (hd x hx hk y hy), find_is hN.own ha _ (hd x hx hk y hy)]
    rfl
  have hall : ∀ (p : Nat → Bool) (q' : Nd → Bool), (∀ y : Nat × Bool, 5 ≤ y.1 → q' (bindF ds (nmNd ts y)) = p y.1) →
      ds.any (fun e => (e.kind != 0 && e.place == q) && (seg ns e.root e.fin).any (fun n => n.kind == 2 && (decide (n.decl = (a : Int)) && q' n))) = (usesR ts L d.name.data.toList q).any p := by
    intro p q' hq
    unfold usesR
    rw [List.any_flatMap]
    unfold eqL
    rw [List.any_filter]
    have key : ∀ (l : List Dc) (m : List Dl), All2 (DX ts (bindF ds) ns) l m → (∀ x ∈ m, x ∈ L) → l.any (fun e => (e.kind != 0 && e.place == q) && (seg ns e.root e.fin).any (fun n => n.kind == 2 && (decide (n.decl = (a : Int)) && q' n))) = m.any (fun x => x.kind != 0 && (if placeD ts x = q then useOf ts x d.name.data.toList else []).any p) := by
      intro l
      induction l with
      | nil => intro m h _; cases m with
        | nil => rfl
        | cons x m => exact h.elim
      | cons e l ih => intro m h hm; cases m with
        | nil => exact h.elim
        | cons x m =>
          obtain ⟨h1, h2⟩ := h
          rw [List.any_cons, List.any_cons, ih m h2 (fun z hz => hm z (List.mem_cons_of_mem _ hz))]
          congr 1
          by_cases hk : x.kind = 0
          · rw [h1.kind, hk]; rfl
          · have hx := hm x (List.mem_cons_self ..)
            obtain ⟨o, ho⟩ := h1.some hk
            rw [h1.kind, h1.place hk]
            have hkb : (x.kind != 0) = true := by simpa using hk
            rw [hkb, Bool.true_and, Bool.true_and]
            by_cases hp : placeD ts x = q
            · rw [if_pos hp, hp, ho, any_flat hF (fun n => decide (n.decl = (a : Int)) && q' n) x.t (x.i + 5) o (hsp x hx hk).1, useOf_any hF x (hsp x hx hk).1]
              simp only [beq_self_eq_true, Bool.true_and]
              apply any_congr_mem
              intro y hy
              have h5 := (nm_in _ _ _ y hy).1
              rw [hq y (by omega), bind_nm]
              show (decide (findF ds (tkAt ts y.1).text = (a : Int)) && p y.1) = _
              rw [hin x hx hk y hy]
            · rw [if_neg hp, beq_eq_false_iff_ne.2 hp]; rfl
    exact key ds L hdx (fun x hx => hx)
  unfold usesF
  rw [usesAll_eq, Bool.false_or, Bool.false_or]
  have e1 := hall (fun _ => true) (fun _ => true) (fun _ _ => rfl)
  have e2 := hall (fun k => !(lAt ts (k - 1) == kFby)) (fun n => !n.behind) (fun y hy => by
    rw [bind_nm]
    show (!(decide (0 < y.1) && ((tkAt ts (y.1 - 1)).l == kFby))) = _
    rw [decide_eq_true (by omega : 0 < y.1), Bool.true_and])
  simp only [Bool.and_true] at e1
  rw [e1, e2]
  congr 1
  cases usesR ts L d.name.data.toList q with
  | nil => simp
  | cons k r => simp
theorem links_eq {ns : List Nd} (hdx : All2 (DX ts (bindF ds) ns) ds L) (hnum : ∀ a d x, ds[a]? = some d → L[a]? = some x → x.kind ≠ 0 → d.number = cntE L a) : linksF ds ns = routesR ts L := by
  have hto : ∀ a d x, ds[a]? = some d → L[a]? = some x → x.kind ≠ 0 → DX ts (bindF ds) ns d x → ∀ q, linksTo ds ns a d q = routeTo ts L (cntE L a) x q := by
    intro a d x h1 h2 hk h3 q
    induction q with
    | zero => rfl
    | succ q ih =>
      simp only [linksTo, routeTo]
      rw [ih]
      congr 1
      unfold linkAt routeAt
      rw [uses_eq hF hN hsp hd hdx h1 q, h3.name, h3.place hk, hnum a d x h1 h2 hk]
      simp only [decide_eq_true_iff]
      split
      · unfold lateR
        congr 2
        rw [List.not_any_eq_all_not]
        simp
      · rfl
  have key : ∀ (L2 L1 : List Dl) (l2 : List Dc) (l1 : List Dc), L = L1 ++ L2 → ds = l1 ++ l2 → l1.length = L1.length → All2 (DX ts (bindF ds) ns) l2 L2 → linksFrom ds ns L1.length l2 = routesFrom ts L (cntE L L1.length) (eqL L2) := by
    intro L2
    induction L2 with
    | nil => intro L1 l2 l1 _ _ _ h; cases l2 with
      | nil => rfl
      | cons d l2 => exact h.elim
    | cons x r ih => intro L1 l2 l1 hs hs2 hl h; cases l2 with
      | nil => exact h.elim
      | cons d l2 =>
        obtain ⟨h1, h2⟩ := h
        have hget : L[L1.length]? = some x := by rw [hs]; simp
        have hget2 : ds[L1.length]? = some d := by rw [hs2, ← hl]; simp
        have hsucc := cntE_succ L L1.length
        have hih := ih (L1 ++ [x]) l2 (l1 ++ [d]) (by rw [hs]; simp) (by rw [hs2]; simp) (by simp [hl]) h2
        rw [List.length_append, List.length_singleton] at hih
        simp only [linksFrom]
        rw [hih, hsucc, h1.kind]
        by_cases hk : x.kind = 0
        · have he : isE L L1.length = false := by unfold isE; rw [hget]; simp [hk]
          have e2 : eqL (x :: r) = eqL r := by simp [eqL, hk]
          rw [if_pos hk, e2, he]
          simp
        · have he : isE L L1.length = true := by unfold isE; rw [hget]; simp [hk]
          have e2 : eqL (x :: r) = x :: eqL r := by simp [eqL, hk]
          rw [if_neg hk, e2, he, hto _ d x hget2 hget hk h1]
          simp [routesFrom]
  have := key L [] ds [] rfl rfl rfl hdx
  unfold linksF routesR
  simpa [cntE, eqL] using this
omit hF hN hsp hd in
theorem eqs_all {ns : List Nd} {f : Nd → Nd} (hdx : All2 (DX ts f ns) ds L) : All2 (fun d x => d.place = placeD ts x ∧ d.pos = posD ts x) (eqsF ds) (eqL L) := by
  have key : ∀ (l : List Dc) (m : List Dl), All2 (DX ts f ns) l m → All2 (fun d x => d.place = placeD ts x ∧ d.pos = posD ts x) (eqsF l) (eqL m) := by
    intro l
    induction l with
    | nil => intro m h; cases m with
      | nil => trivial
      | cons x m => exact h.elim
    | cons d l ih => intro m h; cases m with
      | nil => exact h.elim
      | cons x m =>
        obtain ⟨h1, h2⟩ := h
        have := ih m h2
        unfold eqsF eqL at this ⊢
        by_cases hk : x.kind = 0
        · rw [List.filter_cons_of_neg (by rw [h1.kind, hk]; simp), List.filter_cons_of_neg (by rw [hk]; simp)]
          exact this
        · rw [List.filter_cons_of_pos (by rw [h1.kind]; simpa using hk), List.filter_cons_of_pos (by simpa using hk)]
          exact ⟨⟨h1.place hk, h1.pos⟩, this⟩
  exact key ds L hdx
omit hF hN hsp hd in
theorem waits_pl (es : List Dc) : ∀ (l : List Rt) (M : Mx), waitsM es l M = waitsP (es.map Dc.place) l M := by
  intro l
  induction l with
  | nil => intro M; rfl
  | cons r l ih =>
    intro M
    simp only [waitsM, waitsP]
    rw [ih]
    congr 3
    rw [List.getD_eq_getElem?_getD, List.getD_eq_getElem?_getD, List.getElem?_map]
    cases es[r.src]? <;> rfl
theorem loop_eq {ns : List Nd} (hdx : All2 (DX ts (bindF ds) ns) ds L) (hnum : ∀ a d x, ds[a]? = some d → L[a]? = some x → x.kind ≠ 0 → d.number = cntE L a) : loopF ds ns = lpR ts L := by
  have he := eqs_all hdx
  have hpl : (eqsF ds).map Dc.place = (eqL L).map (placeD ts) := by
    have key : ∀ (l : List Dc) (m : List Dl), All2 (fun d x => d.place = placeD ts x ∧ d.pos = posD ts x) l m → l.map Dc.place = m.map (placeD ts) := by
      intro l
      induction l with
      | nil => intro m h; cases m with
        | nil => rfl
        | cons x m => exact h.elim
      | cons d l ih => intro m h; cases m with
        | nil => exact h.elim
        | cons x m => rw [List.map_cons, List.map_cons, h.1.1, ih m h.2]
    exact key _ _ he
  have hfirst : ∀ (W : Mx) (l : List Dc) (m : List Dl), All2 (fun d x => d.place = placeD ts x ∧ d.pos = posD ts x) l m → firstAt W l = firstP ts W m := by
    intro W l
    induction l with
    | nil => intro m h; cases m with
      | nil => rfl
      | cons x m => exact h.elim
    | cons d l ih => intro m h; cases m with
      | nil => exact h.elim
      | cons x m => simp only [firstAt, firstP]; rw [h.1.1, h.1.2, ih m h.2]
  unfold loopF lpR
  rw [waits_pl, hpl, links_eq hF hN hsp hd hdx hnum, hfirst _ _ _ he]
end
theorem tk_pos : ∀ n k (l : List UInt8), l.length = n → (∀ t ∈ tk k l, k ≤ t.pos ∧ t.pos < k + l.length) ∧ (tk k l).Pairwise (fun a b => a.pos < b.pos) := by
  intro n
  induction n using Nat.strongRecOn with
  | _ n ih =>
    intro k l hn
    cases l with
    | nil => rw [tk_nil]; exact ⟨fun t ht => by simp at ht, List.Pairwise.nil⟩
    | cons c r =>
      simp only [List.length_cons] at hn
      by_cases h0 : cls c.toNat = 0
      · rw [tk_blank h0]
        obtain ⟨h1, h2⟩ := ih r.length (by omega) (k + 1) r rfl
        exact ⟨fun t ht => by have := h1 t ht; simp only [List.length_cons]; omega, h2⟩
      · by_cases h12 : cls c.toNat = 1 ∨ cls c.toNat = 2
        · rw [tk_word h12]
          have hl := take_drop_len (W (cls c.toNat)) r
          obtain ⟨h1, h2⟩ := ih _ (by omega) (k + 1 + (r.takeWhile (W (cls c.toNat))).length) (r.dropWhile (W (cls c.toNat))) rfl
          refine ⟨fun t ht => ?_, List.Pairwise.cons (fun t ht => ?_) h2⟩
          · simp only [List.length_cons]
            rcases List.mem_cons.1 ht with rfl | ht
            · show k ≤ k ∧ k < _; omega
            · have := h1 t ht; omega
          · have := h1 t ht; show k < t.pos; omega
        · rw [tk_one (by omega)]
          obtain ⟨h1, h2⟩ := ih r.length (by omega) (k + 1) r rfl
          refine ⟨fun t ht => ?_, List.Pairwise.cons (fun t ht => ?_) h2⟩
          · simp only [List.length_cons]
            rcases List.mem_cons.1 ht with rfl | ht
            · show k ≤ k ∧ k < _; omega
            · have := h1 t ht; omega
          · have := h1 t ht; show k < t.pos; omega
theorem toks_pos (s : ByteArray) : PosLt (toks s) := by
  obtain ⟨h1, h2⟩ := tk_pos _ 0 s.data.toList rfl
  have hp : (toks s).Pairwise (fun a b => a.pos < b.pos) := by
    rw [toks_list, List.pairwise_append]
    refine ⟨h2, List.pairwise_singleton _ _, fun a ha b hb => ?_⟩
    rw [List.mem_singleton] at hb
    subst hb
    have := h1 a ha
    show a.pos < s.size
    rw [size_list]; omega
  intro i j hij hj
  have := (List.pairwise_iff_getElem.1 hp) i j (by omega) hj hij
  unfold tkAt
  rw [List.getD_eq_getElem?_getD, List.getD_eq_getElem?_getD, List.getElem?_eq_getElem hj, List.getElem?_eq_getElem (show i < (toks s).length by omega)]
  exact this
theorem toks_end (s : ByteArray) (i : Nat) (h : (tkAt (toks s) i).kind = 0) : (toks s).length ≤ i + 1 := by
  by_cases hi : i < (tk 0 s.data.toList).length
  · exfalso
    rw [toks_list, tkAt_left hi] at h
    exact (tk_kind _ _ _ rfl _ (tkAt_mem hi)).1 h
  · rw [toks_list]; simp; omega
theorem badName_own {all : List Dc} {ns : List Nd} : ∀ (l : List Dc) (i : Nat), badNameF all ns i l = none → ∀ j (hj : j < l.length), findF all (l[j]'hj).name = ((i + j : Nat) : Int) := by
  intro l
  induction l with
  | nil => intro i _ j hj; simp at hj
  | cons d l ih =>
    intro i h j hj
    unfold badNameF at h
    split at h
    · cases h
    · rename_i hd
      have hd' : findF all d.name = (i : Int) := Classical.byContradiction hd
      split at h
      · cases h
      · cases j with
        | zero => exact hd'
        | succ j =>
          have := ih (i + 1) h j (by simpa using hj)
          rw [List.getElem_cons_succ, this]
          congr 1; omega
theorem dx_two {ts : List Tk} {f : Nd → Nd} {ns : List Nd} : ∀ {l : List Dc} {m : List Dl}, All2 (DX ts f ns) l m → l.map (fun d => (d.name, d.kind)) = m.map fun x => (nameD ts x, x.kind) := by
  intro l
  induction l with
  | nil => intro m h; cases m with
    | nil => rfl
    | cons x m => exact h.elim
  | cons d l ih => intro m h; cases m with
    | nil => exact h.elim
    | cons x m => rw [List.map_cons, List.map_cons, h.1.name, h.1.kind, ih h.2]
theorem declsD_num (ts : List Tk) : ∀ (L : List Dl) (off a b k : Nat) (d : Dc) (x : Dl), (declsD ts L off a b)[k]? = some d → L[k]? = some x → x.kind ≠ 0 → d.number = b + cntE L k := by
  intro L
  induction L with
  | nil => intro off a b k d x h; simp [declsD] at h
  | cons z r ih =>
    intro off a b k d x h1 h2 hk
    simp only [declsD] at h1
    cases k with
    | zero =>
      rw [List.getElem?_cons_zero] at h2
      cases h2
      rw [if_neg hk, List.getElem?_cons_zero] at h1
      cases h1
      simp [cntE, eqL, dcEq]
    | succ k =>
      rw [List.getElem?_cons_succ] at h2
      by_cases hz : z.kind = 0
      · rw [if_pos hz, List.getElem?_cons_succ] at h1
        rw [ih _ _ _ k d x h1 h2 hk]
        simp [cntE, eqL, hz]
      · rw [if_neg hz, List.getElem?_cons_succ] at h1
        rw [ih _ _ _ k d x h1 h2 hk]
        simp [cntE, eqL, hz]; omega
def readR (ts : List Tk) (L : List Dl) : Nat × Nat :=
  match manyR ts L with
  | some a => (3, a)
  | none => match namesR ts L with
    | some a => (4, a)
    | none => match typesR ts L with
      | some a => (5, a)
      | none => match cycR ts L with
        | some a => (6, a)
        | none => match lpR ts L with
          | some a => (7, a)
          | none => (0, 0)
theorem meaning_ref {ts : List Tk} (hF : ∀ i, TkF (tkAt ts i)) (hP : PosLt ts) (hE : ∀ i, (tkAt ts i).kind = 0 → ts.length ≤ i + 1) (L : List Dl) (hL : Spell ts L 0) (ht : 0 < ts.length) :
    meaningF (declsD ts L 0 0 0) ((nodesD ts L 0).map (bindF (declsD ts L 0 0 0))) = readR ts L := by
  obtain ⟨ds, hds⟩ : ∃ ds, ds = declsD ts L 0 0 0 := ⟨_, rfl⟩
  obtain ⟨ns, hns⟩ : ∃ ns, ns = (nodesD ts L 0).map (bindF ds) := ⟨_, rfl⟩
  rw [← hds, ← hns]
  have hmany : tooManyF ds = manyR ts L := by rw [hds]; exact many_eq hP L 0 0 0 0 hL (by omega) (by omega)
  have hnm : ds.map Dc.name = L.map (nameD ts) := by rw [hds]; exact declsD_names ts L 0 0 0
  have hnames : badNameF ds ns 0 ds = namesR ts L := by
    have := names_eq hF hE L hL ds hnm L [] 0 0 0 0 [] [] rfl hL (by omega) (by rw [List.nil_append]; exact hds) rfl rfl
    rw [List.nil_append, ← hns, ← hds] at this
    exact this
  have hdx : All2 (DX ts (bindF ds) ns) ds L := by
    have := dx_all ts (bindF ds) L 0 0 0 [] rfl
    rw [List.nil_append, ← hns, ← hds] at this
    exact this
  unfold meaningF readR
  rw [hmany, hnames]
  cases manyR ts L with
  | some a => rfl
  | none =>
    simp only
    cases hn : namesR ts L with
    | some a => rfl
    | none =>
      simp only
      rw [hn] at hnames
      have hN : NamesOk ts L ds := ⟨fun j hj => by have := badName_own ds 0 hnames j hj; rw [this, Nat.zero_add], dx_two hdx⟩
      have hsp : ∀ x ∈ L, x.kind ≠ 0 → Sp ts x.t (x.i + 5) ∧ x.i + 5 + x.t.len ≤ ts.length := by
        intro x hx hk
        obtain ⟨_, h2, h3⟩ := spell_mem _ _ hL x hx
        have hlen : x.len = x.t.len + 6 := by unfold Dl.len; rw [if_neg hk]
        refine ⟨?_, by omega⟩
        rcases h3 with ⟨h, _⟩ | ⟨_, _, _, _, _, h, _⟩
        · exact absurd h hk
        · exact h
      have hd : ∀ x ∈ L, x.kind ≠ 0 → ∀ y ∈ nmD ts x.t (x.i + 5) false, 0 ≤ findF ds (tkAt ts y.1).text := by
        intro x hx hk y hy
        obtain ⟨k, hk2, rfl⟩ := List.getElem_of_mem hx
        rcases hdx.getOpt k with ⟨_, h2⟩ | ⟨d, z, h1, h2, h3⟩
        · rw [List.getElem?_eq_getElem hk2] at h2; cases h2
        · rw [List.getElem?_eq_getElem hk2] at h2
          cases h2
          have hnone := badName_none ds 0 hnames d (List.mem_of_getElem? h1)
          obtain ⟨o, ho⟩ := h3.some hk
          have hmem : bindF ds (nmNd ts y) ∈ seg ns d.root d.fin := by
            rw [ho]
            have : bindF ds (nmNd ts y) ∈ (((flat ts (L[k]'hk2).t ((L[k]'hk2).i + 5) 0 o).map (bindF ds)).filter fun n => n.kind == 2) := by
              rw [bind_filter, flat_names hF _ _ _ _ (hsp _ hx hk).1]
              exact List.mem_map.2 ⟨_, List.mem_map.2 ⟨y, hy, rfl⟩, rfl⟩
            exact (List.mem_filter.1 this).1
          have := badNode_none _ hnone _ hmem (by rw [bind_nm]; rfl)
          rw [bind_nm] at this
          exact this
      have htot : (nodesD ts L 0).length = totN L := nodesD_len ts L 0
      have hnl : ns.length = totN L := by rw [hns, List.length_map, htot]
      have htypes : badTypeF ds 0 ns (roots ds (List.replicate ns.length false)) = typesR ts L := by
        have hT : TrOk L 0 (roots ds (List.replicate ns.length false)) := by
          rw [hds]
          refine roots_ok ts L 0 0 0 _ (fun j _ => ?_) (by simp [hnl])
          rw [List.getD_eq_getElem?_getD, List.getElem?_replicate]
          split <;> rfl
        have := types_eq hF hN L 0 0 (roots ds (List.replicate ns.length false)) hL hT (by rw [roots_len]; simp [hnl]) hd
        rw [← hns] at this
        exact this
      rw [htypes]
      cases typesR ts L with
      | some a => rfl
      | none =>
        simp only
        rw [cycle_eq hF hN hsp hd hdx]
        cases cycR ts L with
        | some a => rfl
        | none =>
          simp only
          rw [loop_eq hF hN hsp hd hdx (fun a d x h1 h2 hk => by rw [hds] at h1; have := declsD_num ts L 0 0 0 a d x h1 h2 hk; rw [this, Nat.zero_add])]
          cases lpR ts L <;> rfl
theorem warsh_up (M : Mx) (i j : Nat) (h : M i j = true) : ∀ n, warsh M n i j = true := by
  intro n
  induction n with
  | zero => exact h
  | succ n ih => show phase (warsh M n) n i j = true; unfold phase; rw [ih]; rfl
theorem warsh_trans (M : Mx) : ∀ n k i j, k < n → warsh M n i k = true → warsh M n k j = true → warsh M n i j = true := by
  intro n
  induction n with
  | zero => intro k i j h; omega
  | succ n ih =>
    intro k i j hk h1 h2
    change phase (warsh M n) n i k = true at h1
    change phase (warsh M n) n k j = true at h2
    show phase (warsh M n) n i j = true
    unfold phase at *
    simp only [Bool.or_eq_true, Bool.and_eq_true] at *
    by_cases e : k = n
    · subst e
      have a1 : warsh M k i k = true := h1.elim id And.left
      have a2 : warsh M k k j = true := h2.elim id And.right
      exact .inr ⟨a1, a2⟩
    · have hk' : k < n := by omega
      rcases h1 with a | ⟨a1, a2⟩ <;> rcases h2 with b | ⟨b1, b2⟩
      · exact .inl (ih k i j hk' a b)
      · exact .inr ⟨ih k i n hk' a b1, b2⟩
      · exact .inr ⟨a1, ih k n j hk' a2 b⟩
      · exact .inr ⟨a1, b2⟩
theorem filter_lt {p q : Nat → Bool} : ∀ (l : List Nat), (∀ x ∈ l, p x = true → q x = true) → (∃ x ∈ l, q x = true ∧ p x = false) → (l.filter p).length < (l.filter q).length := by
  have le : ∀ (l : List Nat), (∀ x ∈ l, p x = true → q x = true) → (l.filter p).length ≤ (l.filter q).length := by
    intro l
    induction l with
    | nil => intro _; exact Nat.le_refl _
    | cons a r ih =>
      intro h
      have ih' := ih fun x hx => h x (List.mem_cons_of_mem _ hx)
      have ha := h a (by simp)
      simp only [List.filter_cons]
      cases hp : p a <;> cases hq : q a
      · simpa using ih'
      · simp; omega
      · rw [ha hp] at hq; cases hq
      · simp; omega
  intro l
  induction l with
  | nil => rintro _ ⟨x, hx, _⟩; simp at hx
  | cons a r ih =>
    rintro h ⟨x, hx, hqx, hpx⟩
    have h' := fun x hx => h x (List.mem_cons_of_mem a hx)
    have ha := h a (by simp)
    have hle := le r h'
    simp only [List.filter_cons]
    rcases List.mem_cons.1 hx with rfl | hx
    · rw [hqx, hpx]; simp; omega
    · have := ih h' ⟨x, hx, hqx, hpx⟩
      cases hp : p a <;> cases hq : q a
      · simpa using this
      · simp; omega
      · rw [ha hp] at hq; cases hq
      · simp; omega
def rankM (M : Mx) (m i : Nat) : Nat := ((List.range m).filter (warsh M m i)).length
theorem rank_lt {M : Mx} {m i : Nat} (hc : warsh M m i i = false) (hi : i < m) : rankM M m i < m := by
  have h := filter_lt (p := warsh M m i) (q := fun _ => true) (List.range m) (fun _ _ _ => rfl) ⟨i, by simpa using hi, rfl, hc⟩
  have e : ((List.range m).filter fun _ => true).length = m := by rw [List.filter_eq_self.2 (fun _ _ => rfl), List.length_range]
  unfold rankM
  omega
theorem rank_less {M : Mx} {m i j : Nat} (hj : j < m) (hc : warsh M m j j = false) (h : M i j = true) : rankM M m j < rankM M m i := by
  have hij := warsh_up M i j h m
  exact filter_lt (List.range m) (fun x _ hx => warsh_trans M m j i x hj hij hx) ⟨j, by simpa using hj, hij, hc⟩
theorem firstC_none {ts : List Tk} {W : Mx} : ∀ (l : List Dl) (i : Nat), firstC ts W i l = none → ∀ k, k < l.length → W (i + k) (i + k) = false := by
  intro l
  induction l with
  | nil => intro i _ k hk; simp at hk
  | cons x r ih =>
    intro i h k hk
    unfold firstC at h
    cases hw : W i i with
    | true => rw [if_pos hw] at h; cases h
    | false =>
      rw [if_neg (by rw [hw]; decide)] at h
      cases k with
      | zero => exact hw
      | succ k => have := ih (i + 1) h k (by simpa using hk); rwa [show i + 1 + k = i + (k + 1) by omega] at this
def rk (ts : List Tk) (L : List Dl) (i : Nat) : Nat := rankM (relR ts L) (eqL L).length i
theorem rk_lt {ts : List Tk} {L : List Dl} (h : cycR ts L = none) {i : Nat} (hi : i < (eqL L).length) : rk ts L i < (eqL L).length :=
  rank_lt (by have := firstC_none _ _ h i hi; rwa [Nat.zero_add] at this) hi
theorem rk_less {ts : List Tk} {L : List Dl} (h : cycR ts L = none) {i j : Nat} (hj : j < (eqL L).length) (hr : relR ts L i j = true) : rk ts L j < rk ts L i :=
  rank_less hj (by have := firstC_none _ _ h j hj; rwa [Nat.zero_add] at this) hr
def w64 (x : Int) : Int := Go.RowKit.wrap64 x
def b2i (b : Bool) : Int := if b then 1 else 0
def apF (o : List UInt8) (a b : Int) : Int :=
  if o = [43] then w64 (a + b) else if o = [45] then w64 (a - b) else if o = [42] then w64 (a * b)
  else if o = [47] then (if b = 0 then 0 else w64 (a.tdiv b)) else if o = [60] then b2i (decide (a < b)) else if o = [61] then b2i (decide (a = b))
  else if o = [38] then b2i (decide (a = 1) && decide (b = 1)) else b2i (decide (a = 1) || decide (b = 1))
def litV (t : Tk) : Int := if t.kind = 3 then (valOf t.l : Int) else b2i (decide (t.l = kTrue))
def evT (ts : List Tk) (V : List UInt8 → Nat → Int) : Ast → Nat → Nat → Int
  | .leaf, i, n => if (tkAt ts i).kind = 1 then V (lAt ts i) n else litV (tkAt ts i)
  | .neg a, i, n => w64 (1 - evT ts V a (i + 2) n)
  | .ite a b c, i, n => if evT ts V a (i + 2) n = 1 then evT ts V b (i + 2 + a.len) n else evT ts V c (i + 2 + a.len + b.len) n
  | .dly _, i, 0 => litV (tkAt ts (i + 1))
  | .dly b, i, n + 1 => evT ts V b (i + 3) n
  | .bin a b, i, n => apF (lAt ts (i + 1 + a.len)) (evT ts V a (i + 1) n) (evT ts V b (i + 2 + a.len) n)
def und (ts : List Tk) : Ast → Nat → List Nat
  | .leaf, i => if (tkAt ts i).kind = 1 then [i] else []
  | .neg a, i => und ts a (i + 2)
  | .ite a b c, i => und ts a (i + 2) ++ (und ts b (i + 2 + a.len) ++ und ts c (i + 2 + a.len + b.len))
  | .dly _, _ => []
  | .bin a b, i => und ts a (i + 1) ++ und ts b (i + 2 + a.len)
def nms (ts : List Tk) : Ast → Nat → List Nat
  | .leaf, i => if (tkAt ts i).kind = 1 then [i] else []
  | .neg a, i => nms ts a (i + 2)
  | .ite a b c, i => nms ts a (i + 2) ++ (nms ts b (i + 2 + a.len) ++ nms ts c (i + 2 + a.len + b.len))
  | .dly b, i => nms ts b (i + 3)
  | .bin a b, i => nms ts a (i + 1) ++ nms ts b (i + 2 + a.len)
theorem und_nms (ts : List Tk) : ∀ (t : Ast) (i : Nat), ∀ j ∈ und ts t i, j ∈ nms ts t i := by
  intro t
  induction t with
  | leaf => intro i j h; exact h
  | neg a iha => intro i j h; exact iha _ j h
  | ite a b c iha ihb ihc =>
    intro i j h
    simp only [und, nms, List.mem_append] at *
    exact h.imp (iha _ j) (Or.imp (ihb _ j) (ihc _ j))
  | dly b ihb => intro i j h; simp [und] at h
  | bin a b iha ihb =>
    intro i j h
    simp only [und, nms, List.mem_append] at *
    exact h.imp (iha _ j) (ihb _ j)
theorem nms_nmD (ts : List Tk) : ∀ (t : Ast) (i : Nat) (dl : Bool), nms ts t i = (nmD ts t i dl).map Prod.fst := by
  intro t
  induction t with
  | leaf => intro i dl; simp only [nms, nmD]; split <;> rfl
  | neg a iha => intro i dl; exact iha _ dl
  | ite a b c iha ihb ihc => intro i dl; simp only [nms, nmD, List.map_append]; rw [iha _ dl, ihb _ dl, ihc _ dl]
  | dly b ihb => intro i dl; exact ihb _ true
  | bin a b iha ihb => intro i dl; simp only [nms, nmD, List.map_append]; rw [iha _ dl, ihb _ dl]
theorem und_nmD (ts : List Tk) : ∀ (t : Ast) (i : Nat), ∀ j ∈ und ts t i, (j, false) ∈ nmD ts t i false := by
  intro t
  induction t with
  | leaf => intro i j h; simp only [und, nmD] at *; split at h <;> simp_all
  | neg a iha => intro i j h; exact iha _ j h
  | ite a b c iha ihb ihc =>
    intro i j h
    simp only [und, nmD, List.mem_append] at *
    exact h.imp (iha _ j) (Or.imp (ihb _ j) (ihc _ j))
  | dly b ihb => intro i j h; simp [und] at h
  | bin a b iha ihb =>
    intro i j h
    simp only [und, nmD, List.mem_append] at *
    exact h.imp (iha _ j) (ihb _ j)
theorem evT_congr (ts : List Tk) {V V' : List UInt8 → Nat → Int} : ∀ (t : Ast) (i n : Nat), (∀ j ∈ und ts t i, V (lAt ts j) n = V' (lAt ts j) n) → (∀ w n', n' < n → V w n' = V' w n') → evT ts V t i n = evT ts V' t i n := by
  intro t
  induction t with
  | leaf =>
    intro i n h _
    unfold evT
    by_cases hk : (tkAt ts i).kind = 1
    · rw [if_pos hk, if_pos hk]; exact h i (by unfold und; rw [if_pos hk]; simp)
    · rw [if_neg hk, if_neg hk]
  | neg a iha => intro i n h h2; simp only [evT]; rw [iha _ n h h2]
  | ite a b c iha ihb ihc =>
    intro i n h h2
    simp only [und, List.mem_append] at h
    simp only [evT]
    rw [iha _ n (fun j hj => h j (.inl hj)) h2, ihb _ n (fun j hj => h j (.inr (.inl hj))) h2, ihc _ n (fun j hj => h j (.inr (.inr hj))) h2]
  | dly b ihb =>
    intro i n h h2
    cases n with
    | zero => rfl
    | succ n => simp only [evT]; exact ihb _ n (fun j _ => h2 _ n (by omega)) (fun w n' hn => h2 w n' (by omega))
  | bin a b iha ihb =>
    intro i n h h2
    simp only [und, List.mem_append] at h
    simp only [evT]
    rw [iha _ n (fun j hj => h j (.inl hj)) h2, ihb _ n (fun j hj => h j (.inr hj)) h2]
def nmIs (ts : List Tk) (w : List UInt8) (x : Dl) : Bool := (nameD ts x).data.toList == w
def inIx (ts : List Tk) (L : List Dl) (w : List UInt8) : Option Nat := (inL L).findIdx? (nmIs ts w)
def eqIx (ts : List Tk) (L : List Dl) (w : List UInt8) : Option Nat := (eqL L).findIdx? (nmIs ts w)
def elemF (ins : List (List Int)) (i k : Nat) : Int := (ins.getD i []).getD k 0
def valV (ts : List Tk) (L : List Dl) (ins : List (List Int)) (R : Nat → Nat → Int) (w : List UInt8) (n : Nat) : Int :=
  match inIx ts L w with
  | some i => elemF ins i n
  | none => match eqIx ts L w with
    | some j => R j n
    | none => 0
def bodyV (ts : List Tk) (E : List Dl) (V : List UInt8 → Nat → Int) (j n : Nat) : Int :=
  match E[j]? with
  | some x => evT ts V x.t (x.i + 5) n
  | none => 0
def solF (ts : List Tk) (L : List Dl) (ins : List (List Int)) : Nat → Nat → Nat → Int
  | 0, _, _ => 0
  | f + 1, j, n => bodyV ts (eqL L) (valV ts L ins (solF ts L ins f)) j n
def sol (ts : List Tk) (L : List Dl) (ins : List (List Int)) (j n : Nat) : Int := solF ts L ins (n * ((eqL L).length + 1) + (eqL L).length + 1) j n
theorem valV_congr {ts : List Tk} {L : List Dl} {ins : List (List Int)} {R R' : Nat → Nat → Int} {w : List UInt8} {n : Nat} (h : ∀ j, eqIx ts L w = some j → R j n = R' j n) : valV ts L ins R w n = valV ts L ins R' w n := by
  unfold valV
  cases inIx ts L w with
  | some i => rfl
  | none =>
    cases he : eqIx ts L w with
    | none => rfl
    | some j => exact h j he
theorem eqIx_some {ts : List Tk} {L : List Dl} {w : List UInt8} {j : Nat} (h : eqIx ts L w = some j) : ∃ x, (eqL L)[j]? = some x ∧ (nameD ts x).data.toList = w := by
  obtain ⟨hj, hp, _⟩ := List.findIdx?_eq_some_iff_getElem.1 h
  exact ⟨(eqL L)[j], List.getElem?_eq_getElem hj, by simpa [nmIs] using hp⟩
theorem rel_und {ts : List Tk} (hF : ∀ i, TkF (tkAt ts i)) {L : List Dl} {i l j : Nat} {x : Dl} (hx : (eqL L)[i]? = some x) (hs : Sp ts x.t (x.i + 5)) (hl : x.i + 5 + x.t.len ≤ ts.length) (hj : j ∈ und ts x.t (x.i + 5)) (he : eqIx ts L (lAt ts j) = some l) : relR ts L i l = true := by
  obtain ⟨z, hz, hn⟩ := eqIx_some he
  unfold relR
  rw [hx, hz]
  show hangsR ts x (nameD ts z).data.toList = true
  rw [hangs_nm hF x hs hl, List.any_eq_true]
  exact ⟨(j, false), und_nmD ts _ _ j hj, by simp [hn]⟩
structure Eqs (ts : List Tk) (L : List Dl) : Prop where
  F : ∀ i, TkF (tkAt ts i)
  sp : ∀ x ∈ eqL L, Sp ts x.t (x.i + 5) ∧ x.i + 5 + x.t.len ≤ ts.length
  cyc : cycR ts L = none
section
variable {ts : List Tk} {L : List Dl} {ins : List (List Int)} (H : Eqs ts L)
include H
theorem sol_stable : ∀ m f f' j n, j < (eqL L).length → n * ((eqL L).length + 1) + rk ts L j ≤ m → m < f → m < f' → solF ts L ins f j n = solF ts L ins f' j n := by
  intro m
  induction m using Nat.strongRecOn with
  | ind m ih =>
    intro f f' j n hj hm hf hf'
    obtain ⟨f, rfl⟩ : ∃ g, f = g + 1 := ⟨f - 1, by omega⟩
    obtain ⟨f', rfl⟩ : ∃ g, f' = g + 1 := ⟨f' - 1, by omega⟩
    have hx : (eqL L)[j]? = some (eqL L)[j] := List.getElem?_eq_getElem hj
    obtain ⟨hs, hl⟩ := H.sp (eqL L)[j] (List.getElem_mem hj)
    simp only [solF, bodyV, hx]
    refine evT_congr ts _ _ _ (fun k hk => valV_congr fun l hl' => ?_) (fun w n' hn => valV_congr fun l hl' => ?_)
    · have hr := rel_und H.F hx hs hl hk hl'
      obtain ⟨z, hz, _⟩ := eqIx_some hl'
      have hlt : l < (eqL L).length := (List.getElem?_eq_some_iff.1 hz).1
      have hrk := rk_less H.cyc hlt hr
      exact ih (n * ((eqL L).length + 1) + rk ts L l) (by omega) f f' l n hlt (Nat.le_refl _) (by omega) (by omega)
    · obtain ⟨z, hz, _⟩ := eqIx_some hl'
      have hlt : l < (eqL L).length := (List.getElem?_eq_some_iff.1 hz).1
      have hrk := rk_lt H.cyc hlt
      have hmul : (n' + 1) * ((eqL L).length + 1) ≤ n * ((eqL L).length + 1) := Nat.mul_le_mul_right _ (by omega)
      rw [Nat.succ_mul] at hmul
      exact ih (n' * ((eqL L).length + 1) + rk ts L l) (by omega) f f' l n' hlt (Nat.le_refl _) (by omega) (by omega)
theorem sol_eq (j n : Nat) (hj : j < (eqL L).length) : sol ts L ins j n = evT ts (valV ts L ins (sol ts L ins)) (eqL L)[j].t ((eqL L)[j].i + 5) n := by
  have hx : (eqL L)[j]? = some (eqL L)[j] := List.getElem?_eq_getElem hj
  obtain ⟨hs, hl⟩ := H.sp (eqL L)[j] (List.getElem_mem hj)
  have hjr := rk_lt H.cyc hj
  show bodyV ts (eqL L) (valV ts L ins (solF ts L ins (n * ((eqL L).length + 1) + (eqL L).length))) j n = _
  simp only [bodyV, hx]
  refine evT_congr ts _ _ _ (fun k hk => valV_congr fun l hl' => ?_) (fun w n' hn => valV_congr fun l hl' => ?_)
  · have hr := rel_und H.F hx hs hl hk hl'
    obtain ⟨z, hz, _⟩ := eqIx_some hl'
    have hlt : l < (eqL L).length := (List.getElem?_eq_some_iff.1 hz).1
    have hrk := rk_less H.cyc hlt hr
    exact sol_stable H (n * ((eqL L).length + 1) + rk ts L l) _ _ l n hlt (Nat.le_refl _) (by omega) (by omega)
  · obtain ⟨z, hz, _⟩ := eqIx_some hl'
    have hlt : l < (eqL L).length := (List.getElem?_eq_some_iff.1 hz).1
    have hrk := rk_lt H.cyc hlt
    have hmul : (n' + 1) * ((eqL L).length + 1) ≤ n * ((eqL L).length + 1) := Nat.mul_le_mul_right _ (by omega)
    rw [Nat.succ_mul] at hmul
    exact sol_stable H (n' * ((eqL L).length + 1) + rk ts L l) _ _ l n' hlt (Nat.le_refl _) (by omega) (by omega)
end
structure OpF where
  k : Int
  a : Int
  b : Int
  c : Int
structure EvF where
  k : Int
  a : Int
  did : Int
  n : Int
  took : List Nat
  vals : List Int
structure LnF where
  src : Int
  dst : Int
  late : Bool
abbrev PastF := List (OpF × EvF)
def isD (pl what : Int) (x : OpF × EvF) : Bool := decide (x.2.k = pl) && decide (x.2.did = what)
def didF (P : PastF) (pl what now : Int) (data : Bool) : Nat := (P.filter fun x => isD pl what x && decide (x.2.a + (if data then x.1.c else 0) ≤ now)).length
def takenF (now : Int) (l : Nat) (ack : Bool) : PastF → Nat
  | [] => 0
  | x :: P => (if x.2.a + (if ack then x.1.b else 0) ≤ now then x.2.took.count l else 0) + takenF now l ack P
def lnAt (N : List LnF) (l : Nat) : LnF := N.getD l ⟨-1, -1, false⟩
def lateN (N : List LnF) (l : Nat) : Nat := if (lnAt N l).late then 1 else 0
def slotF (N : List LnF) (P : PastF) (a : OpF) (l : Nat) : Int := (takenF a.a l false P : Int) + lateN N l - didF P a.k 1 a.a false
def canF (N : List LnF) (P : PastF) (a : OpF) (l : Nat) : Bool := decide ((lnAt N l).dst = a.k) && (decide (slotF N P a l = 0) && decide (takenF a.a l false P < didF P (lnAt N l).src 2 a.a true))
def tookF (N : List LnF) (P : PastF) (a : OpF) : List Nat := (List.range N.length).filter (canF N P a)
def readyF (N : List LnF) (P : PastF) (a : OpF) : Bool :=
  decide (didF P a.k 1 a.a false = didF P a.k 2 a.a false) && (List.range N.length).all fun l => !decide ((lnAt N l).dst = a.k) || decide ((if canF N P a l then 1 else slotF N P a l) = 1)
def freeF (N : List LnF) (P : PastF) (a : OpF) : Bool :=
  decide (didF P a.k 2 a.a false < didF P a.k 1 a.a false) && (List.range N.length).all fun l => !decide ((lnAt N l).src = a.k) || decide (takenF a.a l true P = didF P a.k 2 a.a false)
def wakeF (N : List LnF) (V : Int → Nat → List Int) (P : PastF) (a : OpF) : EvF :=
  ⟨a.k, a.a, if readyF N P a then 1 else if freeF N P a then 2 else 0, if readyF N P a then (didF P a.k 1 a.a false : Int) else if freeF N P a then (didF P a.k 2 a.a false : Int) else 0, tookF N P a, if readyF N P a then [] else if freeF N P a then V a.k (didF P a.k 2 a.a false) else []⟩
def runG (N : List LnF) (V : Int → Nat → List Int) : PastF → List OpF → PastF
  | P, [] => P
  | P, a :: r => runG N V (P ++ [(a, wakeF N V P a)]) r
def cntF (P : PastF) (pl what : Int) : Nat := (P.filter (isD pl what)).length
def tkF (l : Nat) : PastF → Nat
  | [] => 0
  | x :: P => x.2.took.count l + tkF l P
def comesF (pl : Int) : PastF → Int → Int
  | [], z => z
  | x :: P, z => comesF pl P (if isD pl 2 x then x.2.a + x.1.c else z)
def knownF (l : Nat) : PastF → Int → Int
  | [], z => z
  | x :: P, z => knownF l P (if l ∈ x.2.took then x.2.a + x.1.b else z)
theorem takenF_app (now : Int) (l : Nat) (ack : Bool) : ∀ (P Q : PastF), takenF now l ack (P ++ Q) = takenF now l ack P + takenF now l ack Q := by
  intro P
  induction P with
  | nil => intro Q; simp [takenF]
  | cons x P ih => intro Q; simp only [List.cons_append, takenF, ih]; omega
theorem tkF_app (l : Nat) : ∀ (P Q : PastF), tkF l (P ++ Q) = tkF l P + tkF l Q := by
  intro P
  induction P with
  | nil => intro Q; simp [tkF]
  | cons x P ih => intro Q; simp only [List.cons_append, tkF, ih]; omega
theorem comesF_app (pl : Int) : ∀ (P Q : PastF) (z : Int), comesF pl (P ++ Q) z = comesF pl Q (comesF pl P z) := by
  intro P
  induction P with
  | nil => intro Q z; rfl
  | cons x P ih => intro Q z; exact ih Q _
theorem knownF_app (l : Nat) : ∀ (P Q : PastF) (z : Int), knownF l (P ++ Q) z = knownF l Q (knownF l P z) := by
  intro P
  induction P with
  | nil => intro Q z; rfl
  | cons x P ih => intro Q z; exact ih Q _
theorem cntF_snoc (P : PastF) (x : OpF × EvF) (pl what : Int) : cntF (P ++ [x]) pl what = cntF P pl what + (if isD pl what x then 1 else 0) := by
  unfold cntF
  rw [List.filter_append, List.length_append]
  cases h : isD pl what x <;> simp [h]
theorem didF_snoc (P : PastF) (x : OpF × EvF) (pl what now : Int) (data : Bool) : didF (P ++ [x]) pl what now data = didF P pl what now data + (if isD pl what x && decide (x.2.a + (if data then x.1.c else 0) ≤ now) then 1 else 0) := by
  unfold didF
  rw [List.filter_append, List.length_append]
  cases h : (isD pl what x && decide (x.2.a + (if data then x.1.c else 0) ≤ now)) <;> simp [h]
structure PastOk (N : List LnF) (P : PastF) (now : Int) : Prop where
  same : ∀ x ∈ P, x.2.k = x.1.k ∧ x.2.a = x.1.a
  le : ∀ x ∈ P, x.1.a ≤ now
  gap : P.Pairwise fun x y => x.1.a ≤ y.1.a ∧ (x.1.k = y.1.k → x.1.a + x.1.b < y.1.a ∧ x.1.a + x.1.c < y.1.a)
  took : ∀ x ∈ P, x.2.took.Nodup ∧ ∀ l ∈ x.2.took, l < N.length ∧ (lnAt N l).dst = x.2.k
theorem PastOk.init {N : List LnF} {P : PastF} {x : OpF × EvF} {now : Int} (h : PastOk N (P ++ [x]) now) : PastOk N P now ∧ PastOk N P x.1.a ∧ x.1.a ≤ now ∧ x.2.k = x.1.k ∧ x.2.a = x.1.a ∧ (∀ y ∈ P, y.1.k = x.1.k → y.1.a + y.1.b < x.1.a ∧ y.1.a + y.1.c < x.1.a) := by
  have hp := List.pairwise_append.1 h.gap
  have hx : x ∈ P ++ [x] := by simp
  have hy : ∀ y ∈ P, y ∈ P ++ [x] := fun y hy => List.mem_append_left _ hy
  refine ⟨⟨fun y m => h.same y (hy y m), fun y m => h.le y (hy y m), hp.1, fun y m => h.took y (hy y m)⟩, ⟨fun y m => h.same y (hy y m), fun y m => (hp.2.2 y m x (by simp)).1, hp.1, fun y m => h.took y (hy y m)⟩, h.le x hx, (h.same x hx).1, (h.same x hx).2, fun y m => (hp.2.2 y m x (by simp)).2⟩
theorem past_ind {p : PastF → Prop} (h0 : p []) (h1 : ∀ P x, p P → p (P ++ [x])) : ∀ P, p P := by
  have : ∀ n (P : PastF), P.length = n → p P := by
    intro n
    induction n with
    | zero => intro P hP; rw [List.length_eq_zero_iff.1 hP]; exact h0
    | succ n ih =>
      intro P hP
      have hne : P ≠ [] := fun e => by rw [e] at hP; cases hP
      rw [← List.dropLast_concat_getLast hne]
      exact h1 _ _ (ih _ (by simp [hP]))
  exact fun P => this P.length P rfl
theorem did_all {N : List LnF} {P : PastF} {now : Int} (h : PastOk N P now) (pl what : Int) : didF P pl what now false = cntF P pl what := by
  unfold didF cntF
  congr 1
  apply List.filter_congr
  intro x hx
  have h1 := h.le x hx
  have h2 := (h.same x hx).2
  have : decide (x.2.a + (if false = true then x.1.c else 0) ≤ now) = true := by simp; omega
  rw [this, Bool.and_true]
theorem taken_all {N : List LnF} {now : Int} (l : Nat) : ∀ {P : PastF}, PastOk N P now → takenF now l false P = tkF l P := by
  intro P
  induction P with
  | nil => intro _; rfl
  | cons x P ih =>
    intro h
    have h1 := h.le x (by simp)
    have h2 := (h.same x (by simp)).2
    simp only [takenF, tkF]
    rw [if_pos (by simp; omega), ih ⟨fun y m => h.same y (List.mem_cons_of_mem _ m), fun y m => h.le y (List.mem_cons_of_mem _ m), (List.pairwise_cons.1 h.gap).2, fun y m => h.took y (List.mem_cons_of_mem _ m)⟩]
theorem did_come {N : List LnF} {now : Int} (pl : Int) : ∀ P : PastF, PastOk N P now → didF P pl 2 now true = if comesF pl P 0 ≤ now then cntF P pl 2 else cntF P pl 2 - 1 := by
  refine past_ind (fun _ => by simp [didF, cntF]) (fun P x ih h => ?_)
  obtain ⟨i1, i2, i3, i4, i5, i6⟩ := h.init
  rw [didF_snoc, cntF_snoc, comesF_app]
  rcases Bool.eq_false_or_eq_true (isD pl 2 x) with hx | hx
  rotate_left
  · have e : comesF pl [x] (comesF pl P 0) = comesF pl P 0 := by simp only [comesF]; rw [hx]; rfl
    rw [e, hx]
    simp only [Bool.false_and, Bool.false_eq_true, if_false, Nat.add_zero]
    exact ih i1
  · have e : comesF pl [x] (comesF pl P 0) = x.2.a + x.1.c := by simp only [comesF]; rw [hx]; rfl
    rw [e, hx]
    have hk : x.2.k = pl := by unfold isD at hx; simp at hx; exact hx.1
    have hall : didF P pl 2 now true = cntF P pl 2 := by
      unfold didF cntF
      congr 1
      apply List.filter_congr
      intro y hy
      cases hyd : isD pl 2 y with
      | false => rfl
      | true =>
        have hky : y.2.k = pl := by unfold isD at hyd; simp at hyd; exact hyd.1
        have h1 := i1.same y hy
        have h2 := (i6 y hy (by rw [← h1.1, ← i4, hky, hk])).2
        rw [Bool.true_and, decide_eq_true_iff, if_pos rfl]
        omega
    rw [hall]
    by_cases hc : x.2.a + x.1.c ≤ now
    · simp [hc]
    · simp [hc]
theorem count_one {t : List Nat} (h : t.Nodup) (l : Nat) : t.count l = if l ∈ t then 1 else 0 := h.count
theorem taken_known {N : List LnF} {now : Int} (l : Nat) : ∀ P : PastF, PastOk N P now → takenF now l true P = if knownF l P 0 ≤ now then tkF l P else tkF l P - 1 := by
  refine past_ind (fun _ => by simp [takenF, tkF, knownF]) (fun P x ih h => ?_)
  obtain ⟨i1, i2, i3, i4, i5, i6⟩ := h.init
  rw [takenF_app, tkF_app, knownF_app]
  obtain ⟨hnd, htk⟩ := h.took x (by simp)
  simp only [takenF, tkF, knownF, Nat.add_zero]
  rw [count_one hnd l]
  by_cases hm : l ∈ x.2.took
  · have hall : takenF now l true P = tkF l P := by
      have key : ∀ Q : PastF, (∀ y ∈ Q, y ∈ P) → takenF now l true Q = tkF l Q := by
        intro Q
        induction Q with
        | nil => intro _; rfl
        | cons y Q ihQ =>
          intro hQ
          have hyP := hQ y (by simp)
          simp only [takenF, tkF]
          rw [ihQ (fun z hz => hQ z (List.mem_cons_of_mem _ hz))]
          obtain ⟨nd, tk⟩ := i1.took y hyP
          rw [count_one nd l]
          by_cases hl : l ∈ y.2.took
          · have e1 := (tk l hl).2
            have e2 := (htk l hm).2
            have h1 := i1.same y hyP
            have h2 := (i6 y hyP (by rw [← h1.1, ← i4, ← e1, ← e2])).1
            rw [if_pos (by simp; omega)]
          · simp [hl]
      exact key P (fun y hy => hy)
    rw [hall]
    simp only [hm, if_true]
    by_cases hc : x.2.a + x.1.b ≤ now
    · simp [hc]
    · simp [hc]
  · simp only [hm, if_false, Nat.add_zero]
    rw [ih i1]
    split <;> simp
structure RunInv (N : List LnF) (P : PastF) : Prop where
  turn : ∀ pl, cntF P pl 2 ≤ cntF P pl 1 ∧ cntF P pl 1 ≤ cntF P pl 2 + 1
  sent : ∀ l, l < N.length → tkF l P ≤ cntF P (lnAt N l).src 2 ∧ cntF P (lnAt N l).src 2 ≤ tkF l P + 1
  slot : ∀ l, l < N.length → cntF P (lnAt N l).dst 1 ≤ tkF l P + lateN N l ∧ tkF l P + lateN N l ≤ cntF P (lnAt N l).dst 1 + 1
def Apart (N : List LnF) : Prop := ∀ l, l < N.length → (lnAt N l).src ≠ (lnAt N l).dst
theorem lateN_le (N : List LnF) (l : Nat) : lateN N l ≤ 1 := by unfold lateN; split <;> omega
section
variable {N : List LnF} {P : PastF} {a : OpF} (hO : PastOk N P a.a) (hI : RunInv N P)
include hO
theorem slot_eq (l : Nat) : slotF N P a l = (tkF l P : Int) + lateN N l - cntF P a.k 1 := by
  unfold slotF; rw [taken_all l hO, did_all hO]
include hI
theorem can_iff {l : Nat} (hl : l < N.length) : canF N P a l = true ↔ (lnAt N l).dst = a.k ∧ tkF l P < cntF P (lnAt N l).src 2 ∧ comesF (lnAt N l).src P 0 ≤ a.a ∧ tkF l P + lateN N l = cntF P a.k 1 := by
  have hs := hI.sent l hl
  unfold canF
  rw [slot_eq hO, taken_all l hO, did_come (lnAt N l).src P hO]
  simp only [Bool.and_eq_true, decide_eq_true_eq]
  constructor
  · rintro ⟨h1, h2, h3⟩
    split at h3
    · rename_i hc; exact ⟨h1, h3, hc, by omega⟩
    · omega
  · rintro ⟨h1, h2, h3, h4⟩
    refine ⟨h1, by omega, ?_⟩
    rw [if_pos h3]; exact h2
omit hO hI in
theorem took_mem {l : Nat} : l ∈ tookF N P a ↔ l < N.length ∧ canF N P a l = true := by
  unfold tookF
  rw [List.mem_filter, List.mem_range]
theorem ready_iff : readyF N P a = true ↔ cntF P a.k 1 = cntF P a.k 2 ∧ ∀ l, l < N.length → (lnAt N l).dst = a.k → tkF l P + (if canF N P a l = true then 1 else 0) + lateN N l = cntF P a.k 1 + 1 := by
  unfold readyF
  rw [did_all hO, did_all hO, Bool.and_eq_true, decide_eq_true_iff, List.all_eq_true]
  refine and_congr Iff.rfl ⟨fun h l hl hd => ?_, fun h l hl => ?_⟩
  · have := h l (List.mem_range.2 hl)
    rw [hd] at this
    simp only [decide_true, Bool.not_true, Bool.false_or, decide_eq_true_eq] at this
    by_cases hc : canF N P a l = true
    · have := ((can_iff hO hI hl).1 hc).2.2.2
      rw [if_pos hc]; omega
    · rw [if_neg hc] at this ⊢
      rw [slot_eq hO] at this
      omega
  · by_cases hd : (lnAt N l).dst = a.k
    · have := h l (List.mem_range.1 hl) hd
      rw [hd]
      simp only [decide_true, Bool.not_true, Bool.false_or, decide_eq_true_eq]
      by_cases hc : canF N P a l = true
      · rw [if_pos hc]
      · rw [if_neg hc] at this ⊢
        rw [slot_eq hO]; omega
    · simp [hd]
theorem free_iff : freeF N P a = true ↔ cntF P a.k 1 = cntF P a.k 2 + 1 ∧ ∀ l, l < N.length → (lnAt N l).src = a.k → tkF l P = cntF P a.k 2 ∧ (knownF l P 0 ≤ a.a ∨ tkF l P = 0) := by
  have ht := hI.turn a.k
  unfold freeF
  rw [did_all hO, did_all hO, Bool.and_eq_true, decide_eq_true_iff, List.all_eq_true]
  refine and_congr (by omega) ⟨fun h l hl hd => ?_, fun h l hl => ?_⟩
  · have := h l (List.mem_range.2 hl)
    rw [hd] at this
    simp only [decide_true, Bool.not_true, Bool.false_or, decide_eq_true_eq] at this
    rw [taken_known l P hO] at this
    have hs := hI.sent l hl
    rw [hd] at hs
    split at this
    · rename_i hc; exact ⟨this, .inl hc⟩
    · exact ⟨by omega, .inr (by omega)⟩
  · by_cases hd : (lnAt N l).src = a.k
    · obtain ⟨h1, h2⟩ := h l (List.mem_range.1 hl) hd
      rw [hd]
      simp only [decide_true, Bool.not_true, Bool.false_or, decide_eq_true_eq]
      rw [taken_known l P hO]
      split
      · exact h1
      · rcases h2 with h2 | h2
        · omega
        · omega
    · simp [hd]
end
theorem known_zero (l : Nat) : ∀ P : PastF, (∀ x ∈ P, x.2.took.Nodup) → tkF l P = 0 → ∀ z, knownF l P z = z := by
  intro P
  induction P with
  | nil => intro _ _ z; rfl
  | cons x P ih =>
    intro hn h z
    simp only [tkF] at h
    have hm : l ∉ x.2.took := fun hm => by
      have := List.count_pos_iff.2 hm
      omega
    simp only [knownF]
    rw [if_neg hm]
    exact ih (fun y hy => hn y (List.mem_cons_of_mem _ hy)) (by omega) z
structure ActsOk (sc : List OpF) : Prop where
  nn : ∀ x ∈ sc, 0 ≤ x.a
  gap : sc.Pairwise fun x y => x.a ≤ y.a ∧ (x.k = y.k → x.a + x.b < y.a ∧ x.a + x.c < y.a)
theorem tookF_nodup (N : List LnF) (P : PastF) (a : OpF) : (tookF N P a).Nodup := List.Pairwise.filter _ List.nodup_range
theorem tookF_in (N : List LnF) (P : PastF) (a : OpF) : ∀ l ∈ tookF N P a, l < N.length ∧ (lnAt N l).dst = a.k := by
  intro l hl
  unfold tookF at hl
  rw [List.mem_filter, List.mem_range] at hl
  refine ⟨hl.1, ?_⟩
  have := hl.2
  unfold canF at this
  simp only [Bool.and_eq_true, decide_eq_true_eq] at this
  exact this.1
theorem past_next {N : List LnF} {V : Int → Nat → List Int} {P : PastF} {a : OpF} (hO : PastOk N P a.a) (hg : ∀ x ∈ P, x.1.a ≤ a.a ∧ (x.1.k = a.k → x.1.a + x.1.b < a.a ∧ x.1.a + x.1.c < a.a)) : PastOk N (P ++ [(a, wakeF N V P a)]) a.a := by
  refine ⟨fun x hx => ?_, fun x hx => ?_, ?_, fun x hx => ?_⟩
  · rcases List.mem_append.1 hx with hx | hx
    · exact hO.same x hx
    · rw [List.mem_singleton] at hx; subst hx; exact ⟨rfl, rfl⟩
  · rcases List.mem_append.1 hx with hx | hx
    · exact hO.le x hx
    · rw [List.mem_singleton] at hx; subst hx; exact Int.le_refl _
  · rw [List.pairwise_append]
    exact ⟨hO.gap, List.pairwise_singleton _ _, fun x hx y hy => by rw [List.mem_singleton] at hy; subst hy; exact hg x hx⟩
  · rcases List.mem_append.1 hx with hx | hx
    · exact hO.took x hx
    · rw [List.mem_singleton] at hx; subst hx; exact ⟨tookF_nodup N P a, tookF_in N P a⟩
theorem PastOk.mono {N : List LnF} {P : PastF} {t u : Int} (h : PastOk N P t) (htu : t ≤ u) : PastOk N P u := ⟨h.same, fun x hx => Int.le_trans (h.le x hx) htu, h.gap, h.took⟩
theorem cnt_next (N : List LnF) (V : Int → Nat → List Int) (P : PastF) (a : OpF) (pl what : Int) : cntF (P ++ [(a, wakeF N V P a)]) pl what = cntF P pl what + (if a.k = pl ∧ (wakeF N V P a).did = what then 1 else 0) := by
  rw [cntF_snoc]
  congr 1
  have e : isD pl what (a, wakeF N V P a) = decide (a.k = pl ∧ (wakeF N V P a).did = what) := by
    unfold isD
    show (decide (a.k = pl) && decide ((wakeF N V P a).did = what)) = _
    rw [Bool.decide_and]
  rw [e]
  simp only [decide_eq_true_eq]
theorem tk_next (N : List LnF) (V : Int → Nat → List Int) (P : PastF) (a : OpF) {l : Nat} (hl : l < N.length) : tkF l (P ++ [(a, wakeF N V P a)]) = tkF l P + (if canF N P a l = true then 1 else 0) := by
  rw [tkF_app]
  congr 1
  simp only [tkF, Nat.add_zero]
  show (tookF N P a).count l = _
  rw [count_one (tookF_nodup N P a) l]
  by_cases hc : canF N P a l = true
  · rw [if_pos hc, if_pos (by unfold tookF; rw [List.mem_filter, List.mem_range]; exact ⟨hl, hc⟩)]
  · rw [if_neg hc, if_neg (by unfold tookF; rw [List.mem_filter]; exact fun e => hc e.2)]
theorem did_cases (N : List LnF) (V : Int → Nat → List Int) (P : PastF) (a : OpF) : (readyF N P a = true ∧ (wakeF N V P a).did = 1) ∨ (readyF N P a = false ∧ freeF N P a = true ∧ (wakeF N V P a).did = 2) ∨ (readyF N P a = false ∧ freeF N P a = false ∧ (wakeF N V P a).did = 0) := by
  unfold wakeF
  cases readyF N P a <;> cases freeF N P a <;> simp
theorem inv_next {N : List LnF} {V : Int → Nat → List Int} {P : PastF} {a : OpF} (hA : Apart N) (hO : PastOk N P a.a) (hI : RunInv N P) : RunInv N (P ++ [(a, wakeF N V P a)]) := by
  have hcan : ∀ l, l < N.length → canF N P a l = true → (lnAt N l).dst = a.k ∧ tkF l P < cntF P (lnAt N l).src 2 ∧ tkF l P + lateN N l = cntF P a.k 1 := fun l hl h => by
    obtain ⟨h1, h2, _, h4⟩ := (can_iff hO hI hl).1 h
    exact ⟨h1, h2, h4⟩
  rcases did_cases N V P a with ⟨hr, hd⟩ | ⟨_, hf, hd⟩ | ⟨_, _, hd⟩
  · obtain ⟨e1, e2⟩ := (ready_iff hO hI).1 hr
    refine ⟨fun pl => ?_, fun l hl => ?_, fun l hl => ?_⟩
    · rw [cnt_next, cnt_next, hd]
      have := hI.turn pl
      by_cases h : a.k = pl
      · subst h; simp; omega
      · simp [h]; exact this
    · rw [cnt_next, tk_next N V P a hl, hd]
      have := hI.sent l hl
      by_cases hc : canF N P a l = true
      · have h := hcan l hl hc; rw [if_pos hc]; simp; omega
      · rw [if_neg hc]; simpa using this
    · rw [cnt_next, tk_next N V P a hl, hd]
      have := hI.slot l hl
      by_cases h : a.k = (lnAt N l).dst
      · have h3 := e2 l hl h.symm
        rw [← h, if_pos ⟨rfl, rfl⟩]; omega
      · have hc : ¬ canF N P a l = true := fun hc => h (hcan l hl hc).1.symm
        rw [if_neg hc, if_neg (fun e => h e.1)]; exact this
  · obtain ⟨e1, e2⟩ := (free_iff hO hI).1 hf
    refine ⟨fun pl => ?_, fun l hl => ?_, fun l hl => ?_⟩
    · rw [cnt_next, cnt_next, hd]
      have := hI.turn pl
      by_cases h : a.k = pl
      · subst h; simp; omega
      · simp [h]; exact this
    · rw [cnt_next, tk_next N V P a hl, hd]
      have := hI.sent l hl
      by_cases h : a.k = (lnAt N l).src
      · have hc : ¬ canF N P a l = true := fun hc => hA l hl (h.symm.trans (hcan l hl hc).1.symm)
        have := (e2 l hl h.symm).1
        rw [if_neg hc, if_pos ⟨h, rfl⟩, ← h]; omega
      · have hz : (if a.k = (lnAt N l).src ∧ (2 : Int) = 2 then 1 else 0) = 0 := if_neg (fun e => h e.1)
        rw [hz]
        by_cases hc : canF N P a l = true
        · have := hcan l hl hc; rw [if_pos hc]; omega
        · rw [if_neg hc]; exact this
    · rw [cnt_next, tk_next N V P a hl, hd]
      have := hI.slot l hl
      have hz : (if a.k = (lnAt N l).dst ∧ (2 : Int) = 1 then 1 else 0) = 0 := if_neg (fun e => by have := e.2; revert this; decide)
      rw [hz]
      by_cases hc : canF N P a l = true
      · have h := hcan l hl hc; rw [if_pos hc, h.1]; rw [h.1] at this; omega
      · rw [if_neg hc]; exact this
  · refine ⟨fun pl => ?_, fun l hl => ?_, fun l hl => ?_⟩
    · rw [cnt_next, cnt_next, hd]
      simpa using hI.turn pl
    · rw [cnt_next, tk_next N V P a hl, hd]
      have := hI.sent l hl
      have hz : (if a.k = (lnAt N l).src ∧ (0 : Int) = 2 then 1 else 0) = 0 := if_neg (fun e => by have := e.2; revert this; decide)
      rw [hz]
      by_cases hc : canF N P a l = true
      · have := hcan l hl hc; rw [if_pos hc]; omega
      · rw [if_neg hc]; exact this
    · rw [cnt_next, tk_next N V P a hl, hd]
      have := hI.slot l hl
      have hz : (if a.k = (lnAt N l).dst ∧ (0 : Int) = 1 then 1 else 0) = 0 := if_neg (fun e => by have := e.2; revert this; decide)
      rw [hz]
      by_cases hc : canF N P a l = true
      · have h := hcan l hl hc; rw [if_pos hc, h.1]; rw [h.1] at this; omega
      · rw [if_neg hc]; exact this
theorem inv_start (N : List LnF) : RunInv N [] := ⟨fun _ => by simp [cntF], fun l _ => by simp [cntF, tkF], fun l _ => by simp only [cntF, tkF, List.filter_nil, List.length_nil, Nat.zero_add]; have := lateN_le N l; omega⟩
theorem past_start (N : List LnF) (t : Int) : PastOk N [] t := ⟨fun x hx => by simp at hx, fun x hx => by simp at hx, List.Pairwise.nil, fun x hx => by simp at hx⟩
theorem run_ind {N : List LnF} (hA : Apart N) (V : Int → Nat → List Int) {p : PastF → Prop} (h1 : ∀ P a, PastOk N P a.a → RunInv N P → 0 ≤ a.a → p P → p (P ++ [(a, wakeF N V P a)])) :
    ∀ (sc : List OpF) (P : PastF), (∀ x ∈ sc, 0 ≤ x.a) → (P.map Prod.fst ++ sc).Pairwise (fun x y => x.a ≤ y.a ∧ (x.k = y.k → x.a + x.b < y.a ∧ x.a + x.c < y.a)) → (∀ t, (∀ x ∈ P, x.1.a ≤ t) → PastOk N P t) → RunInv N P → p P → p (runG N V P sc) ∧ RunInv N (runG N V P sc) ∧ ∀ t, (∀ x ∈ runG N V P sc, x.1.a ≤ t) → PastOk N (runG N V P sc) t := by
  intro sc
  induction sc with
  | nil => intro P _ _ hO hI hp; exact ⟨hp, hI, hO⟩
  | cons a r ih =>
    intro P hn hg hO hI hp
    have hga := List.pairwise_append.1 hg
    have hx : ∀ x ∈ P, x.1.a ≤ a.a ∧ (x.1.k = a.k → x.1.a + x.1.b < a.a ∧ x.1.a + x.1.c < a.a) := fun x hx => hga.2.2 x.1 (List.mem_map.2 ⟨x, hx, rfl⟩) a (by simp)
    have hOa : PastOk N P a.a := hO a.a (fun x m => (hx x m).1)
    have hOn := past_next (V := V) hOa hx
    refine ih (P ++ [(a, wakeF N V P a)]) (fun x m => hn x (List.mem_cons_of_mem _ m)) (by simpa using hg) (fun t ht => ?_) (inv_next hA hOa hI) (h1 P a hOa hI (hn a (by simp)) hp)
    exact hOn.mono (ht (a, wakeF N V P a) (by simp))
section
variable {N : List LnF} {V : Int → Nat → List Int} {P : PastF} {a : OpF} (hO : PastOk N P a.a) (hI : RunInv N P)
include hO hI
end
theorem run_app (N : List LnF) (V : Int → Nat → List Int) : ∀ (s t : List OpF) (P : PastF), runG N V P (s ++ t) = runG N V (runG N V P s) t := by
  intro s
  induction s with
  | nil => intro t P; rfl
  | cons a s ih => intro t P; exact ih t _
theorem run_ext (N : List LnF) (V : Int → Nat → List Int) : ∀ (t : List OpF) (P : PastF), ∃ S, runG N V P t = P ++ S ∧ S.map Prod.fst = t ∧ ∀ x ∈ S, x.2.a = x.1.a := by
  intro t
  induction t with
  | nil => intro P; exact ⟨[], by simp [runG], rfl, fun x hx => by simp at hx⟩
  | cons a t ih =>
    intro P
    obtain ⟨S, h1, h2, h3⟩ := ih (P ++ [(a, wakeF N V P a)])
    refine ⟨(a, wakeF N V P a) :: S, ?_, by simp [h2], fun x hx => ?_⟩
    · show runG N V (P ++ [(a, wakeF N V P a)]) t = _
      rw [h1]; simp
    · rcases List.mem_cons.1 hx with rfl | hx
      · rfl
      · exact h3 x hx
structure Bound (N : List LnF) (sc : List OpF) (Q : Int → Prop) (dep : Int → Nat) (Tm Dm h : Int) : Prop where
  ok : ActsOk sc
  dly : ∀ a ∈ sc, a.b ≤ Dm ∧ a.c ≤ Dm
  d0 : 0 ≤ Dm
  t1 : 1 ≤ Tm
  ends : ∀ l, l < N.length → Q (lnAt N l).src ∧ Q (lnAt N l).dst
  first : ∀ q, Q q → Tm ≤ h → ∃ a ∈ sc, a.k = q ∧ a.a ≤ Tm
  act : ∀ q, Q q → ∀ x, 0 ≤ x → x + Tm ≤ h → ∃ a ∈ sc, a.k = q ∧ x < a.a ∧ a.a ≤ x + Tm
  dep : ∀ l, l < N.length → lateN N l = 0 → dep (lnAt N l).src < dep (lnAt N l).dst
section
variable {N : List LnF} (hA : Apart N) (V : Int → Nat → List Int) {sc : List OpF} {Q : Int → Prop} {dep : Int → Nat} {Tm Dm h : Int} (hB : Bound N sc Q dep Tm Dm h)
include hA hB
end
theorem text_read (s : ByteArray) (hs : s.size ≤ 1500) :
    (∃ k, k < (toks s).length ∧ textF s = (2, (tkAt (toks s) k).pos) ∧ ∃ n, Ans (toks s) n [80] 0 0 ((tkAt (toks s) k).pos : Int)) ∨
    (∃ L, Spell (toks s) L 0 ∧ (∃ n, Ans (toks s) n [80] 0 0 (-1)) ∧ textF s = readR (toks s) L ∧ ∃ p, parseF s = .ok p ∧ p.decls = declsD (toks s) L 0 0 0 ∧ p.nodes = nodesD (toks s) L 0) := by
  obtain ⟨hok, hbad⟩ := parseA s hs
  unfold textF
  rw [if_neg (by omega)]
  cases hp : parseF s with
  | error k =>
    obtain ⟨h1, h2⟩ := hbad k hp
    exact .inl ⟨k, h1, rfl, h2⟩
  | ok p =>
    obtain ⟨L, h1, h2, h3, h4⟩ := hok p hp
    refine .inr ⟨L, h1, h4, ?_, p, rfl, h2, h3⟩
    show meaningF p.decls (boundN p) = _
    unfold boundN
    rw [h2, h3]
    exact meaning_ref (toks_F s) (toks_pos s) (toks_end s) L h1 (toks_ok s hs).pos
structure RGood (s : ByteArray) (L : List Dl) : Prop where
  many : manyR (toks s) L = none
  names : namesR (toks s) L = none
  types : typesR (toks s) L = none
  cyc : cycR (toks s) L = none
  lp : lpR (toks s) L = none
  sp : Spell (toks s) L 0
  parse : ∃ p, parseF s = .ok p ∧ p.decls = declsD (toks s) L 0 0 0 ∧ p.nodes = nodesD (toks s) L 0
theorem spell_lt {ts : List Tk} : ∀ (L : List Dl) (i : Nat), Spell ts L i → L.Pairwise (fun x y => x.i + x.len ≤ y.i) := by
  intro L
  induction L with
  | nil => intro i _; exact List.Pairwise.nil
  | cons x r ih =>
    intro i h
    obtain ⟨_, h2, _, _, _, h6⟩ := spell_mid (L2 := r) [] i h
    exact List.Pairwise.cons h2 (ih _ h6)
theorem names_at {ts : List Tk} {L : List Dl} (h : namesR ts L = none) {k : Nat} (hk : k < ts.length) (hn : isNm ts k = true) : (hereR L k = true → aheadR ts L k = false) ∧ someR ts L k = true := by
  unfold namesR at h
  rw [Option.map_eq_none_iff, List.find?_eq_none] at h
  have := h k (by rw [List.mem_range'_1]; omega)
  unfold badNm qNm at this
  rw [hn] at this
  simp at this
  exact this
structure Right (ts : List Tk) (L : List Dl) : Prop extends Eqs ts L where
  own : ∀ x ∈ L, ∀ y ∈ L, (nameD ts x).data.toList = (nameD ts y).data.toList → x.i = y.i
  decl : ∀ k, k < ts.length → isNm ts k = true → ∃ x ∈ L, (nameD ts x).data.toList = lAt ts k
  pw : L.Pairwise (fun x y => x.i + x.len ≤ y.i)
  few : (eqL L).length ≤ 12 ∧ (inL L).length ≤ 4
theorem less_none {a b : Option Nat} (h : less a b = none) : a = none ∧ b = none := by
  cases a <;> cases b <;> simp_all [less]
theorem right_of {ts : List Tk} {L : List Dl} (hF : ∀ i, TkF (tkAt ts i)) (hs : Spell ts L 0) (hm : manyR ts L = none) (hn : namesR ts L = none) (hc : cycR ts L = none) : Right ts L := by
  have hmem := fun x hx => (spell_mem L 0 hs x hx).2
  have hnm : ∀ x ∈ L, x.i + 1 < ts.length ∧ isNm ts (x.i + 1) = true := fun x hx => by
    obtain ⟨h1, h2⟩ := hmem x hx
    have := x.len_pos
    refine ⟨by omega, ?_⟩
    unfold isNm
    rcases h2 with ⟨_, _, h, _⟩ | ⟨_, h, _⟩ <;> rw [h] <;> rfl
  have hown : ∀ x ∈ L, ∀ y ∈ L, (nameD ts x).data.toList = (nameD ts y).data.toList → ¬ x.i < y.i := fun x hx y hy he hlt => by
    obtain ⟨h1, h2⟩ := hnm y hy
    have h3 := (names_at hn h1 h2).1 (by unfold hereR; rw [List.any_eq_true]; exact ⟨y, hy, by simp⟩)
    unfold aheadR at h3
    rw [List.any_eq_false] at h3
    refine h3 x hx ?_
    simp only [Bool.and_eq_true, beq_iff_eq, decide_eq_true_eq]
    exact ⟨he, by omega⟩
  have hmany := less_none hm
  refine { F := hF, sp := fun x hx => ?_, cyc := hc, own := fun x hx y hy he => ?_, decl := fun k hk h => ?_, pw := spell_lt L 0 hs, few := ⟨?_, ?_⟩ }
  · have hm' := List.mem_filter.1 hx
    have hk : x.kind ≠ 0 := by simpa using hm'.2
    obtain ⟨h1, h2⟩ := hmem x hm'.1
    have hl : x.len = x.t.len + 6 := by unfold Dl.len; rw [if_neg hk]
    rcases h2 with ⟨h, _⟩ | ⟨_, _, _, _, _, h, _⟩
    · exact absurd h hk
    · exact ⟨h, by omega⟩
  · have a := hown x hx y hy he
    have b := hown y hy x hx he.symm
    omega
  · have h3 := (names_at hn hk h).2
    unfold someR at h3
    rw [List.any_eq_true] at h3
    obtain ⟨x, hx, he⟩ := h3
    exact ⟨x, hx, by simpa using he⟩
  · have := hmany.1
    rw [Option.map_eq_none_iff, List.getElem?_eq_none_iff] at this
    exact this
  · have := hmany.2
    rw [Option.map_eq_none_iff, List.getElem?_eq_none_iff] at this
    exact this
theorem nms_lt {ts : List Tk} (t : Ast) (i : Nat) : ∀ j ∈ nms ts t i, i ≤ j ∧ j < i + t.len := by
  intro j hj
  rw [nms_nmD ts t i false] at hj
  obtain ⟨x, hx, rfl⟩ := List.mem_map.1 hj
  exact nm_in t i false x hx
theorem nms_nm {ts : List Tk} : ∀ (t : Ast) (i : Nat), ∀ j ∈ nms ts t i, isNm ts j = true := by
  intro t
  induction t with
  | leaf =>
    intro i j h
    unfold nms at h
    split at h
    · rename_i hk; simp at h; rw [h]; unfold isNm; rw [hk]; rfl
    · simp at h
  | neg a iha => intro i j h; exact iha _ j h
  | ite a b c iha ihb ihc =>
    intro i j h
    simp only [nms, List.mem_append] at h
    exact h.elim (iha _ j) (fun h => h.elim (ihb _ j) (ihc _ j))
  | dly b ihb => intro i j h; exact ihb _ j h
  | bin a b iha ihb =>
    intro i j h
    simp only [nms, List.mem_append] at h
    exact h.elim (iha _ j) (ihb _ j)
theorem ix_some {l : List Dl} {p : Dl → Bool} {x : Dl} (hx : x ∈ l) (hp : p x = true) : ∃ j, l.findIdx? p = some j := by
  cases h : l.findIdx? p with
  | some j => exact ⟨j, rfl⟩
  | none => rw [List.findIdx?_eq_none_iff] at h; rw [h x hx] at hp; cases hp
theorem Right.same {ts : List Tk} {L : List Dl} (H : Right ts L) {i j : Nat} {x y : Dl} (hx : (eqL L)[i]? = some x) (hy : (eqL L)[j]? = some y) (he : (nameD ts x).data.toList = (nameD ts y).data.toList) : i = j := by
  have mx : x ∈ L := (List.mem_filter.1 (List.mem_of_getElem? hx)).1
  have my : y ∈ L := (List.mem_filter.1 (List.mem_of_getElem? hy)).1
  have hi := H.own x mx y my he
  obtain ⟨h1, rfl⟩ := List.getElem?_eq_some_iff.1 hx
  obtain ⟨h2, rfl⟩ := List.getElem?_eq_some_iff.1 hy
  have hp : (eqL L).Pairwise (fun x y => x.i + x.len ≤ y.i) := H.pw.filter _
  rw [List.pairwise_iff_getElem] at hp
  rcases Nat.lt_trichotomy i j with h | h | h
  · have := hp i j h1 h2 h; have := (eqL L)[i].len_pos; omega
  · exact h
  · have := hp j i h2 h1 h; have := (eqL L)[j].len_pos; omega
def numL (k : Nat) : List UInt8 → Option Nat
  | [] => none
  | c :: r => if W 2 c then some (k + (r.takeWhile (W 2)).length) else numL (k + 1) r
def mkL : Nat → Nat → List UInt8 → List Nat
  | 0, _, _ => []
  | _ + 1, _, [] => []
  | f + 1, k, c :: r =>
    if W 1 c then (if c :: r.takeWhile (W 1) = kAt then (numL (k + 1 + (r.takeWhile (W 1)).length) (r.dropWhile (W 1))).toList else []) ++ mkL f (k + 1 + (r.takeWhile (W 1)).length) (r.dropWhile (W 1))
    else mkL f (k + 1) r
def isDig (t : Tk) : Bool := (t.l.head?).any (W 2)
def lastD (t : Tk) : Nat := t.pos + t.l.length - 1
def numT (r : List Tk) : Option Nat := (r.find? isDig).map lastD
def marksT : List Tk → List Nat
  | [] => []
  | t :: r => (if t.l = kAt then (numT r).toList else []) ++ marksT r
theorem numL_over {cl : Nat} (hcl : cl ≠ 2) : ∀ (r : List UInt8) (k : Nat), numL (k + (r.takeWhile (W cl)).length) (r.dropWhile (W cl)) = numL k r := by
  intro r
  induction r with
  | nil => intro k; rfl
  | cons c r ih =>
    intro k
    rw [List.takeWhile_cons, List.dropWhile_cons]
    cases h : W cl c with
    | false => simp
    | true =>
      have h2 : W 2 c = false := by
        have := W_cls h
        cases h' : W 2 c with
        | false => rfl
        | true => exact absurd ((W_cls h').symm.trans this).symm hcl
      simp only [if_true, List.length_cons]
      rw [show k + ((r.takeWhile (W cl)).length + 1) = (k + 1) + (r.takeWhile (W cl)).length by omega, ih (k + 1)]
      show numL (k + 1) r = if W 2 c then _ else numL (k + 1) r
      rw [h2]; rfl
theorem mkL_fuel : ∀ f g k (l : List UInt8), l.length ≤ f → l.length ≤ g → mkL f k l = mkL g k l := by
  intro f
  induction f with
  | zero =>
    intro g k l h1 h2
    cases l with
    | nil => cases g <;> rfl
    | cons c r => simp at h1
  | succ f ih =>
    intro g k l h1 h2
    cases l with
    | nil => cases g <;> rfl
    | cons c r =>
      cases g with
      | zero => simp at h2
      | succ g =>
        simp at h1 h2
        have := drop_le (W 1) r
        simp only [mkL]
        rw [ih g (k + 1) r h1 h2, ih g _ (r.dropWhile (W 1)) (by omega) (by omega)]
theorem mkL_over {cl : Nat} (hcl : cl ≠ 1) : ∀ (r : List UInt8) (f k : Nat), r.length ≤ f → mkL f (k + (r.takeWhile (W cl)).length) (r.dropWhile (W cl)) = mkL f k r := by
  intro r
  induction r with
  | nil => intro f k _; rfl
  | cons c r ih =>
    intro f k hf
    rw [List.takeWhile_cons, List.dropWhile_cons]
    cases h : W cl c with
    | false => simp
    | true =>
      have h2 : W 1 c = false := by
        have := W_cls h
        cases h' : W 1 c with
        | false => rfl
        | true => exact absurd ((W_cls h').symm.trans this).symm hcl
      obtain ⟨f, rfl⟩ : ∃ g, f = g + 1 := ⟨f - 1, by simp at hf; omega⟩
      simp at hf
      have hd := drop_le (W cl) r
      simp only [if_true, List.length_cons]
      rw [show k + ((r.takeWhile (W cl)).length + 1) = (k + 1) + (r.takeWhile (W cl)).length by omega, mkL_fuel (f + 1) f _ _ (by omega) (by omega), ih f (k + 1) hf]
      show mkL f (k + 1) r = if W 1 c then _ else mkL f (k + 1) r
      rw [h2]; rfl
theorem tokW_l (k : Nat) (w : List UInt8) (cl : Nat) : (tokW k w cl).l = w := by simp [tokW, Tk.l]
theorem num_tk : ∀ n k (l : List UInt8), l.length = n → numL k l = numT (tk k l) := by
  intro n
  induction n using Nat.strongRecOn with
  | _ n ih =>
    intro k l hn
    cases l with
    | nil => rfl
    | cons c r =>
      simp only [List.length_cons] at hn
      by_cases h0 : cls c.toNat = 0
      · rw [tk_blank h0, ← ih r.length (by omega) (k + 1) r rfl]
        show (if W 2 c then _ else _) = _
        rw [if_neg (by unfold W; rw [h0]; decide)]
      · by_cases h2 : cls c.toNat = 2
        · rw [tk_word (.inr h2)]
          show (if W 2 c then _ else _) = _
          rw [if_pos (by unfold W; rw [h2]; rfl)]
          unfold numT
          rw [List.find?_cons_of_pos (by unfold isDig; rw [tokW_l]; unfold W; simp [h2])]
          simp only [Option.map_some, lastD, tokW_l, List.length_cons, h2]
          show _ = some (k + _ - 1)
          congr 1
        · have hne : W 2 c = false := by unfold W; simpa using h2
          have hno : ∀ (w : List UInt8) cl, isDig (tokW k (c :: w) cl) = false := fun w cl => by unfold isDig; rw [tokW_l]; simpa using hne
          by_cases h1 : cls c.toNat = 1
          · rw [tk_word (.inl h1)]
            have hl := take_drop_len (W (cls c.toNat)) r
            unfold numT
            rw [List.find?_cons_of_neg (by rw [hno]; decide)]
            rw [← numT, ← ih _ (by omega) _ _ rfl, numL_over (by omega)]
            show (if W 2 c then _ else _) = _
            rw [hne]; rfl
          · have := cls_le c.toNat
            rw [tk_one (by omega)]
            unfold numT
            rw [List.find?_cons_of_neg (by rw [hno]; decide)]
            rw [← numT, ← ih _ (by omega) _ _ rfl]
            show (if W 2 c then _ else _) = _
            rw [hne]; rfl
theorem marks_tk : ∀ n f k (l : List UInt8), l.length = n → n ≤ f → mkL f k l = marksT (tk k l) := by
  intro n
  induction n using Nat.strongRecOn with
  | _ n ih =>
    intro f k l hn hf
    cases l with
    | nil => cases f <;> rfl
    | cons c r =>
      simp only [List.length_cons] at hn
      obtain ⟨f, rfl⟩ : ∃ g, f = g + 1 := ⟨f - 1, by omega⟩
      by_cases h0 : cls c.toNat = 0
      · rw [tk_blank h0, ← ih r.length (by omega) f (k + 1) r rfl (by omega)]
        show (if W 1 c then _ else _) = _
        rw [if_neg (by unfold W; rw [h0]; decide)]
      · have hl := take_drop_len (W (cls c.toNat)) r
        by_cases h1 : cls c.toNat = 1
        · rw [tk_word (.inl h1)]
          rw [h1] at hl
          show (if W 1 c then _ else _) = _
          rw [if_pos (by unfold W; rw [h1]; rfl), h1]
          unfold marksT
          rw [tokW_l, num_tk _ _ _ rfl, ih _ (by omega) f _ _ rfl (by omega)]
        · have hne : W 1 c = false := by unfold W; simpa using h1
          have hat : ∀ w : List UInt8, c :: w ≠ kAt := fun w e => by
            have hc : c = 97 := by unfold kAt at e; simp at e; exact e.1
            rw [hc] at h1; exact h1 (by decide)
          by_cases h2 : cls c.toNat = 2
          · rw [tk_word (.inr h2)]
            unfold marksT
            rw [tokW_l, if_neg (hat _), List.nil_append, ← ih _ (by omega) f _ _ rfl (by omega), mkL_over (by omega) r f (k + 1) (by omega)]
            show (if W 1 c then _ else _) = _
            rw [hne]; rfl
          · have := cls_le c.toNat
            rw [tk_one (by omega)]
            unfold marksT
            rw [tokW_l, if_neg (hat _), List.nil_append, ← ih _ (by omega) f _ _ rfl (by omega)]
            show (if W 1 c then _ else _) = _
            rw [hne]; rfl
theorem marksT_end (e : Tk) (he : e.l = []) : ∀ r : List Tk, marksT (r ++ [e]) = marksT r := by
  have hnum : ∀ r : List Tk, numT (r ++ [e]) = numT r := by
    intro r
    unfold numT
    have hd : isDig e = false := by unfold isDig; rw [he]; rfl
    rw [List.find?_append]
    simp [hd]
  intro r
  induction r with
  | nil => show (if e.l = kAt then _ else _) ++ [] = []; rw [he]; rfl
  | cons t r ih =>
    show (if t.l = kAt then (numT (r ++ [e])).toList else []) ++ marksT (r ++ [e]) = _
    rw [hnum, ih]; rfl
theorem drop_tk {ts : List Tk} {i : Nat} (h : i < ts.length) : ts.drop i = tkAt ts i :: ts.drop (i + 1) := by
  rw [List.drop_eq_getElem_cons h]
  congr 1
  unfold tkAt
  simp [List.getD_eq_getElem?_getD, List.getElem?_eq_getElem h]
theorem marks_step {ts : List Tk} {i : Nat} (h : i < ts.length) (hn : lAt ts i ≠ kAt) : marksT (ts.drop i) = marksT (ts.drop (i + 1)) := by
  rw [drop_tk h]
  show (if (tkAt ts i).l = kAt then _ else _) ++ _ = _
  rw [if_neg hn]; rfl
section
variable {ts : List Tk} (hF : ∀ i, TkF (tkAt ts i))
include hF
theorem leaf_at {i : Nat} (h : leafT (tkAt ts i) = true) : lAt ts i ≠ kAt := leaf_ne hF h (by decide) (by decide) (by decide)
omit hF in
theorem lit_leaf {i : Nat} (h : litT (tkAt ts i) = true) : leafT (tkAt ts i) = true := by unfold leafT; rw [h]; rfl
theorem marks_sp : ∀ (t : Ast) (i : Nat), Sp ts t i → i + t.len ≤ ts.length → marksT (ts.drop i) = marksT (ts.drop (i + t.len)) := by
  have kw : ∀ {i : Nat} {l : List UInt8}, lAt ts i = l → l ≠ kAt → lAt ts i ≠ kAt := fun h hn e => hn (h.symm.trans e)
  intro t
  induction t with
  | leaf => intro i hs hl; exact marks_step (by simp [Ast.len] at hl; omega) (leaf_at hF hs.1)
  | neg a iha =>
    intro i hs hl
    obtain ⟨h1, h2, h3, h4⟩ := hs
    simp only [Ast.len] at hl ⊢
    rw [marks_step (by omega) (kw h1 (by decide)), marks_step (by omega) (kw h2 (by decide)), iha (i + 2) h3 (by omega), marks_step (by omega) (kw h4 (by decide))]
    congr 2; omega
  | ite a b c iha ihb ihc =>
    intro i hs hl
    obtain ⟨h1, h2, h3, h4, h5, h6⟩ := hs
    simp only [Ast.len] at hl ⊢
    rw [marks_step (by omega) (kw h1 (by decide)), marks_step (by omega) (kw h2 (by decide)), iha (i + 2) h3 (by omega), ihb _ h4 (by omega), ihc _ h5 (by omega), marks_step (by omega) (kw h6 (by decide))]
    congr 2; omega
  | dly b ihb =>
    intro i hs hl
    obtain ⟨h1, h2, h3, h4, h5⟩ := hs
    simp only [Ast.len] at hl ⊢
    rw [marks_step (by omega) (kw h1 (by decide)), marks_step (by omega) (leaf_at hF (lit_leaf h2)), marks_step (by omega) (kw h3 (by decide)), ihb (i + 3) h4 (by omega), marks_step (by omega) (kw h5 (by decide))]
    congr 2; omega
  | bin a b iha ihb =>
    intro i hs hl
    obtain ⟨h1, h2, h3, h4, h5⟩ := hs
    simp only [Ast.len] at hl ⊢
    have hop : lAt ts (i + 1 + a.len) ≠ kAt := fun e => by rw [e] at h3; revert h3; decide
    rw [marks_step (by omega) (kw h1 (by decide)), iha (i + 1) h2 (by omega), marks_step (by omega) hop, show i + 1 + a.len + 1 = i + 2 + a.len by omega, ihb _ h4 (by omega), marks_step (by omega) (kw h5 (by decide))]
    congr 2; omega
theorem name_at {i : Nat} (h : (tkAt ts i).kind = 1) : lAt ts i ≠ kAt := fun e => by
  have := (hF i).k1 h
  rw [show (tkAt ts i).l = kAt from e] at this
  revert this; decide
theorem marks_spell (hE : ∀ i, (tkAt ts i).kind = 0 → ts.length ≤ i + 1) (hD : ∀ i, (tkAt ts i).kind = 3 → isDig (tkAt ts i) = true) : ∀ (L : List Dl) (i : Nat), Spell ts L i → marksT (ts.drop i) = (eqL L).map fun x => lastD (tkAt ts (x.i + 3)) := by
  have kw : ∀ {i : Nat} {l : List UInt8}, lAt ts i = l → l ≠ kAt → lAt ts i ≠ kAt := fun h hn e => hn (h.symm.trans e)
  intro L
  induction L with
  | nil =>
    intro i h
    obtain ⟨h1, h2⟩ := h
    rw [marks_step h1 (fun e => by have := (hF i).k0 h2; rw [show (tkAt ts i).l = kAt from e] at this; revert this; decide)]
    rw [List.drop_eq_nil_of_le (hE i h2)]; rfl
  | cons x r ih =>
    intro i h
    obtain ⟨rfl, h1, h2, h3⟩ := h
    rcases h2 with ⟨hk, a1, a2, a3⟩ | ⟨hk, a2, a3, a4, a5, a6, a7⟩
    · have hl : x.len = 3 := by unfold Dl.len; rw [if_pos hk]
      rw [marks_step (by omega) (kw a1 (by decide)), marks_step (by omega) (name_at hF a2), marks_step (by omega) (kw a3 (by decide)), ← show x.i + x.len = x.i + 1 + 1 + 1 by omega, ih _ h3]
      simp [eqL, hk]
    · have hk0 : x.kind ≠ 0 := by omega
      have hl : x.len = x.t.len + 6 := by unfold Dl.len; rw [if_neg hk0]
      have h0 : lAt ts x.i ≠ kAt := by rcases hk with ⟨_, h⟩ | ⟨_, h⟩ <;> exact kw h (by decide)
      have h3k : lAt ts (x.i + 3) ≠ kAt := fun e => by
        have := (hF (x.i + 3)).k3 a4.1
        rw [show (tkAt ts (x.i + 3)).l = kAt from e] at this
        revert this; decide
      rw [marks_step (by omega) h0, marks_step (by omega) (name_at hF a2), drop_tk (by omega : x.i + 1 + 1 < ts.length)]
      show (if (tkAt ts (x.i + 2)).l = kAt then _ else _) ++ _ = _
      rw [if_pos a3, drop_tk (by omega : x.i + 1 + 1 + 1 < ts.length), numT, List.find?_cons_of_pos (hD (x.i + 3) a4.1)]
      rw [← drop_tk (by omega : x.i + 1 + 1 + 1 < ts.length), marks_step (by omega) h3k, marks_step (by omega) (kw a5 (by decide)), marks_sp hF x.t (x.i + 5) a6 (by omega), marks_step (by omega) (kw a7 (by decide)), ← show x.i + x.len = x.i + 5 + x.t.len + 1 by omega, ih _ h3]
      simp [eqL, hk0]
end
theorem valOf_snoc (l : List UInt8) (d : UInt8) : valOf (l ++ [d]) = valOf l * 10 + (d.toNat - 48) := by
  unfold valOf; rw [List.foldl_append]; rfl
end Go.Proofs.Ytmndgoapkmhglab
