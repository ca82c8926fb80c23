import Derived.Test.YtmndgoapkmhglaaM02ParA
import Derived.Test.YtmndgoapkmhglaaM16AstL
/- Plain mathematics: links and loops: both readers find the same. -/
namespace Go.Proofs.Ytmndgoapkmhglaa

def useOf (ts : List Tk) (x : Dl) (nm : List UInt8) : List Nat := (List.range' (x.i + 5) x.t.len).filter fun j => isNm ts j && lAt ts j == nm
def usesR (ts : List Tk) (L : List Dl) (nm : List UInt8) (q : Nat) : List Nat := (eqL L).flatMap fun x => if placeD ts x = q then useOf ts x nm else []
def lateR (ts : List Tk) (u : List Nat) : Bool := u.all fun k => lAt ts (k - 1) == kFby
def routeAt (ts : List Tk) (L : List Dl) (b : Nat) (x : Dl) (q : Nat) : List Rt :=
  if usesR ts L (nameD ts x).data.toList q ≠ [] ∧ q ≠ placeD ts x then [⟨b, q, lateR ts (usesR ts L (nameD ts x).data.toList q)⟩] else []
def routeTo (ts : List Tk) (L : List Dl) (b : Nat) (x : Dl) : Nat → List Rt
  | 0 => []
  | q + 1 => routeTo ts L b x q ++ routeAt ts L b x q
def routesFrom (ts : List Tk) (L : List Dl) : Nat → List Dl → List Rt
  | _, [] => []
  | b, x :: r => routeTo ts L b x 4 ++ routesFrom ts L (b + 1) r
def routesR (ts : List Tk) (L : List Dl) : List Rt := routesFrom ts L 0 (eqL L)
def waitsP (pl : List Nat) : List Rt → Mx → Mx
  | [], M => M
  | r :: l, M => waitsP pl l (if r.late = true then M else upd M r.dst (pl.getD r.src 0) true)
def firstP (ts : List Tk) (W : Mx) : List Dl → Option Nat
  | [] => none
  | x :: r => if W (placeD ts x) (placeD ts x) then some (posD ts x) else firstP ts W r
def lpR (ts : List Tk) (L : List Dl) : Option Nat := firstP ts (warsh (waitsP ((eqL L).map (placeD ts)) (routesR ts L) noM) 4) (eqL L)

theorem usesSeg_eq (decl : Nat) : ∀ (l : List Nd) (u p : Bool), usesSeg decl l u p = (u || l.any (fun n => n.kind == 2 && decide (n.decl = (decl : Int))), p || l.any (fun n => n.kind == 2 && (decide (n.decl = (decl : Int)) && !n.behind))) := by
  intro l
  induction l with
  | nil => intro u p; simp [usesSeg]
  | cons n l ih =>
    intro u p
    simp only [usesSeg]
    by_cases h : n.kind = 2 ∧ n.decl = (decl : Int)
    · rw [if_pos h, ih, List.any_cons, List.any_cons, h.1, decide_eq_true h.2]
      simp [Bool.or_assoc]
    · rw [if_neg h, ih, List.any_cons, List.any_cons]
      by_cases hk : n.kind = 2
      · have hd : decide (n.decl = (decl : Int)) = false := decide_eq_false (fun e => h ⟨hk, e⟩)
        rw [hd]; simp
      · have hk' : (n.kind == 2) = false := beq_eq_false_iff_ne.2 hk
        rw [hk']; simp

theorem usesAll_eq (ns : List Nd) (decl q : Nat) : ∀ (l : List Dc) (u p : Bool), usesAll ns decl q l u p =
    (u || l.any (fun d => (d.kind != 0 && d.place == q) && (seg ns d.root d.fin).any (fun n => n.kind == 2 && decide (n.decl = (decl : Int)))),
     p || l.any (fun d => (d.kind != 0 && d.place == q) && (seg ns d.root d.fin).any (fun n => n.kind == 2 && (decide (n.decl = (decl : Int)) && !n.behind)))) := by
  intro l
  induction l with
  | nil => intro u p; simp [usesAll]
  | cons d l ih =>
    intro u p
    simp only [usesAll]
    by_cases h : d.kind = 0 ∨ d.place ≠ q
    · have hc : (d.kind != 0 && d.place == q) = false := by
        rcases h with h | h
        · rw [h]; rfl
        · rw [beq_eq_false_iff_ne.2 h, Bool.and_false]
      rw [if_pos h, ih, List.any_cons, List.any_cons, hc]; simp
    · have h1 : d.kind ≠ 0 := fun e => h (.inl e)
      have h2 : d.place = q := Classical.byContradiction fun e => h (.inr e)
      have hc : (d.kind != 0 && d.place == q) = true := by rw [h2]; simp [h1]
      rw [if_neg h, ih, usesSeg_eq, List.any_cons, List.any_cons, hc]
      simp [Bool.or_assoc]

theorem find_int {x : Int} {a : Nat} (h0 : 0 ≤ x) : decide (x = (a : Int)) = (x.toNat == a) := by
  rw [Bool.eq_iff_iff, decide_eq_true_iff, beq_iff_eq]; omega

section
variable {ts : List Tk} (hF : ∀ i, TkF (tkAt ts i)) {L : List Dl} {ds : List Dc} (hN : NamesOk ts L ds)
  (hsp : ∀ x ∈ L, x.kind ≠ 0 → Sp ts x.t (x.i + 5) ∧ x.i + 5 + x.t.len ≤ ts.length)
  (hd : ∀ x ∈ L, x.kind ≠ 0 → ∀ y ∈ nmD ts x.t (x.i + 5) false, 0 ≤ findF ds (tkAt ts y.1).text)
include hF hN hsp hd

omit hN hsp hd in
theorem useOf_any (x : Dl) (hs : Sp ts x.t (x.i + 5)) (nm : List UInt8) (p : Nat → Bool) : (useOf ts x nm).any p = (nmD ts x.t (x.i + 5) false).any fun y => lAt ts y.1 == nm && p y.1 := by
  unfold useOf
  have e : ((List.range' (x.i + 5) x.t.len).filter fun j => isNm ts j && lAt ts j == nm) = ((List.range' (x.i + 5) x.t.len).filter (isNm ts)).filter fun j => lAt ts j == nm := by
    rw [List.filter_filter]
    congr 1
    funext j
    rw [Bool.and_comm]
  rw [e, nm_filter hF x.t (x.i + 5) false hs, List.any_filter, List.any_map]
  rfl

theorem uses_eq {ns : List Nd} (hdx : All2 (DX ts (bindF ds) ns) ds L) {a : Nat} {d : Dc} (ha : ds[a]? = some d) (q : Nat) :
    usesF ds ns a q = (decide (usesR ts L d.name.data.toList q ≠ []), (usesR ts L d.name.data.toList q).any fun k => !(lAt ts (k - 1) == kFby)) := by
  have hin : ∀ x, x ∈ L → x.kind ≠ 0 → ∀ y ∈ nmD ts x.t (x.i + 5) false, decide (findF ds (tkAt ts y.1).text = (a : Int)) = (lAt ts y.1 == d.name.data.toList) := by
    intro x hx hk y hy
    rw [find_int (hd x hx hk y hy), find_is hN.own ha _ (hd x hx hk y hy)]
    rfl
  have hall : ∀ (p : Nat → Bool) (q' : Nd → Bool), (∀ y : Nat × Bool, 5 ≤ y.1 → q' (bindF ds (nmNd ts y)) = p y.1) →
      ds.any (fun e => (e.kind != 0 && e.place == q) && (seg ns e.root e.fin).any (fun n => n.kind == 2 && (decide (n.decl = (a : Int)) && q' n))) = (usesR ts L d.name.data.toList q).any p := by
    intro p q' hq
    unfold usesR
    rw [List.any_flatMap]
    unfold eqL
    rw [List.any_filter]
    have key : ∀ (l : List Dc) (m : List Dl), All2 (DX ts (bindF ds) ns) l m → (∀ x ∈ m, x ∈ L) → l.any (fun e => (e.kind != 0 && e.place == q) && (seg ns e.root e.fin).any (fun n => n.kind == 2 && (decide (n.decl = (a : Int)) && q' n))) = m.any (fun x => x.kind != 0 && (if placeD ts x = q then useOf ts x d.name.data.toList else []).any p) := by
      intro l
      induction l with
      | nil => intro m h _; cases m with
        | nil => rfl
        | cons x m => exact h.elim
      | cons e l ih => intro m h hm; cases m with
        | nil => exact h.elim
        | cons x m =>
          obtain ⟨h1, h2⟩ := h
          rw [List.any_cons, List.any_cons, ih m h2 (fun z hz => hm z (List.mem_cons_of_mem _ hz))]
          congr 1
          by_cases hk : x.kind = 0
          · rw [h1.kind, hk]; rfl
          · have hx := hm x (List.mem_cons_self ..)
            obtain ⟨o, ho⟩ := h1.some hk
            rw [h1.kind, h1.place hk]
            have hkb : (x.kind != 0) = true := by simpa using hk
            rw [hkb, Bool.true_and, Bool.true_and]
            by_cases hp : placeD ts x = q
            · rw [if_pos hp, hp, ho, any_flat hF (fun n => decide (n.decl = (a : Int)) && q' n) x.t (x.i + 5) o (hsp x hx hk).1, useOf_any hF x (hsp x hx hk).1]
              simp only [beq_self_eq_true, Bool.true_and]
              apply any_congr_mem
              intro y hy
              have h5 := (nm_in _ _ _ y hy).1
              rw [hq y (by omega), bind_nm]
              show (decide (findF ds (tkAt ts y.1).text = (a : Int)) && p y.1) = _
              rw [hin x hx hk y hy]
            · rw [if_neg hp, beq_eq_false_iff_ne.2 hp]; rfl
    exact key ds L hdx (fun x hx => hx)
  unfold usesF
  rw [usesAll_eq, Bool.false_or, Bool.false_or]
  have e1 := hall (fun _ => true) (fun _ => true) (fun _ _ => rfl)
  have e2 := hall (fun k => !(lAt ts (k - 1) == kFby)) (fun n => !n.behind) (fun y hy => by
    rw [bind_nm]
    show (!(decide (0 < y.1) && ((tkAt ts (y.1 - 1)).l == kFby))) = _
    rw [decide_eq_true (by omega : 0 < y.1), Bool.true_and])
  simp only [Bool.and_true] at e1
  rw [e1, e2]
  congr 1
  cases usesR ts L d.name.data.toList q with
  | nil => simp
  | cons k r => simp

theorem links_eq {ns : List Nd} (hdx : All2 (DX ts (bindF ds) ns) ds L) (hnum : ∀ a d x, ds[a]? = some d → L[a]? = some x → x.kind ≠ 0 → d.number = cntE L a) : linksF ds ns = routesR ts L := by
  have hto : ∀ a d x, ds[a]? = some d → L[a]? = some x → x.kind ≠ 0 → DX ts (bindF ds) ns d x → ∀ q, linksTo ds ns a d q = routeTo ts L (cntE L a) x q := by
    intro a d x h1 h2 hk h3 q
    induction q with
    | zero => rfl
    | succ q ih =>
      simp only [linksTo, routeTo]
      rw [ih]
      congr 1
      unfold linkAt routeAt
      rw [uses_eq hF hN hsp hd hdx h1 q, h3.name, h3.place hk, hnum a d x h1 h2 hk]
      simp only [decide_eq_true_iff]
      split
      · unfold lateR
        congr 2
        rw [List.not_any_eq_all_not]
        simp
      · rfl
  have key : ∀ (L2 L1 : List Dl) (l2 : List Dc) (l1 : List Dc), L = L1 ++ L2 → ds = l1 ++ l2 → l1.length = L1.length → All2 (DX ts (bindF ds) ns) l2 L2 → linksFrom ds ns L1.length l2 = routesFrom ts L (cntE L L1.length) (eqL L2) := by
    intro L2
    induction L2 with
    | nil => intro L1 l2 l1 _ _ _ h; cases l2 with
      | nil => rfl
      | cons d l2 => exact h.elim
    | cons x r ih => intro L1 l2 l1 hs hs2 hl h; cases l2 with
      | nil => exact h.elim
      | cons d l2 =>
        obtain ⟨h1, h2⟩ := h
        have hget : L[L1.length]? = some x := by rw [hs]; simp
        have hget2 : ds[L1.length]? = some d := by rw [hs2, ← hl]; simp
        have hsucc := cntE_succ L L1.length
        have hih := ih (L1 ++ [x]) l2 (l1 ++ [d]) (by rw [hs]; simp) (by rw [hs2]; simp) (by simp [hl]) h2
        rw [List.length_append, List.length_singleton] at hih
        simp only [linksFrom]
        rw [hih, hsucc, h1.kind]
        by_cases hk : x.kind = 0
        · have he : isE L L1.length = false := by unfold isE; rw [hget]; simp [hk]
          have e2 : eqL (x :: r) = eqL r := by simp [eqL, hk]
          rw [if_pos hk, e2, he]
          simp
        · have he : isE L L1.length = true := by unfold isE; rw [hget]; simp [hk]
          have e2 : eqL (x :: r) = x :: eqL r := by simp [eqL, hk]
          rw [if_neg hk, e2, he, hto _ d x hget2 hget hk h1]
          simp [routesFrom]
  have := key L [] ds [] rfl rfl rfl hdx
  unfold linksF routesR
  simpa [cntE, eqL] using this

omit hF hN hsp hd in
theorem eqs_all {ns : List Nd} {f : Nd → Nd} (hdx : All2 (DX ts f ns) ds L) : All2 (fun d x => d.place = placeD ts x ∧ d.pos = posD ts x) (eqsF ds) (eqL L) := by
  have key : ∀ (l : List Dc) (m : List Dl), All2 (DX ts f ns) l m → All2 (fun d x => d.place = placeD ts x ∧ d.pos = posD ts x) (eqsF l) (eqL m) := by
    intro l
    induction l with
    | nil => intro m h; cases m with
      | nil => trivial
      | cons x m => exact h.elim
    | cons d l ih => intro m h; cases m with
      | nil => exact h.elim
      | cons x m =>
        obtain ⟨h1, h2⟩ := h
        have := ih m h2
        unfold eqsF eqL at this ⊢
        by_cases hk : x.kind = 0
        · rw [List.filter_cons_of_neg (by rw [h1.kind, hk]; simp), List.filter_cons_of_neg (by rw [hk]; simp)]
          exact this
        · rw [List.filter_cons_of_pos (by rw [h1.kind]; simpa using hk), List.filter_cons_of_pos (by simpa using hk)]
          exact ⟨⟨h1.place hk, h1.pos⟩, this⟩
  exact key ds L hdx

omit hF hN hsp hd in
theorem waits_pl (es : List Dc) : ∀ (l : List Rt) (M : Mx), waitsM es l M = waitsP (es.map Dc.place) l M := by
  intro l
  induction l with
  | nil => intro M; rfl
  | cons r l ih =>
    intro M
    simp only [waitsM, waitsP]
    rw [ih]
    congr 3
    rw [List.getD_eq_getElem?_getD, List.getD_eq_getElem?_getD, List.getElem?_map]
    cases es[r.src]? <;> rfl

theorem loop_eq {ns : List Nd} (hdx : All2 (DX ts (bindF ds) ns) ds L) (hnum : ∀ a d x, ds[a]? = some d → L[a]? = some x → x.kind ≠ 0 → d.number = cntE L a) : loopF ds ns = lpR ts L := by
  have he := eqs_all hdx
  have hpl : (eqsF ds).map Dc.place = (eqL L).map (placeD ts) := by
    have key : ∀ (l : List Dc) (m : List Dl), All2 (fun d x => d.place = placeD ts x ∧ d.pos = posD ts x) l m → l.map Dc.place = m.map (placeD ts) := by
      intro l
      induction l with
      | nil => intro m h; cases m with
        | nil => rfl
        | cons x m => exact h.elim
      | cons d l ih => intro m h; cases m with
        | nil => exact h.elim
        | cons x m => rw [List.map_cons, List.map_cons, h.1.1, ih m h.2]
    exact key _ _ he
  have hfirst : ∀ (W : Mx) (l : List Dc) (m : List Dl), All2 (fun d x => d.place = placeD ts x ∧ d.pos = posD ts x) l m → firstAt W l = firstP ts W m := by
    intro W l
    induction l with
    | nil => intro m h; cases m with
      | nil => rfl
      | cons x m => exact h.elim
    | cons d l ih => intro m h; cases m with
      | nil => exact h.elim
      | cons x m => simp only [firstAt, firstP]; rw [h.1.1, h.1.2, ih m h.2]
  unfold loopF lpR
  rw [waits_pl, hpl, links_eq hF hN hsp hd hdx hnum, hfirst _ _ _ he]

end

end Go.Proofs.Ytmndgoapkmhglaa

/- Plain mathematics: what the program answers of a text is the document's own answer. -/
namespace Go.Proofs.Ytmndgoapkmhglaa

theorem tk_pos : ∀ n k (l : List UInt8), l.length = n → (∀ t ∈ tk k l, k ≤ t.pos ∧ t.pos < k + l.length) ∧ (tk k l).Pairwise (fun a b => a.pos < b.pos) := by
  intro n
  induction n using Nat.strongRecOn with
  | _ n ih =>
    intro k l hn
    cases l with
    | nil => rw [tk_nil]; exact ⟨fun t ht => by simp at ht, List.Pairwise.nil⟩
    | cons c r =>
      simp only [List.length_cons] at hn
      by_cases h0 : cls c.toNat = 0
      · rw [tk_blank h0]
        obtain ⟨h1, h2⟩ := ih r.length (by omega) (k + 1) r rfl
        exact ⟨fun t ht => by have := h1 t ht; simp only [List.length_cons]; omega, h2⟩
      · by_cases h12 : cls c.toNat = 1 ∨ cls c.toNat = 2
        · rw [tk_word h12]
          have hl := take_drop_len (W (cls c.toNat)) r
          obtain ⟨h1, h2⟩ := ih _ (by omega) (k + 1 + (r.takeWhile (W (cls c.toNat))).length) (r.dropWhile (W (cls c.toNat))) rfl
          refine ⟨fun t ht => ?_, List.Pairwise.cons (fun t ht => ?_) h2⟩
          · simp only [List.length_cons]
            rcases List.mem_cons.1 ht with rfl | ht
            · show k ≤ k ∧ k < _; omega
            · have := h1 t ht; omega
          · have := h1 t ht; show k < t.pos; omega
        · rw [tk_one (by omega)]
          obtain ⟨h1, h2⟩ := ih r.length (by omega) (k + 1) r rfl
          refine ⟨fun t ht => ?_, List.Pairwise.cons (fun t ht => ?_) h2⟩
          · simp only [List.length_cons]
            rcases List.mem_cons.1 ht with rfl | ht
            · show k ≤ k ∧ k < _; omega
            · have := h1 t ht; omega
          · have := h1 t ht; show k < t.pos; omega

theorem toks_pos (s : ByteArray) : PosLt (toks s) := by
  obtain ⟨h1, h2⟩ := tk_pos _ 0 s.data.toList rfl
  have hp : (toks s).Pairwise (fun a b => a.pos < b.pos) := by
    rw [toks_list, List.pairwise_append]
    refine ⟨h2, List.pairwise_singleton _ _, fun a ha b hb => ?_⟩
    rw [List.mem_singleton] at hb
    subst hb
    have := h1 a ha
    show a.pos < s.size
    rw [size_list]; omega
  intro i j hij hj
  have := (List.pairwise_iff_getElem.1 hp) i j (by omega) hj hij
  unfold tkAt
  rw [List.getD_eq_getElem?_getD, List.getD_eq_getElem?_getD, List.getElem?_eq_getElem hj, List.getElem?_eq_getElem (show i < (toks s).length by omega)]
  exact this

theorem toks_end (s : ByteArray) (i : Nat) (h : (tkAt (toks s) i).kind = 0) : (toks s).length ≤ i + 1 := by
  by_cases hi : i < (tk 0 s.data.toList).length
  · exfalso
    rw [toks_list, tkAt_left hi] at h
    exact (tk_kind _ _ _ rfl _ (tkAt_mem hi)).1 h
  · rw [toks_list]; simp; omega

theorem badName_own {all : List Dc} {ns : List Nd} : ∀ (l : List Dc) (i : Nat), badNameF all ns i l = none → ∀ j (hj : j < l.length), findF all (l[j]'hj).name = ((i + j : Nat) : Int) := by
  intro l
  induction l with
  | nil => intro i _ j hj; simp at hj
  | cons d l ih =>
    intro i h j hj
    unfold badNameF at h
    split at h
    · cases h
    · rename_i hd
      have hd' : findF all d.name = (i : Int) := Classical.byContradiction hd
      split at h
      · cases h
      · cases j with
        | zero => exact hd'
        | succ j =>
          have := ih (i + 1) h j (by simpa using hj)
          rw [List.getElem_cons_succ, this]
          congr 1; omega

theorem dx_two {ts : List Tk} {f : Nd → Nd} {ns : List Nd} : ∀ {l : List Dc} {m : List Dl}, All2 (DX ts f ns) l m → l.map (fun d => (d.name, d.kind)) = m.map fun x => (nameD ts x, x.kind) := by
  intro l
  induction l with
  | nil => intro m h; cases m with
    | nil => rfl
    | cons x m => exact h.elim
  | cons d l ih => intro m h; cases m with
    | nil => exact h.elim
    | cons x m => rw [List.map_cons, List.map_cons, h.1.name, h.1.kind, ih h.2]

theorem declsD_num (ts : List Tk) : ∀ (L : List Dl) (off a b k : Nat) (d : Dc) (x : Dl), (declsD ts L off a b)[k]? = some d → L[k]? = some x → x.kind ≠ 0 → d.number = b + cntE L k := by
  intro L
  induction L with
  | nil => intro off a b k d x h; simp [declsD] at h
  | cons z r ih =>
    intro off a b k d x h1 h2 hk
    simp only [declsD] at h1
    cases k with
    | zero =>
      rw [List.getElem?_cons_zero] at h2
      cases h2
      rw [if_neg hk, List.getElem?_cons_zero] at h1
      cases h1
      simp [cntE, eqL, dcEq]
    | succ k =>
      rw [List.getElem?_cons_succ] at h2
      by_cases hz : z.kind = 0
      · rw [if_pos hz, List.getElem?_cons_succ] at h1
        rw [ih _ _ _ k d x h1 h2 hk]
        simp [cntE, eqL, hz]
      · rw [if_neg hz, List.getElem?_cons_succ] at h1
        rw [ih _ _ _ k d x h1 h2 hk]
        simp [cntE, eqL, hz]; omega

/-- the document's own answer of tokens that can all stand. -/
def readR (ts : List Tk) (L : List Dl) : Nat × Nat :=
  match manyR ts L with
  | some a => (3, a)
  | none => match namesR ts L with
    | some a => (4, a)
    | none => match typesR ts L with
      | some a => (5, a)
      | none => match cycR ts L with
        | some a => (6, a)
        | none => match lpR ts L with
          | some a => (7, a)
          | none => (0, 0)

theorem meaning_ref {ts : List Tk} (hF : ∀ i, TkF (tkAt ts i)) (hP : PosLt ts) (hE : ∀ i, (tkAt ts i).kind = 0 → ts.length ≤ i + 1) (L : List Dl) (hL : Spell ts L 0) (ht : 0 < ts.length) :
    meaningF (declsD ts L 0 0 0) ((nodesD ts L 0).map (bindF (declsD ts L 0 0 0))) = readR ts L := by
  obtain ⟨ds, hds⟩ : ∃ ds, ds = declsD ts L 0 0 0 := ⟨_, rfl⟩
  obtain ⟨ns, hns⟩ : ∃ ns, ns = (nodesD ts L 0).map (bindF ds) := ⟨_, rfl⟩
  rw [← hds, ← hns]
  have hmany : tooManyF ds = manyR ts L := by rw [hds]; exact many_eq hP L 0 0 0 0 hL (by omega) (by omega)
  have hnm : ds.map Dc.name = L.map (nameD ts) := by rw [hds]; exact declsD_names ts L 0 0 0
  have hnames : badNameF ds ns 0 ds = namesR ts L := by
    have := names_eq hF hE L hL ds hnm L [] 0 0 0 0 [] [] rfl hL (by omega) (by rw [List.nil_append]; exact hds) rfl rfl
    rw [List.nil_append, ← hns, ← hds] at this
    exact this
  have hdx : All2 (DX ts (bindF ds) ns) ds L := by
    have := dx_all ts (bindF ds) L 0 0 0 [] rfl
    rw [List.nil_append, ← hns, ← hds] at this
    exact this
  unfold meaningF readR
  rw [hmany, hnames]
  cases manyR ts L with
  | some a => rfl
  | none =>
    simp only
    cases hn : namesR ts L with
    | some a => rfl
    | none =>
      simp only
      rw [hn] at hnames
      have hN : NamesOk ts L ds := ⟨fun j hj => by have := badName_own ds 0 hnames j hj; rw [this, Nat.zero_add], dx_two hdx⟩
      have hsp : ∀ x ∈ L, x.kind ≠ 0 → Sp ts x.t (x.i + 5) ∧ x.i + 5 + x.t.len ≤ ts.length := by
        intro x hx hk
        obtain ⟨_, h2, h3⟩ := spell_mem _ _ hL x hx
        have hlen : x.len = x.t.len + 6 := by unfold Dl.len; rw [if_neg hk]
        refine ⟨?_, by omega⟩
        rcases h3 with ⟨h, _⟩ | ⟨_, _, _, _, _, h, _⟩
        · exact absurd h hk
        · exact h
      have hd : ∀ x ∈ L, x.kind ≠ 0 → ∀ y ∈ nmD ts x.t (x.i + 5) false, 0 ≤ findF ds (tkAt ts y.1).text := by
        intro x hx hk y hy
        obtain ⟨k, hk2, rfl⟩ := List.getElem_of_mem hx
        rcases hdx.getOpt k with ⟨_, h2⟩ | ⟨d, z, h1, h2, h3⟩
        · rw [List.getElem?_eq_getElem hk2] at h2; cases h2
        · rw [List.getElem?_eq_getElem hk2] at h2
          cases h2
          have hnone := badName_none ds 0 hnames d (List.mem_of_getElem? h1)
          obtain ⟨o, ho⟩ := h3.some hk
          have hmem : bindF ds (nmNd ts y) ∈ seg ns d.root d.fin := by
            rw [ho]
            have : bindF ds (nmNd ts y) ∈ (((flat ts (L[k]'hk2).t ((L[k]'hk2).i + 5) 0 o).map (bindF ds)).filter fun n => n.kind == 2) := by
              rw [bind_filter, flat_names hF _ _ _ _ (hsp _ hx hk).1]
              exact List.mem_map.2 ⟨_, List.mem_map.2 ⟨y, hy, rfl⟩, rfl⟩
            exact (List.mem_filter.1 this).1
          have := badNode_none _ hnone _ hmem (by rw [bind_nm]; rfl)
          rw [bind_nm] at this
          exact this
      have htot : (nodesD ts L 0).length = totN L := nodesD_len ts L 0
      have hnl : ns.length = totN L := by rw [hns, List.length_map, htot]
      have htypes : badTypeF ds 0 ns (roots ds (List.replicate ns.length false)) = typesR ts L := by
        have hT : TrOk L 0 (roots ds (List.replicate ns.length false)) := by
          rw [hds]
          refine roots_ok ts L 0 0 0 _ (fun j _ => ?_) (by simp [hnl])
          rw [List.getD_eq_getElem?_getD, List.getElem?_replicate]
          split <;> rfl
        have := types_eq hF hN L 0 0 (roots ds (List.replicate ns.length false)) hL hT (by rw [roots_len]; simp [hnl]) hd
        rw [← hns] at this
        exact this
      rw [htypes]
      cases typesR ts L with
      | some a => rfl
      | none =>
        simp only
        rw [cycle_eq hF hN hsp hd hdx]
        cases cycR ts L with
        | some a => rfl
        | none =>
          simp only
          rw [loop_eq hF hN hsp hd hdx (fun a d x h1 h2 hk => by rw [hds] at h1; have := declsD_num ts L 0 0 0 a d x h1 h2 hk; rw [this, Nat.zero_add])]
          cases lpR ts L <;> rfl

/-- the text's answer, by the document's own reader. -/
theorem text_ref (s : ByteArray) (hs : s.size ≤ 1500) :
    (∃ k, k < (toks s).length ∧ textF s = (2, (tkAt (toks s) k).pos) ∧ ∃ n, Ans (toks s) n [80] 0 0 ((tkAt (toks s) k).pos : Int)) ∨
    (∃ L, Spell (toks s) L 0 ∧ (∃ n, Ans (toks s) n [80] 0 0 (-1)) ∧ textF s = readR (toks s) L) := by
  obtain ⟨hok, hbad⟩ := parseA s hs
  unfold textF
  rw [if_neg (by omega)]
  cases hp : parseF s with
  | error k =>
    obtain ⟨h1, h2⟩ := hbad k hp
    exact .inl ⟨k, h1, rfl, h2⟩
  | ok p =>
    obtain ⟨L, h1, h2, h3, h4⟩ := hok p hp
    refine .inr ⟨L, h1, h4, ?_⟩
    show meaningF p.decls (boundN p) = _
    unfold boundN
    rw [h2, h3]
    exact meaning_ref (toks_F s) (toks_pos s) (toks_end s) L h1 (toks_ok s hs).pos

end Go.Proofs.Ytmndgoapkmhglaa

/- numbers as cells. -/
namespace Go.Proofs.Ytmndgoapkmhglaa
open Go.RowKit

def pCells (l : List Nat) : List Value := l.map fun (n : Nat) => Value.int .i64 (n : Int)
theorem pCells_snoc (l : List Nat) (n : Nat) : pCells (l ++ [n]) = pCells l ++ [.int .i64 (n : Int)] := by simp [pCells]
theorem Try.infoInt : (Try.prog.info? 3).map (fun i => (i.zero, i.size, i.bytes)) = some (some (.int .i64 0), 1, 8) := by kernel_rfl

end Go.Proofs.Ytmndgoapkmhglaa

/- Plain mathematics: a right text, by both readers. -/
namespace Go.Proofs.Ytmndgoapkmhglaa

/-- the text's answer, and its parts. -/
theorem text_read (s : ByteArray) (hs : s.size ≤ 1500) :
    (∃ k, k < (toks s).length ∧ textF s = (2, (tkAt (toks s) k).pos) ∧ ∃ n, Ans (toks s) n [80] 0 0 ((tkAt (toks s) k).pos : Int)) ∨
    (∃ L, Spell (toks s) L 0 ∧ (∃ n, Ans (toks s) n [80] 0 0 (-1)) ∧ textF s = readR (toks s) L ∧ ∃ p, parseF s = .ok p ∧ p.decls = declsD (toks s) L 0 0 0 ∧ p.nodes = nodesD (toks s) L 0) := by
  obtain ⟨hok, hbad⟩ := parseA s hs
  unfold textF
  rw [if_neg (by omega)]
  cases hp : parseF s with
  | error k =>
    obtain ⟨h1, h2⟩ := hbad k hp
    exact .inl ⟨k, h1, rfl, h2⟩
  | ok p =>
    obtain ⟨L, h1, h2, h3, h4⟩ := hok p hp
    refine .inr ⟨L, h1, h4, ?_, p, rfl, h2, h3⟩
    show meaningF p.decls (boundN p) = _
    unfold boundN
    rw [h2, h3]
    exact meaning_ref (toks_F s) (toks_pos s) (toks_end s) L h1 (toks_ok s hs).pos

/-- a right text: its parts, and that nothing is wrong with them. -/
structure RGood (s : ByteArray) (L : List Dl) : Prop where
  many : manyR (toks s) L = none
  names : namesR (toks s) L = none
  types : typesR (toks s) L = none
  cyc : cycR (toks s) L = none
  lp : lpR (toks s) L = none
  sp : Spell (toks s) L 0
  parse : ∃ p, parseF s = .ok p ∧ p.decls = declsD (toks s) L 0 0 0 ∧ p.nodes = nodesD (toks s) L 0

theorem spell_lt {ts : List Tk} : ∀ (L : List Dl) (i : Nat), Spell ts L i → L.Pairwise (fun x y => x.i + x.len ≤ y.i) := by
  intro L
  induction L with
  | nil => intro i _; exact List.Pairwise.nil
  | cons x r ih =>
    intro i h
    obtain ⟨_, h2, _, _, _, h6⟩ := spell_mid (L2 := r) [] i h
    exact List.Pairwise.cons h2 (ih _ h6)

end Go.Proofs.Ytmndgoapkmhglaa
