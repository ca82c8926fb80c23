import Derived.WalkSmall
import Derived.Deep.LoopGhost
import Derived.Test.Ytmndgoapkmhglabc00Base
import Derived.Test.Ytmndgoapkmhglabc05Bytes
import Derived.Test.Ytmndgoapkmhglabc08RefE
import Derived.Test.Ytmndgoapkmhglabc10Dec
namespace Go.Proofs.Ytmndgoapkmhglab
theorem text_read (s : ByteArray) (hs : s.size ≤ 1500) :
    (∃ k, k < (toks s).length ∧ textF s = (2, (tkAt (toks s) k).pos) ∧ ∃ n, Ans (toks s) n [80] 0 0 ((tkAt (toks s) k).pos : Int)) ∨
    (∃ L, Spell (toks s) L 0 ∧ (∃ n, Ans (toks s) n [80] 0 0 (-1)) ∧ textF s = readR (toks s) L ∧ ∃ p, parseF s = .ok p ∧ p.decls = declsD (toks s) L 0 0 0 ∧ p.nodes = nodesD (toks s) L 0) := by
  obtain ⟨hok, hbad⟩ := parseA s hs
  unfold textF
  rw [if_neg (by omega)]
  cases hp : parseF s with
  | error k =>
    obtain ⟨h1, h2⟩ := hbad k hp
    exact .inl ⟨k, h1, rfl, h2⟩
  | ok p =>
    obtain ⟨L, h1, h2, h3, h4⟩ := hok p hp
    refine .inr ⟨L, h1, h4, ?_, p, rfl, h2, h3⟩
    show meaningF p.decls (boundN p) = _
    unfold boundN
    rw [h2, h3]
    exact meaning_ref (toks_F s) (toks_pos s) (toks_end s) L h1 (toks_ok s hs).pos
structure RGood (s : ByteArray) (L : List Dl) : Prop where
  many : manyR (toks s) L = none
  names : namesR (toks s) L = none
  types : typesR (toks s) L = none
  cyc : cycR (toks s) L = none
  lp : lpR (toks s) L = none
  sp : Spell (toks s) L 0
  parse : ∃ p, parseF s = .ok p ∧ p.decls = declsD (toks s) L 0 0 0 ∧ p.nodes = nodesD (toks s) L 0
theorem spell_lt {ts : List Tk} : ∀ (L : List Dl) (i : Nat), Spell ts L i → L.Pairwise (fun x y => x.i + x.len ≤ y.i) := by
  intro L
  induction L with
  | nil => intro i _; exact List.Pairwise.nil
  | cons x r ih =>
    intro i h
    obtain ⟨_, h2, _, _, _, h6⟩ := spell_mid (L2 := r) [] i h
    exact List.Pairwise.cons h2 (ih _ h6)
theorem names_at {ts : List Tk} {L : List Dl} (h : namesR ts L = none) {k : Nat} (hk : k < ts.length) (hn : isNm ts k = true) : (hereR L k = true → aheadR ts L k = false) ∧ someR ts L k = true := by
  unfold namesR at h
  rw [Option.map_eq_none_iff, List.find?_eq_none] at h
  have := h k (by rw [List.mem_range'_1]; omega)
  unfold badNm qNm at this
  rw [hn] at this
  simp at this
  exact this
structure Right (ts : List Tk) (L : List Dl) : Prop extends Eqs ts L where
  own : ∀ x ∈ L, ∀ y ∈ L, (nameD ts x).data.toList = (nameD ts y).data.toList → x.i = y.i
  decl : ∀ k, k < ts.length → isNm ts k = true → ∃ x ∈ L, (nameD ts x).data.toList = lAt ts k
  pw : L.Pairwise (fun x y => x.i + x.len ≤ y.i)
  few : (eqL L).length ≤ 12 ∧ (inL L).length ≤ 4
theorem less_none {a b : Option Nat} (h : less a b = none) : a = none ∧ b = none := by
  cases a <;> cases b <;> simp_all [less]
theorem right_of {ts : List Tk} {L : List Dl} (hF : ∀ i, TkF (tkAt ts i)) (hs : Spell ts L 0) (hm : manyR ts L = none) (hn : namesR ts L = none) (hc : cycR ts L = none) : Right ts L := by
  have hmem := fun x hx => (spell_mem L 0 hs x hx).2
  have hnm : ∀ x ∈ L, x.i + 1 < ts.length ∧ isNm ts (x.i + 1) = true := fun x hx => by
    obtain ⟨h1, h2⟩ := hmem x hx
    have := x.len_pos
    refine ⟨by omega, ?_⟩
    unfold isNm
    rcases h2 with ⟨_, _, h, _⟩ | ⟨_, h, _⟩ <;> rw [h] <;> rfl
  have hown : ∀ x ∈ L, ∀ y ∈ L, (nameD ts x).data.toList = (nameD ts y).data.toList → ¬ x.i < y.i := fun x hx y hy he hlt => by
    obtain ⟨h1, h2⟩ := hnm y hy
    have h3 := (names_at hn h1 h2).1 (by unfold hereR; rw [List.any_eq_true]; exact ⟨y, hy, by simp⟩)
    unfold aheadR at h3
    rw [List.any_eq_false] at h3
    refine h3 x hx ?_
    simp only [Bool.and_eq_true, beq_iff_eq, decide_eq_true_eq]
    exact ⟨he, by omega⟩
  have hmany := less_none hm
  refine { F := hF, sp := fun x hx => ?_, cyc := hc, own := fun x hx y hy he => ?_, decl := fun k hk h => ?_, pw := spell_lt L 0 hs, few := ⟨?_, ?_⟩ }
  · have hm' := List.mem_filter.1 hx
    have hk : x.kind ≠ 0 := by simpa using hm'.2
    obtain ⟨h1, h2⟩ := hmem x hm'.1
    have hl : x.len = x.t.len + 6 := by unfold Dl.len; rw [if_neg hk]
    rcases h2 with ⟨h, _⟩ | ⟨_, _, _, _, _, h, _⟩
    · exact absurd h hk
    · exact ⟨h, by omega⟩
  · have a := hown x hx y hy he
    have b := hown y hy x hx he.symm
    omega
  · have h3 := (names_at hn hk h).2
    unfold someR at h3
    rw [List.any_eq_true] at h3
    obtain ⟨x, hx, he⟩ := h3
    exact ⟨x, hx, by simpa using he⟩
  · have := hmany.1
    rw [Option.map_eq_none_iff, List.getElem?_eq_none_iff] at this
    exact this
  · have := hmany.2
    rw [Option.map_eq_none_iff, List.getElem?_eq_none_iff] at this
    exact this
theorem nms_lt {ts : List Tk} (t : Ast) (i : Nat) : ∀ j ∈ nms ts t i, i ≤ j ∧ j < i + t.len := by
  intro j hj
  rw [nms_nmD ts t i false] at hj
  obtain ⟨x, hx, rfl⟩ := List.mem_map.1 hj
  exact nm_in t i false x hx
theorem nms_nm {ts : List Tk} : ∀ (t : Ast) (i : Nat), ∀ j ∈ nms ts t i, isNm ts j = true := by
  intro t
  induction t with
  | leaf =>
    intro i j h
    unfold nms at h
    split at h
    · rename_i hk; simp at h; rw [h]; unfold isNm; rw [hk]; rfl
    · simp at h
  | neg a iha => intro i j h; exact iha _ j h
  | ite a b c iha ihb ihc =>
    intro i j h
    simp only [nms, List.mem_append] at h
    exact h.elim (iha _ j) (fun h => h.elim (ihb _ j) (ihc _ j))
  | dly b ihb => intro i j h; exact ihb _ j h
  | bin a b iha ihb =>
    intro i j h
    simp only [nms, List.mem_append] at h
    exact h.elim (iha _ j) (ihb _ j)
theorem ix_some {l : List Dl} {p : Dl → Bool} {x : Dl} (hx : x ∈ l) (hp : p x = true) : ∃ j, l.findIdx? p = some j := by
  cases h : l.findIdx? p with
  | some j => exact ⟨j, rfl⟩
  | none => rw [List.findIdx?_eq_none_iff] at h; rw [h x hx] at hp; cases hp
theorem Right.same {ts : List Tk} {L : List Dl} (H : Right ts L) {i j : Nat} {x y : Dl} (hx : (eqL L)[i]? = some x) (hy : (eqL L)[j]? = some y) (he : (nameD ts x).data.toList = (nameD ts y).data.toList) : i = j := by
  have mx : x ∈ L := (List.mem_filter.1 (List.mem_of_getElem? hx)).1
  have my : y ∈ L := (List.mem_filter.1 (List.mem_of_getElem? hy)).1
  have hi := H.own x mx y my he
  obtain ⟨h1, rfl⟩ := List.getElem?_eq_some_iff.1 hx
  obtain ⟨h2, rfl⟩ := List.getElem?_eq_some_iff.1 hy
  have hp : (eqL L).Pairwise (fun x y => x.i + x.len ≤ y.i) := H.pw.filter _
  rw [List.pairwise_iff_getElem] at hp
  rcases Nat.lt_trichotomy i j with h | h | h
  · have := hp i j h1 h2 h; have := (eqL L)[i].len_pos; omega
  · exact h
  · have := hp j i h2 h1 h; have := (eqL L)[j].len_pos; omega
end Go.Proofs.Ytmndgoapkmhglab
namespace Go.Proofs.Ytmndgoapkmhglab
open Go.RowKit
def pCells (l : List Nat) : List Value := l.map fun (n : Nat) => Value.int .i64 (n : Int)
theorem pCells_snoc (l : List Nat) (n : Nat) : pCells (l ++ [n]) = pCells l ++ [.int .i64 (n : Int)] := by simp [pCells]
theorem Try.infoInt : (Try.prog.info? 3).map (fun i => (i.zero, i.size, i.bytes)) = some (some (.int .i64 0), 1, 8) := by kernel_rfl
end Go.Proofs.Ytmndgoapkmhglab
namespace Go.Proofs.Ytmndgoapkmhglab
structure OpF where
  k : Int
  a : Int
  b : Int
  c : Int
structure EvF where
  k : Int
  a : Int
  did : Int
  n : Int
  took : List Nat
  vals : List Int
structure LnF where
  src : Int
  dst : Int
  late : Bool
abbrev PastF := List (OpF × EvF)
def isD (pl what : Int) (x : OpF × EvF) : Bool := decide (x.2.k = pl) && decide (x.2.did = what)
def didF (P : PastF) (pl what now : Int) (data : Bool) : Nat := (P.filter fun x => isD pl what x && decide (x.2.a + (if data then x.1.c else 0) ≤ now)).length
def takenF (now : Int) (l : Nat) (ack : Bool) : PastF → Nat
  | [] => 0
  | x :: P => (if x.2.a + (if ack then x.1.b else 0) ≤ now then x.2.took.count l else 0) + takenF now l ack P
def lnAt (N : List LnF) (l : Nat) : LnF := N.getD l ⟨-1, -1, false⟩
def lateN (N : List LnF) (l : Nat) : Nat := if (lnAt N l).late then 1 else 0
def slotF (N : List LnF) (P : PastF) (a : OpF) (l : Nat) : Int := (takenF a.a l false P : Int) + lateN N l - didF P a.k 1 a.a false
def canF (N : List LnF) (P : PastF) (a : OpF) (l : Nat) : Bool := decide ((lnAt N l).dst = a.k) && (decide (slotF N P a l = 0) && decide (takenF a.a l false P < didF P (lnAt N l).src 2 a.a true))
def tookF (N : List LnF) (P : PastF) (a : OpF) : List Nat := (List.range N.length).filter (canF N P a)
def readyF (N : List LnF) (P : PastF) (a : OpF) : Bool :=
  decide (didF P a.k 1 a.a false = didF P a.k 2 a.a false) && (List.range N.length).all fun l => !decide ((lnAt N l).dst = a.k) || decide ((if canF N P a l then 1 else slotF N P a l) = 1)
def freeF (N : List LnF) (P : PastF) (a : OpF) : Bool :=
  decide (didF P a.k 2 a.a false < didF P a.k 1 a.a false) && (List.range N.length).all fun l => !decide ((lnAt N l).src = a.k) || decide (takenF a.a l true P = didF P a.k 2 a.a false)
def wakeF (N : List LnF) (V : Int → Nat → List Int) (P : PastF) (a : OpF) : EvF :=
  ⟨a.k, a.a, if readyF N P a then 1 else if freeF N P a then 2 else 0, if readyF N P a then (didF P a.k 1 a.a false : Int) else if freeF N P a then (didF P a.k 2 a.a false : Int) else 0, tookF N P a, if readyF N P a then [] else if freeF N P a then V a.k (didF P a.k 2 a.a false) else []⟩
def runG (N : List LnF) (V : Int → Nat → List Int) : PastF → List OpF → PastF
  | P, [] => P
  | P, a :: r => runG N V (P ++ [(a, wakeF N V P a)]) r
def cntF (P : PastF) (pl what : Int) : Nat := (P.filter (isD pl what)).length
def tkF (l : Nat) : PastF → Nat
  | [] => 0
  | x :: P => x.2.took.count l + tkF l P
def comesF (pl : Int) : PastF → Int → Int
  | [], z => z
  | x :: P, z => comesF pl P (if isD pl 2 x then x.2.a + x.1.c else z)
def knownF (l : Nat) : PastF → Int → Int
  | [], z => z
  | x :: P, z => knownF l P (if l ∈ x.2.took then x.2.a + x.1.b else z)
theorem takenF_app (now : Int) (l : Nat) (ack : Bool) : ∀ (P Q : PastF), takenF now l ack (P ++ Q) = takenF now l ack P + takenF now l ack Q := by
  intro P
  induction P with
  | nil => intro Q; simp [takenF]
  | cons x P ih => intro Q; simp only [List.cons_append, takenF, ih]; omega
theorem tkF_app (l : Nat) : ∀ (P Q : PastF), tkF l (P ++ Q) = tkF l P + tkF l Q := by
  intro P
  induction P with
  | nil => intro Q; simp [tkF]
  | cons x P ih => intro Q; simp only [List.cons_append, tkF, ih]; omega
theorem comesF_app (pl : Int) : ∀ (P Q : PastF) (z : Int), comesF pl (P ++ Q) z = comesF pl Q (comesF pl P z) := by
  intro P
  induction P with
  | nil => intro Q z; rfl
  | cons x P ih => intro Q z; exact ih Q _
theorem knownF_app (l : Nat) : ∀ (P Q : PastF) (z : Int), knownF l (P ++ Q) z = knownF l Q (knownF l P z) := by
  intro P
  induction P with
  | nil => intro Q z; rfl
  | cons x P ih => intro Q z; exact ih Q _
theorem cntF_snoc (P : PastF) (x : OpF × EvF) (pl what : Int) : cntF (P ++ [x]) pl what = cntF P pl what + (if isD pl what x then 1 else 0) := by
  unfold cntF
  rw [List.filter_append, List.length_append]
  cases h : isD pl what x <;> simp [h]
theorem didF_snoc (P : PastF) (x : OpF × EvF) (pl what now : Int) (data : Bool) : didF (P ++ [x]) pl what now data = didF P pl what now data + (if isD pl what x && decide (x.2.a + (if data then x.1.c else 0) ≤ now) then 1 else 0) := by
  unfold didF
  rw [List.filter_append, List.length_append]
  cases h : (isD pl what x && decide (x.2.a + (if data then x.1.c else 0) ≤ now)) <;> simp [h]
structure PastOk (N : List LnF) (P : PastF) (now : Int) : Prop where
  same : ∀ x ∈ P, x.2.k = x.1.k ∧ x.2.a = x.1.a
  le : ∀ x ∈ P, x.1.a ≤ now
  gap : P.Pairwise fun x y => x.1.a ≤ y.1.a ∧ (x.1.k = y.1.k → x.1.a + x.1.b < y.1.a ∧ x.1.a + x.1.c < y.1.a)
  took : ∀ x ∈ P, x.2.took.Nodup ∧ ∀ l ∈ x.2.took, l < N.length ∧ (lnAt N l).dst = x.2.k
theorem PastOk.init {N : List LnF} {P : PastF} {x : OpF × EvF} {now : Int} (h : PastOk N (P ++ [x]) now) : PastOk N P now ∧ PastOk N P x.1.a ∧ x.1.a ≤ now ∧ x.2.k = x.1.k ∧ x.2.a = x.1.a ∧ (∀ y ∈ P, y.1.k = x.1.k → y.1.a + y.1.b < x.1.a ∧ y.1.a + y.1.c < x.1.a) := by
  have hp := List.pairwise_append.1 h.gap
  have hx : x ∈ P ++ [x] := by simp
  have hy : ∀ y ∈ P, y ∈ P ++ [x] := fun y hy => List.mem_append_left _ hy
  refine ⟨⟨fun y m => h.same y (hy y m), fun y m => h.le y (hy y m), hp.1, fun y m => h.took y (hy y m)⟩, ⟨fun y m => h.same y (hy y m), fun y m => (hp.2.2 y m x (by simp)).1, hp.1, fun y m => h.took y (hy y m)⟩, h.le x hx, (h.same x hx).1, (h.same x hx).2, fun y m => (hp.2.2 y m x (by simp)).2⟩
theorem past_ind {p : PastF → Prop} (h0 : p []) (h1 : ∀ P x, p P → p (P ++ [x])) : ∀ P, p P := by
  have : ∀ n (P : PastF), P.length = n → p P := by
    intro n
    induction n with
    | zero => intro P hP; rw [List.length_eq_zero_iff.1 hP]; exact h0
    | succ n ih =>
      intro P hP
      have hne : P ≠ [] := fun e => by rw [e] at hP; cases hP
      rw [← List.dropLast_concat_getLast hne]
      exact h1 _ _ (ih _ (by simp [hP]))
  exact fun P => this P.length P rfl
theorem did_all {N : List LnF} {P : PastF} {now : Int} (h : PastOk N P now) (pl what : Int) : didF P pl what now false = cntF P pl what := by
  unfold didF cntF
  congr 1
  apply List.filter_congr
  intro x hx
  have h1 := h.le x hx
  have h2 := (h.same x hx).2
  have : decide (x.2.a + (if false = true then x.1.c else 0) ≤ now) = true := by simp; omega
  rw [this, Bool.and_true]
theorem taken_all {N : List LnF} {now : Int} (l : Nat) : ∀ {P : PastF}, PastOk N P now → takenF now l false P = tkF l P := by
  intro P
  induction P with
  | nil => intro _; rfl
  | cons x P ih =>
    intro h
    have h1 := h.le x (by simp)
    have h2 := (h.same x (by simp)).2
    simp only [takenF, tkF]
    rw [if_pos (by simp; omega), ih ⟨fun y m => h.same y (List.mem_cons_of_mem _ m), fun y m => h.le y (List.mem_cons_of_mem _ m), (List.pairwise_cons.1 h.gap).2, fun y m => h.took y (List.mem_cons_of_mem _ m)⟩]
theorem if_le (b : Bool) (n : Nat) : (if b = true then n else 0) ≤ n := by cases b <;> simp
theorem did_le (P : PastF) (pl what now : Int) (data : Bool) : didF P pl what now data ≤ cntF P pl what := by
  refine past_ind (p := fun P => didF P pl what now data ≤ cntF P pl what) (by simp [didF, cntF]) (fun P x ih => ?_) P
  rw [didF_snoc, cntF_snoc]
  have : (if (isD pl what x && decide (x.2.a + (if data then x.1.c else 0) ≤ now)) = true then 1 else 0) ≤ if isD pl what x = true then 1 else 0 := by
    cases isD pl what x with
    | false => simp
    | true => exact if_le _ 1
  omega
theorem did_come {N : List LnF} {now : Int} (pl : Int) : ∀ P : PastF, PastOk N P now → didF P pl 2 now true = if comesF pl P 0 ≤ now then cntF P pl 2 else cntF P pl 2 - 1 := by
  refine past_ind (fun _ => by simp [didF, cntF]) (fun P x ih h => ?_)
  obtain ⟨i1, i2, i3, i4, i5, i6⟩ := h.init
  rw [didF_snoc, cntF_snoc, comesF_app]
  rcases Bool.eq_false_or_eq_true (isD pl 2 x) with hx | hx
  rotate_left
  · have e : comesF pl [x] (comesF pl P 0) = comesF pl P 0 := by simp only [comesF]; rw [hx]; rfl
    rw [e, hx]
    simp only [Bool.false_and, Bool.false_eq_true, if_false, Nat.add_zero]
    exact ih i1
  · have e : comesF pl [x] (comesF pl P 0) = x.2.a + x.1.c := by simp only [comesF]; rw [hx]; rfl
    rw [e, hx]
    have hk : x.2.k = pl := by unfold isD at hx; simp at hx; exact hx.1
    have hall : didF P pl 2 now true = cntF P pl 2 := by
      unfold didF cntF
      congr 1
      apply List.filter_congr
      intro y hy
      cases hyd : isD pl 2 y with
      | false => rfl
      | true =>
        have hky : y.2.k = pl := by unfold isD at hyd; simp at hyd; exact hyd.1
        have h1 := i1.same y hy
        have h2 := (i6 y hy (by rw [← h1.1, ← i4, hky, hk])).2
        rw [Bool.true_and, decide_eq_true_iff, if_pos rfl]
        omega
    rw [hall]
    by_cases hc : x.2.a + x.1.c ≤ now
    · simp [hc]
    · simp [hc]
theorem taken_le (now : Int) (l : Nat) (ack : Bool) : ∀ P : PastF, takenF now l ack P ≤ tkF l P := by
  intro P
  induction P with
  | nil => simp [takenF, tkF]
  | cons x P ih =>
    simp only [takenF, tkF]
    have h1 := if_le (decide (x.2.a + (if ack = true then x.1.b else 0) ≤ now)) (x.2.took.count l)
    simp only [decide_eq_true_eq] at h1
    omega
theorem count_one {t : List Nat} (h : t.Nodup) (l : Nat) : t.count l = if l ∈ t then 1 else 0 := h.count
theorem taken_known {N : List LnF} {now : Int} (l : Nat) : ∀ P : PastF, PastOk N P now → takenF now l true P = if knownF l P 0 ≤ now then tkF l P else tkF l P - 1 := by
  refine past_ind (fun _ => by simp [takenF, tkF, knownF]) (fun P x ih h => ?_)
  obtain ⟨i1, i2, i3, i4, i5, i6⟩ := h.init
  rw [takenF_app, tkF_app, knownF_app]
  obtain ⟨hnd, htk⟩ := h.took x (by simp)
  simp only [takenF, tkF, knownF, Nat.add_zero]
  rw [count_one hnd l]
  by_cases hm : l ∈ x.2.took
  · have hall : takenF now l true P = tkF l P := by
      have key : ∀ Q : PastF, (∀ y ∈ Q, y ∈ P) → takenF now l true Q = tkF l Q := by
        intro Q
        induction Q with
        | nil => intro _; rfl
        | cons y Q ihQ =>
          intro hQ
          have hyP := hQ y (by simp)
          simp only [takenF, tkF]
          rw [ihQ (fun z hz => hQ z (List.mem_cons_of_mem _ hz))]
          obtain ⟨nd, tk⟩ := i1.took y hyP
          rw [count_one nd l]
          by_cases hl : l ∈ y.2.took
          · have e1 := (tk l hl).2
            have e2 := (htk l hm).2
            have h1 := i1.same y hyP
            have h2 := (i6 y hyP (by rw [← h1.1, ← i4, ← e1, ← e2])).1
            rw [if_pos (by simp; omega)]
          · simp [hl]
      exact key P (fun y hy => hy)
    rw [hall]
    simp only [hm, if_true]
    by_cases hc : x.2.a + x.1.b ≤ now
    · simp [hc]
    · simp [hc]
  · simp only [hm, if_false, Nat.add_zero]
    rw [ih i1]
    split <;> simp
end Go.Proofs.Ytmndgoapkmhglab
namespace Go.Proofs.Ytmndgoapkmhglab
open Go.RowKit
def opCells (l : List OpF) : List Value := l.flatMap fun o => [.int .i64 o.k, .int .i64 o.a, .int .i64 o.b, .int .i64 o.c]
end Go.Proofs.Ytmndgoapkmhglab
namespace Go.Proofs.Ytmndgoapkmhglab
open Go.RowKit
attribute [local go_sem ↓] Go.wp_at_zero Go.wp_at_succ


theorem Try.infoRDecl : (Try.prog.info? 115).map (fun i => (i.zero, i.size, i.bytes)) = some (some (.agg #[.string ⟨#[]⟩, .int .i64 0, .bool false, .bool false, .int .i64 0, .int .i64 0]), 6, 48) := by kernel_rfl
structure Rw where
  v : Value
  e : Nat
  sz : Nat
  n : Nat
  xs : List Value
end Go.Proofs.Ytmndgoapkmhglab
