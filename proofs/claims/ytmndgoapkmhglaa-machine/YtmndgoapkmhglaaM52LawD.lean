import Derived.ArgAppend
import Derived.Laws.CopyOwn
import Derived.Laws.Cover3
import Derived.Test.YtmndgoapkmhglaaM25OpenL
/- the statements' own helpers: same, full. -/
namespace Go.Proofs.Ytmndgoapkmhglaa
open Go.RowKit
attribute [local go_sem ↓] Go.wp_at_zero Go.wp_at_succ

set_option maxHeartbeats 1000000 in
theorem lsame_any (w : World) (va vb : Value) (xs ys : List Int) (ha : RowAt w va xs) (hb : RowAt w vb ys) :
    Calls Try.prog 36 #[va, vb] w fun e w' => e = .returned (.bool (xs == ys)) ∧ Below w.heap.size w w' := by
  obtain ⟨A, C, rfl, hm, hc⟩ := ha
  obtain ⟨A', C', rfl, hm', hc'⟩ := hb
  by_cases hl : xs.length = ys.length
  · have q1 : ((xs.length : Int) != (ys.length : Int)) = false := by rw [hl]; simp
    have HA := hide hc
    have HB := hide hc'
    have HL := hide hl
    clear hc hc' hl
    go_enter Try.func36, Try.ntmps36
    go_wp2
    go_loopw [5] (fun vi wr => ∃ m : Nat, m ≤ xs.length ∧ vi = .int .i64 m ∧ Below w.heap.size w wr ∧ ∀ j, j < m → (hx : j < xs.length) → (hy : j < ys.length) → xs[j] = ys[j]) (fun vi _ => xs.length - (intOf vi).toNat)
    case atStart => exact ⟨0, Nat.zero_le _, rfl, Below.refl _ _, fun j hj => by omega⟩
    case round =>
      obtain ⟨m, hm, rfl, hbx, hrec⟩ := hrel
      have HRC := hide hrec
      clear hrec
      by_cases hml : m < xs.length
      · obtain ⟨b, o, rfl, hb, hr⟩ := HA.out (by omega)
        obtain ⟨b', o', rfl, hb', hr'⟩ := HB.out (by have := HL.out; omega)
        have hmy : m < ys.length := by have := HL.out; omega
        have x1 := (hbx.cell (p := ⟨b, o + m, none⟩) hb).trans (hr m hml)
        have x2 := (hbx.cell (p := ⟨b', o' + m, none⟩) hb').trans (hr' m hmy)
        have j3 : (0 : Int) ≤ (m : Int) := by omega
        have j4 : (m : Int) < (xs.length : Int) := by omega
        have j5 : (m : Int) < (ys.length : Int) := by omega
        by_cases he : xs[m] = ys[m]
        · have HN : Hid (∀ j, j < m + 1 → (hx : j < xs.length) → (hy : j < ys.length) → xs[j] = ys[j]) := hide (fun j hj hx hy => by
            by_cases e : j = m
            · subst e; exact he
            · exact HRC.out j (by omega) hx hy)
          have q2 : (xs[m] != ys[m]) = false := by rw [he]; simp
          generalize xs[m] = u at x1 q2
          generalize ys[m] = v at x2 q2
          clear hr hr' he
          go_wp2_with fail
          go_quiet (fail)
          go_wp2
          go_roundw
          case rel => exact ⟨m + 1, by omega, by go_num, by first | exact hbx | exact below_drewN hbx _, HN.out⟩
          case measure => simp [intOf]; omega
        · have HN := hide (row_ne hml hmy he)
          have q2 : (xs[m] != ys[m]) = true := by rw [bne_iff_ne]; exact he
          generalize xs[m] = u at x1 q2
          generalize ys[m] = v at x2 q2
          clear hr hr' he
          go_wp2_with fail
          go_quiet (fail)
          go_wp2
          go_ret
          exact ⟨by rw [HN.out]; rfl, by first | exact hbx | exact below_drewN hbx _⟩
      · have em : m = xs.length := by omega
        subst em
        have HN := hide (row_eq HL.out (fun j hx hy => HRC.out j hx hx hy))
        have z1 : ¬ (xs.length : Int) < (xs.length : Int) := by omega
        clear HRC
        go_wp2
        go_ret
        exact ⟨by rw [HN.out]; rfl, hbx⟩
  · have q1 : ((xs.length : Int) != (ys.length : Int)) = true := by rw [bne_iff_ne]; omega
    have HN : Hid ((xs == ys) = false) := hide (by rw [beq_eq_false_iff_ne]; rintro rfl; exact hl rfl)
    clear hc hc' hl
    go_enter Try.func36, Try.ntmps36
    go_wp2
    go_ret
    exact ⟨by rw [HN.out]; rfl, Below.refl _ _⟩

set_option maxHeartbeats 1000000 in
theorem lfull_any (w : World) (va : Value) (xs : List Int) (mk : Int) (ha : RowAt w va xs) :
    Calls Try.prog 60 #[va, .int .i64 mk] w fun e w' => e = .returned (.bool (xs.all (· == mk))) ∧ Below w.heap.size w w' := by
  obtain ⟨A, C, rfl, hm, hc⟩ := ha
  have HA := hide hc
  clear hc
  go_enter Try.func60, Try.ntmps60
  go_wp2
  go_loopw [5] (fun vi wr => ∃ m : Nat, m ≤ xs.length ∧ vi = .int .i64 m ∧ Below w.heap.size w wr ∧ ∀ j, j < m → (hx : j < xs.length) → xs[j] = mk) (fun vi _ => xs.length - (intOf vi).toNat)
  case atStart => exact ⟨0, Nat.zero_le _, rfl, Below.refl _ _, fun j hj => by omega⟩
  case round =>
    obtain ⟨m, hm, rfl, hbx, hrec⟩ := hrel
    have HRC := hide hrec
    clear hrec
    by_cases hml : m < xs.length
    · obtain ⟨b, o, rfl, hb, hr⟩ := HA.out (by omega)
      have x1 := (hbx.cell (p := ⟨b, o + m, none⟩) hb).trans (hr m hml)
      have j3 : (0 : Int) ≤ (m : Int) := by omega
      have j4 : (m : Int) < (xs.length : Int) := by omega
      by_cases he : xs[m] = mk
      · have HN : Hid (∀ j, j < m + 1 → (hx : j < xs.length) → xs[j] = mk) := hide (fun j hj hx => by
          by_cases e : j = m
          · subst e; exact he
          · exact HRC.out j (by omega) hx)
        have q2 : (xs[m] != mk) = false := by rw [he]; simp
        generalize xs[m] = u at x1 q2
        clear hr he
        go_wp2
        go_roundw
        case rel => exact ⟨m + 1, by omega, by go_num, by first | exact hbx | exact below_drewN hbx _, HN.out⟩
        case measure => simp [intOf]; omega
      · have HN : Hid (xs.all (· == mk) = false) := hide (by rw [List.all_eq_false]; exact ⟨xs[m], List.getElem_mem hml, by simpa using he⟩)
        have q2 : (xs[m] != mk) = true := by rw [bne_iff_ne]; exact he
        generalize xs[m] = u at x1 q2
        clear hr he
        go_wp2
        go_ret
        exact ⟨by rw [HN.out]; rfl, by first | exact hbx | exact below_drewN hbx _⟩
    · have em : m = xs.length := by omega
      subst em
      have HN : Hid (xs.all (· == mk) = true) := hide (by
        rw [List.all_eq_true]
        intro x hx
        obtain ⟨j, hj, rfl⟩ := List.getElem_of_mem hx
        rw [HRC.out j hj hj]; simp)
      have z1 : ¬ (xs.length : Int) < (xs.length : Int) := by omega
      clear HRC
      go_wp2
      go_ret
      exact ⟨by rw [HN.out]; rfl, hbx⟩

end Go.Proofs.Ytmndgoapkmhglaa

/- the statements' own helpers: append onto a list that is kept. -/
namespace Go.Proofs.Ytmndgoapkmhglaa
open Go.RowKit

/-- a list whose cells are all one mark, in blocks of a kind. -/
def AllM (w : World) (K : Nat → Prop) (v : Value) (n : Nat) (mk : Int) : Prop :=
  ∃ (A : Option Addr) (C : Nat), v = .slice A n C ∧ n ≤ 35184372088832 ∧ (0 < n → ∃ b o, A = some ⟨b, o, none⟩ ∧ K b ∧ b < w.heap.size ∧ ∀ c, c < n → w.cell? ⟨b, o + c, none⟩ = some (.int .i64 mk))

theorem AllM.row {w : World} {K : Nat → Prop} {v : Value} {n : Nat} {mk : Int} (h : AllM w K v n mk) : RowAt w v (List.replicate n mk) := by
  obtain ⟨A, C, rfl, hm, hc⟩ := h
  refine ⟨A, C, by rw [List.length_replicate], by rw [List.length_replicate]; exact hm, fun hp => ?_⟩
  rw [List.length_replicate] at hp
  obtain ⟨b, o, h1, _, h3, h4⟩ := hc hp
  exact ⟨b, o, h1, h3, fun c hc => by rw [List.getElem_replicate]; exact h4 c (by simpa using hc)⟩
theorem AllM.keep {w w' : World} {K K' : Nat → Prop} {v : Value} {n : Nat} {mk : Int} (h : AllM w K v n mk) (hs : w.heap.size ≤ w'.heap.size) (hk : ∀ b, b < w.heap.size → K b → K' b)
    (hc : ∀ b, b < w.heap.size → K b → ∀ c, w.cell? ⟨b, c, none⟩ = some (.int .i64 mk) → w'.cell? ⟨b, c, none⟩ = some (.int .i64 mk)) : AllM w' K' v n mk := by
  obtain ⟨A, C, rfl, hm, h⟩ := h
  refine ⟨A, C, rfl, hm, fun hp => ?_⟩
  obtain ⟨b, o, h1, h2, h3, h4⟩ := h hp
  exact ⟨b, o, h1, hk b h3 h2, Nat.lt_of_lt_of_le h3 hs, fun c hcc => hc b h3 h2 _ (h4 c hcc)⟩
theorem AllM.below {w w' : World} {K : Nat → Prop} {v : Value} {n : Nat} {mk : Int} (h : AllM w K v n mk) (hb : Below w.heap.size w w') : AllM w' K v n mk :=
  h.keep hb.size (fun _ _ hk => hk) (fun b hb' _ c hc => (hb.cell (p := ⟨b, c, none⟩) hb').trans hc)

theorem grown_cell {w w' : World} {row : Option Nat} (h : w.grownBy w' row) {b c : Nat} (hb : b < w.heap.size) (hr : row ≠ some b) : w'.cell? ⟨b, c, none⟩ = w.cell? ⟨b, c, none⟩ :=
  World.cell?_of_block (w := w) (a := ⟨b, c, none⟩) (h.block b hb (Ne.symm hr))

theorem own_allM {w : World} {base : Nat} {e : TypeId} {v : Value} {n : Nat} {mk : Int} (hn : n ≤ 35184372088832) (h : w.ownsRow base e 1 v n (List.replicate n (.int .i64 mk))) (K : Nat → Prop) (hK : ∀ b, v.ownBlock = some b → K b) : AllM w K v n mk := by
  rcases h.2 with ⟨rfl, rfl⟩ | ⟨g, cap, cur, rfl, hb, hg, h1, h2, h3, h4⟩
  · exact ⟨none, 0, rfl, hn, fun hp => by omega⟩
  · refine ⟨some ⟨g, 0, none⟩, cap, rfl, hn, fun hp => ⟨g, 0, rfl, hK g rfl, (Array.getElem?_eq_some_iff.1 hg).1, fun c hc => ?_⟩⟩
    rw [h.cellAt (0 + c) (by omega), List.getElem?_replicate, if_pos (by omega)]

theorem setCells_block {b : Nat} : ∀ (vs : List Value) (o : Nat) (w : World) (cs : Array Value) (t : TypeId), w.heap[b]? = some (.cells cs t (0, 0)) →
    ∃ cs', (w.setCells b o vs).heap[b]? = some (.cells cs' t (0, 0)) ∧ cs'.size = cs.size ∧ cs'.toList.take o = cs.toList.take o ∧ (w.setCells b o vs).heap.size = w.heap.size ∧ (∀ k, k ≠ b → (w.setCells b o vs).heap[k]? = w.heap[k]?) ∧ (w.setCells b o vs).os = w.os ∧ (w.setCells b o vs).tape = w.tape ∧ (w.setCells b o vs).output = w.output := by
  intro vs
  induction vs with
  | nil => intro o w cs t h; exact ⟨cs, h, rfl, rfl, rfl, fun _ _ => rfl, rfl, rfl, rfl⟩
  | cons v r ih =>
    intro o w cs t h
    obtain ⟨cs', h1, h2, h3, h4, h5, h6, h7, h8⟩ := ih (o + 1) (w.setCell ⟨b, o, none⟩ v) (cs.setIfInBounds o v) t (heap_setCell_same w b o cs t v h)
    refine ⟨cs', h1, by simpa using h2, ?_, by rw [World.setCells, h4]; simp, fun k hk => (h5 k hk).trans (heap_setCell_other w ⟨b, o, none⟩ k v hk), h6, h7, h8⟩
    have e : cs'.toList.take o = (cs'.toList.take (o + 1)).take o := by rw [List.take_take, Nat.min_eq_left (by omega)]
    rw [e, h3, List.take_take, Nat.min_eq_left (by omega), Array.toList_setIfInBounds, List.take_set_of_le (by omega)]

/-- append of marks onto a list that is full of them, and stays. -/
theorem append_marks {P : Program} (w : World) {ops : Array Oper} {rest : List Oper} {o : Oper} {a : Act} {Q : Exit → Act → World → Prop}
    (hg : o.guard = none) (s x : Operand) (t : TypeId) (hop : o.op = Op.call { callee := Callee.builtin Builtin.append, args := #[s, x], argTypes := #[t, t] })
    (e : TypeId) (i : TypeInfo) (z : Value) (h1 : P.underlying t = some (.slice e)) (h2 : P.info? e = some i) (h3 : i.zero = some z) (h4 : i.size = 1) (h5 : i.bytes = 8) (h6 : z.cells.size = 1)
    (base n m : Nat) (mk : Int) (v : Value) (hs : a.eval s = v) (hown : w.ownsRow base e 1 v n (List.replicate n (.int .i64 mk)))
    (ad : Addr) (c : Nat) (hx : a.eval x = .slice (some ad) m c) (hc : ∀ j, j < m → w.cell? (ad.add j) = some (.int .i64 mk)) (hm : 0 < m) (hnm : n + m ≤ 1000000)
    (h : ∀ v' w', w'.ownsRow base e 1 v n (List.replicate n (.int .i64 mk)) → w.grownBy w' v.ownBlock → (∀ b c, w.cell? ⟨b, c, none⟩ = some (.int .i64 mk) → w'.cell? ⟨b, c, none⟩ = some (.int .i64 mk)) →
      AllM w' (fun b => v.ownBlock = some b ∨ w.heap.size ≤ b) v' (n + m) mk → (∃ A C, v' = .slice A (n + m) C) → wpList P ops Q rest (a.put o.dst v') w') :
    wpList P ops Q (o :: rest) a w := by
  have news : ∀ j u, (List.replicate m (Value.int .i64 mk))[j]? = some u → w.cell? (ad.add j) = some u := fun j u hj => by
    rw [List.getElem?_replicate] at hj
    split at hj
    · cases hj; exact hc j (by assumption)
    · cases hj
  have one : ∀ u ∈ List.replicate m (Value.int .i64 mk), u.oneCell' = true := fun u hu => by rw [(List.mem_replicate.1 hu).2]; rfl
  have rep : List.replicate n (Value.int .i64 mk) ++ List.replicate m (.int .i64 mk) = List.replicate (n + m) (.int .i64 mk) := List.replicate_append_replicate
  have big : n + m ≤ maxLen := by unfold maxLen; omega
  have grow : ∀ v' w', w'.ownsRow w.heap.size e 1 v' (n + m) (List.replicate n (.int .i64 mk) ++ List.replicate m (.int .i64 mk)) → w.grownBy w' none → wpList P ops Q rest (a.put o.dst v') w' := fun v' w' hown' hgr => by
    rw [rep] at hown'
    obtain ⟨A, C, hv', _⟩ := own_shape hown'
    refine h v' w' (hown.kept hgr ?_) ⟨hgr.os, hgr.tape, hgr.output, hgr.size, fun k hk _ => hgr.block k hk (by simp)⟩ (fun b c hcell => ?_) (own_allM (by omega) hown' _ (fun b hb => .inr (hown'.lt b hb).1)) ⟨A, C, hv'⟩
    · cases v.ownBlock with
      | none => exact .inl rfl
      | some k => exact .inr (by simp)
    · rw [grown_cell hgr (World.block_lt_of_cell? _ _ hcell) (by simp)]; exact hcell
  rcases hown.2 with ⟨rfl, rfl⟩ | ⟨g, cap, cur, rfl, hb, hgc, hnc, hcm, hcs, htake⟩
  · exact wpList_append_grows w hg s x t hop e i z 1 8 h1 h2 h3 h4 h5 h6 (by omega) none 0 0 [] hs (fun _ => ⟨rfl, rfl⟩) rfl (fun b hb => by cases hb) ad m c (List.replicate m (.int .i64 mk)) hx (by simp) news one (by omega) big (by omega) (fun v' w' ho hgr => grow v' w' (by simpa using ho) hgr)
  · refine wpList_append_arg w hg s x t hop e i z 1 8 h1 h2 h3 h4 h5 h6 (by omega) g 0 n cap (List.replicate n (.int .i64 mk)) hs (by simp) (fun j u hj => ?_) ad m c (List.replicate m (.int .i64 mk)) hx (by simp) news one ?_ big (by omega) ?_ (fun _ v' w' ho hgr => grow v' w' ho hgr)
    · rw [Nat.zero_add, hown.cellAt j (by have := (List.getElem?_eq_some_iff.1 hj).1; simpa using this)]; exact hj
    · intro hr j hj
      rw [List.length_replicate] at hj
      refine ⟨?_, hown.frozenAt _⟩
      rw [cell_of_row w g _ _ _ _ hgc, Array.getElem?_eq_getElem (by omega)]
      rfl
    · intro hr
      obtain ⟨cs', k1, k2, k3, k4, k5, k6, k7, k8⟩ := setCells_block (List.replicate m (Value.int .i64 mk)) (0 + n * 1) w cur e hgc
      have hin : ∀ j, j < m → (w.setCells g (0 + n * 1) (List.replicate m (Value.int .i64 mk))).cell? ⟨g, 0 + n * 1 + j, none⟩ = some (.int .i64 mk) := fun j hj => by
        rw [World.cell?_setCells_in g _ _ w (fun j hj => by rw [List.length_replicate] at hj; rw [cell_of_row w g _ _ _ _ hgc, Array.getElem?_eq_getElem (by omega)]; rfl) j (by simpa using hj), List.getElem_replicate]
      have keep : ∀ b c, w.cell? ⟨b, c, none⟩ = some (.int .i64 mk) → (w.setCells g (0 + n * 1) (List.replicate m (Value.int .i64 mk))).cell? ⟨b, c, none⟩ = some (.int .i64 mk) := fun b c hcell => by
        by_cases hh : b = g ∧ 0 + n * 1 ≤ c ∧ c < 0 + n * 1 + m
        · obtain ⟨rfl, hc1, hc2⟩ := hh
          have := hin (c - (0 + n * 1)) (by omega)
          rwa [show 0 + n * 1 + (c - (0 + n * 1)) = c by omega] at this
        · rw [World.cell?_setCells_out g _ _ w ⟨b, c, none⟩ (fun hb' _ => by
            have hb'' : b = g := hb'
            show c < 0 + n * 1 ∨ 0 + n * 1 + (List.replicate m (Value.int .i64 mk)).length ≤ c
            rw [List.length_replicate]; omega)]
          exact hcell
      refine h _ _ ⟨by simp, .inr ⟨g, cap, cs', rfl, hb, k1, hnc, hcm, by rw [k2]; exact hcs, ?_⟩⟩ ⟨k6, k7, k8, by rw [k4]; exact Nat.le_refl _, fun k _ hk => k5 k (fun e => hk (by rw [e]; rfl))⟩ keep ?_ ⟨_, _, rfl⟩
      · rw [Nat.zero_add] at k3
        rw [k3]; exact htake
      · refine ⟨some ⟨g, 0, none⟩, cap, rfl, by omega, fun hp => ⟨g, 0, rfl, .inl rfl, by rw [k4]; exact (Array.getElem?_eq_some_iff.1 hgc).1, fun c hc' => ?_⟩⟩
        by_cases hcn : c < n
        · refine keep g (0 + c) ?_
          rw [hown.cellAt (0 + c) (by omega), List.getElem?_replicate, if_pos (by omega)]
        · have := hin (c - n) (by omega)
          rwa [show 0 + n * 1 + (c - n) = 0 + c by omega] at this

theorem marks_block (w : World) (cs : Array Value) (t : TypeId) (m : Nat) (mk : Int) (h : cs.toList = List.replicate m (.int .i64 mk)) : ∀ j, j < m → (w.alloc (.cells cs t)).cell? ((⟨w.heap.size, 0, none⟩ : Addr).add j) = some (.int .i64 mk) := by
  intro j hj
  refine World.news_of_block (cs := cs) (t := t) (fr := (0, 0)) (heap_alloc_new w _) j _ ?_
  rw [h, List.getElem?_replicate, if_pos hj]

theorem grown_trans {w w1 w2 : World} {row : Option Nat} (h1 : w.grownBy w1 row) (h2 : w1.grownBy w2 row) : w.grownBy w2 row :=
  ⟨h2.os.trans h1.os, h2.tape.trans h1.tape, h2.output.trans h1.output, Nat.le_trans h1.size h2.size, fun k hk hne => (h2.block k (Nat.lt_of_lt_of_le hk h1.size) hne).trans (h1.block k hk hne)⟩
theorem grown_alloc (w : World) (o : Obj) (row : Option Nat) : w.grownBy (w.alloc o) row := ⟨rfl, rfl, rfl, by simp, fun k hk _ => Below.heap_alloc _ _ _ hk⟩
theorem grown_drew {w w1 : World} {row : Option Nat} (h : w.grownBy w1 row) : w.grownBy w1.drew row := ⟨h.os, h.tape, h.output, h.size, h.block⟩
/-- a store into a new block. -/
theorem grown_set {w w1 : World} {row : Option Nat} (h : w.grownBy w1 row) {p : Addr} (hp : w.heap.size ≤ p.block) (u : Value) : w.grownBy (w1.setCell p u) row :=
  ⟨h.os, h.tape, h.output, by simpa using h.size, fun k hk hne => (Below.heap_setCell _ _ _ _ (by omega)).trans (h.block k hk hne)⟩

end Go.Proofs.Ytmndgoapkmhglaa

/- the statements' own helpers: own, holds. -/
namespace Go.Proofs.Ytmndgoapkmhglaa
open Go.RowKit
attribute [local go_sem ↓] Go.wp_at_zero Go.wp_at_succ

/-- what its owner has of a list that came out. -/
structure OwnV where
  a : Value
  b : Value
  c : Value
  d : Value
  n : Nat
  m : Int
abbrev OwnV.val (o : OwnV) : Value := .agg #[o.a, o.b, o.c, o.d, .int .i64 o.m]
def OwnV.cells (o : OwnV) : List Value := [o.a, o.b, o.c, o.d, .int .i64 o.m]
structure OwnAt (w : World) (K : Nat → Prop) (o : OwnV) : Prop where
  a : AllM w K o.a o.n o.m
  b : AllM w K o.b (o.n + 1) o.m
  c : AllM w K o.c (o.n + 2) o.m
  d : AllM w K o.d (o.n + 6) o.m
theorem OwnAt.keep {w w' : World} {K K' : Nat → Prop} {o : OwnV} (h : OwnAt w K o) (hs : w.heap.size ≤ w'.heap.size) (hk : ∀ b, b < w.heap.size → K b → K' b)
    (hc : ∀ b, b < w.heap.size → K b → ∀ c, w.cell? ⟨b, c, none⟩ = some (.int .i64 o.m) → w'.cell? ⟨b, c, none⟩ = some (.int .i64 o.m)) : OwnAt w' K' o :=
  ⟨h.a.keep hs hk hc, h.b.keep hs hk hc, h.c.keep hs hk hc, h.d.keep hs hk hc⟩
theorem OwnAt.below {w w' : World} {K : Nat → Prop} {o : OwnV} (h : OwnAt w K o) (hb : Below w.heap.size w w') : OwnAt w' K o :=
  ⟨h.a.below hb, h.b.below hb, h.c.below hb, h.d.below hb⟩

theorem set_mark {xs : List Int} {m : Nat} {mk : Int} (h : m < xs.length) : ((List.replicate m (Value.int .i64 mk)) ++ ((xs.map fun x => Value.int .i64 x).drop m)).set m (.int .i64 mk) = (List.replicate (m + 1) (Value.int .i64 mk)) ++ ((xs.map fun x => Value.int .i64 x).drop (m + 1)) := by
  rw [List.set_append_right _ _ (by simp), List.length_replicate, Nat.sub_self, List.drop_eq_getElem_cons (by simpa using h), List.set_cons_zero, List.replicate_succ', List.append_assoc]
  rfl

theorem box3 {wr w1 w2 w3 : World} {b : Nat} {row : Option Nat} {o1 o2 o3 o : Obj} (hne : some b ≠ row) (hlt : b < wr.heap.size) (hb : wr.heap[b]? = some o) (h1 : (wr.alloc o1).grownBy w1 row) (h2 : (w1.alloc o2).grownBy w2 row) (h3 : (w2.alloc o3).grownBy w3 row) : w3.heap[b]? = some o := by
  have s1 := h1.size
  have s2 := h2.size
  simp at s1 s2
  rw [h3.block b (by simp; omega) hne, Below.heap_alloc _ _ _ (by omega), h2.block b (by simp; omega) hne, Below.heap_alloc _ _ _ (by omega), h1.block b (by simp; omega) hne, Below.heap_alloc _ _ _ hlt]
  exact hb

set_option maxHeartbeats 2000000 in
set_option maxRecDepth 100000 in
theorem lown_any (w : World) (B : Nat) (v : Value) (xs : List Int) (mk : Int) (h : w.ownsRow B 3 1 v xs.length (xs.map fun x => .int .i64 x)) (hn : xs.length ≤ 100000) :
    Calls Try.prog 37 #[v, .int .i64 mk] w fun e w' => ∃ o : OwnV, e = .returned o.val ∧ o.a = v ∧ o.n = xs.length ∧ o.m = mk ∧ OwnAt w' (fun b => v.ownBlock = some b ∨ w.heap.size ≤ b) o ∧ w.grownBy w' v.ownBlock := by
  obtain ⟨i0, hi0, hz0, hz1, hz2⟩ := info_parts Try.infoInt
  obtain ⟨A, C, rfl, hsh⟩ := own_shape h
  have HW := hide h
  have HSH := hide hsh
  clear h hsh
  go_enter Try.func37, Try.ntmps37
  go_wp2
  go_loopw [5] (fun vi wr => ∃ m : Nat, m ≤ xs.length ∧ vi = .int .i64 m ∧ wr.ownsRow B 3 1 (.slice A xs.length C) xs.length ((List.replicate m (Value.int .i64 mk)) ++ ((xs.map fun x => Value.int .i64 x).drop m)) ∧ w.grownBy wr (Value.slice A xs.length C).ownBlock ∧ w.heap.size < wr.heap.size ∧ wr.heap[w.heap.size]? = some (.cells #[.slice none 0 0, .slice none 0 0, .slice none 0 0, .slice none 0 0, .int .i64 0] 68)) (fun vi _ => xs.length - (intOf vi).toNat)
  case atStart => exact ⟨0, Nat.zero_le _, rfl, by simpa using HW.out.alloc _, grown_alloc _ _ _, by simp, heap_alloc_new w _⟩
  case round =>
    obtain ⟨m, hm, rfl, hown, hgr, hlt, hbx⟩ := hrel
    have HBX := hide hbx
    have HNE : Hid ((Value.slice A xs.length C).ownBlock ≠ some w.heap.size) := hide (fun e => by have := (HW.out.lt _ e).2; omega)
    have HO := hide hown
    have HG := hide hgr
    clear hown hgr hbx
    by_cases hml : m < xs.length
    · obtain ⟨g, rfl, _, hgl⟩ := HSH.out (by omega)
      have hc := HO.out.cellAt m (by omega)
      rw [List.getElem?_append_right (by simp), List.length_replicate, Nat.sub_self, List.getElem?_drop, List.getElem?_map, Nat.add_zero, List.getElem?_eq_getElem hml] at hc
      have hf := HO.out.frozenAt m
      have j3 : (0 : Int) ≤ (m : Int) := by omega
      have j4 : (m : Int) < (xs.length : Int) := by omega
      obtain ⟨hs1, hs2⟩ := HO.out.stored m (.int .i64 mk)
      rw [set_mark hml] at hs1
      have HS1 := hide hs1
      have HS2 := hide hs2
      simp only [Option.map_some] at hc
      generalize xs[m] = u at hc
      clear hs1 hs2
      go_wp2
      go_roundw
      case rel => exact ⟨m + 1, by omega, by go_num, by first | exact HS1.out | exact HS1.out.drew, ⟨HS2.out.os.trans HG.out.os, HS2.out.tape.trans HG.out.tape, HS2.out.output.trans HG.out.output, Nat.le_trans HG.out.size HS2.out.size, fun k hk hne => (HS2.out.block k (Nat.lt_of_lt_of_le hk HG.out.size) hne).trans (HG.out.block k hk hne)⟩, by simpa using hlt, (HS2.out.block w.heap.size hlt (Ne.symm HNE.out)).trans HBX.out⟩
      case measure => simp [intOf]; omega
    · have em : m = xs.length := by omega
      subst em
      have z1 : ¬ (xs.length : Int) < (xs.length : Int) := by omega
      have hown0 := HO.out
      rw [List.drop_of_length_le (by simp), List.append_nil] at hown0
      have hsz := HG.out.size
      clear HO HW HSH
      go_wp2_with (at_builtin; first
        | (refine append_marks _ rfl _ _ _ rfl 3 i0 _ Try.underlying48 hi0 hz0 hz1 hz2 rfl B xs.length 1 mk _ rfl (hown0.alloc _) ⟨wr.heap.size, 0, none⟩ 1 rfl (marks_block _ _ _ 1 mk rfl) (by omega) (by omega) ?_; intro v1 w1 ho1 hg1 hk1 ha1 hs1; obtain ⟨A1, C1, rfl⟩ := hs1)
        | (refine append_marks _ rfl _ _ _ rfl 3 i0 _ Try.underlying48 hi0 hz0 hz1 hz2 rfl B xs.length 2 mk _ rfl (ho1.alloc _) ⟨w1.heap.size, 0, none⟩ 2 rfl (marks_block _ _ _ 2 mk rfl) (by omega) (by omega) ?_; intro v2 w2 ho2 hg2 hk2 ha2 hs2; obtain ⟨A2, C2, rfl⟩ := hs2)
        | (refine append_marks _ rfl _ _ _ rfl 3 i0 _ Try.underlying48 hi0 hz0 hz1 hz2 rfl B xs.length 6 mk _ rfl (ho2.alloc _) ⟨w2.heap.size, 0, none⟩ 6 rfl (marks_block _ _ _ 6 mk rfl) (by omega) (by omega) ?_; intro v3 w3 ho3 hg3 hk3 ha3 hs3; obtain ⟨A3, C3, rfl⟩ := hs3; have hb3 := box3 (Ne.symm HNE.out) hlt HBX.out hg1 hg2 hg3; have c0 := cell_of_row w3 w.heap.size 0 _ _ _ hb3; have c1 := cell_of_row w3 w.heap.size 1 _ _ _ hb3; have c2 := cell_of_row w3 w.heap.size 2 _ _ _ hb3; have c3 := cell_of_row w3 w.heap.size 3 _ _ _ hb3; have c4 := cell_of_row w3 w.heap.size 4 _ _ _ hb3; have f0 := frozen_of_row w3 w.heap.size 0 _ _ hb3; have f1 := frozen_of_row w3 w.heap.size 1 _ _ hb3; have f2 := frozen_of_row w3 w.heap.size 2 _ _ hb3; have f3 := frozen_of_row w3 w.heap.size 3 _ _ hb3; have f4 := frozen_of_row w3 w.heap.size 4 _ _ hb3))
      have hs1 := hg1.size
      have hs2 := hg2.size
      have hs3 := hg3.size
      simp at hs1 hs2 hs3
      have hal : ∀ (W : World) (o : Obj) (b c : Nat), b < W.heap.size → (W.alloc o).cell? ⟨b, c, none⟩ = W.cell? ⟨b, c, none⟩ := fun W o b c h => World.cell?_alloc_past _ _ _ h
      have hw : ∀ b, b < w3.heap.size → ((Value.slice A xs.length C).ownBlock = some b ∨ wr.heap.size ≤ b) → b ≠ w.heap.size := fun b _ hb e => by
        rcases hb with hb | hb
        · rw [e] at hb; exact HNE.out hb
        · omega
      have k0 : AllM wr (fun b => (Value.slice A xs.length C).ownBlock = some b ∨ wr.heap.size ≤ b) (.slice A xs.length C) xs.length mk := own_allM (by omega) hown0 _ (fun b hb => .inl hb)
      have up1 : ∀ v n, AllM wr (fun b => (Value.slice A xs.length C).ownBlock = some b ∨ wr.heap.size ≤ b) v n mk → AllM w1 (fun b => (Value.slice A xs.length C).ownBlock = some b ∨ wr.heap.size ≤ b) v n mk := fun v n h => h.keep (by omega) (fun _ _ h => h) (fun b hb _ c hc => hk1 b c ((hal _ _ b c hb).trans hc))
      have up2 : ∀ v n, AllM w1 (fun b => (Value.slice A xs.length C).ownBlock = some b ∨ wr.heap.size ≤ b) v n mk → AllM w2 (fun b => (Value.slice A xs.length C).ownBlock = some b ∨ wr.heap.size ≤ b) v n mk := fun v n h => h.keep (by omega) (fun _ _ h => h) (fun b hb _ c hc => hk2 b c ((hal _ _ b c hb).trans hc))
      have up3 : ∀ v n, AllM w2 (fun b => (Value.slice A xs.length C).ownBlock = some b ∨ wr.heap.size ≤ b) v n mk → AllM w3 (fun b => (Value.slice A xs.length C).ownBlock = some b ∨ wr.heap.size ≤ b) v n mk := fun v n h => h.keep (by omega) (fun _ _ h => h) (fun b hb _ c hc => hk3 b c ((hal _ _ b c hb).trans hc))
      have l1 : AllM w1 (fun b => (Value.slice A xs.length C).ownBlock = some b ∨ wr.heap.size ≤ b) (.slice A1 (xs.length + 1) C1) (xs.length + 1) mk := ha1.keep (Nat.le_refl _) (fun b _ h => h.imp id (fun h => by simp at h; omega)) (fun _ _ _ _ h => h)
      have l2 : AllM w2 (fun b => (Value.slice A xs.length C).ownBlock = some b ∨ wr.heap.size ≤ b) (.slice A2 (xs.length + 2) C2) (xs.length + 2) mk := ha2.keep (Nat.le_refl _) (fun b _ h => h.imp id (fun h => by simp at h; omega)) (fun _ _ _ _ h => h)
      have l3 : AllM w3 (fun b => (Value.slice A xs.length C).ownBlock = some b ∨ wr.heap.size ≤ b) (.slice A3 (xs.length + 6) C3) (xs.length + 6) mk := ha3.keep (Nat.le_refl _) (fun b _ h => h.imp id (fun h => by simp at h; omega)) (fun _ _ _ _ h => h)
      have q0 := up3 _ _ (up2 _ _ (up1 _ _ k0))
      have q1 := up3 _ _ (up2 _ _ l1)
      have q2 := up3 _ _ l2
      have hgr : w.grownBy w3 (Value.slice A xs.length C).ownBlock := grown_trans (grown_trans (grown_trans HG.out (grown_trans (grown_alloc _ _ _) hg1)) (grown_trans (grown_alloc _ _ _) hg2)) (grown_trans (grown_alloc _ _ _) hg3)
      have fin : ∀ v n u0 u1 u2 u3 u4, AllM w3 (fun b => (Value.slice A xs.length C).ownBlock = some b ∨ wr.heap.size ≤ b) v n mk → AllM (((((w3.setCell ⟨w.heap.size, 0, none⟩ u0).setCell ⟨w.heap.size, 1, none⟩ u1).setCell ⟨w.heap.size, 2, none⟩ u2).setCell ⟨w.heap.size, 3, none⟩ u3).setCell ⟨w.heap.size, 4, none⟩ u4) (fun b => (Value.slice A xs.length C).ownBlock = some b ∨ w.heap.size ≤ b) v n mk := fun v n u0 u1 u2 u3 u4 h => by
        refine h.keep (by simp) (fun b _ h => h.imp id (fun h => by omega)) (fun b hb hK c hc => ?_)
        have hne := hw b hb hK
        rw [World.cell?_setCell_other _ _ _ _ (by intro e; exact hne (congrArg Addr.block e).symm), World.cell?_setCell_other _ _ _ _ (by intro e; exact hne (congrArg Addr.block e).symm), World.cell?_setCell_other _ _ _ _ (by intro e; exact hne (congrArg Addr.block e).symm), World.cell?_setCell_other _ _ _ _ (by intro e; exact hne (congrArg Addr.block e).symm), World.cell?_setCell_other _ _ _ _ (by intro e; exact hne (congrArg Addr.block e).symm)]
        exact hc
      refine bodyPost_ret (v := .agg #[.slice A xs.length C, .slice A1 (xs.length + 1) C1, .slice A2 (xs.length + 2) C2, .slice A3 (xs.length + 6) C3, .int .i64 mk]) (by simp [results, Try.results37, go_sem, c0, c1, c2, c3, c4]) rfl ?_
      exact ⟨⟨.slice A xs.length C, .slice A1 (xs.length + 1) C1, .slice A2 (xs.length + 2) C2, .slice A3 (xs.length + 6) C3, xs.length, mk⟩, rfl, rfl, rfl, rfl, ⟨fin _ _ _ _ _ _ _ q0, fin _ _ _ _ _ _ _ q1, fin _ _ _ _ _ _ _ q2, fin _ _ _ _ _ _ _ l3⟩, grown_set (grown_set (grown_set (grown_set (grown_set hgr (Nat.le_refl _) _) (Nat.le_refl _) _) (Nat.le_refl _) _) (Nat.le_refl _) _) (Nat.le_refl _) _⟩

set_option maxHeartbeats 1000000 in
theorem lholds_any (w : World) (K : Nat → Prop) (o : OwnV) (h : OwnAt w K o) :
    Calls Try.prog 38 #[o.val] w fun e w' => e = .returned (.bool true) ∧ Below w.heap.size w w' := by
  obtain ⟨a, b, c, d, n, mk⟩ := o
  have hal : ∀ k, (List.replicate k mk).all (· == mk) = true := fun k => by rw [List.all_eq_true]; intro x hx; rw [(List.mem_replicate.1 hx).2]; simp
  have H1 := hide (fun W (hW : Below w.heap.size w W) => lfull_any W a _ mk (h.a.below hW).row)
  have H2 := hide (fun W (hW : Below w.heap.size w W) => lfull_any W b _ mk (h.b.below hW).row)
  have H3 := hide (fun W (hW : Below w.heap.size w W) => lfull_any W c _ mk (h.c.below hW).row)
  have H4 := hide (fun W (hW : Below w.heap.size w W) => lfull_any W d _ mk (h.d.below hW).row)
  simp only [hal] at H1 H2 H3 H4
  obtain ⟨A1, C1, e1, _⟩ := h.a
  obtain ⟨A2, C2, e2, _⟩ := h.b
  obtain ⟨A3, C3, e3, _⟩ := h.c
  obtain ⟨A4, C4, e4, _⟩ := h.d
  simp only at e1 e2 e3 e4
  subst e1 e2 e3 e4
  clear h hal
  obtain ⟨bx, hbx⟩ : ∃ bx, bx = w.alloc (.cells #[.slice A1 n C1, .slice A2 (n + 1) C2, .slice A3 (n + 2) C3, .slice A4 (n + 6) C4, .int .i64 mk] 68) := ⟨_, rfl⟩
  have HB0 : Hid (Below w.heap.size w bx) := hide (by rw [hbx]; exact (Below.refl _ _).alloc (Nat.le_refl _) _)
  have HSZ : Hid (w.heap.size < bx.heap.size) := hide (by rw [hbx]; simp)
  have HC : Hid (∀ W, Below bx.heap.size bx W → W.cell? ⟨w.heap.size, 1, none⟩ = some (.slice A2 (n + 1) C2) ∧ W.cell? ⟨w.heap.size, 2, none⟩ = some (.slice A3 (n + 2) C3) ∧ W.cell? ⟨w.heap.size, 3, none⟩ = some (.slice A4 (n + 6) C4) ∧ W.cell? ⟨w.heap.size, 4, none⟩ = some (.int .i64 mk)) := hide (fun W hW => by
    have hN : W.heap[w.heap.size]? = some (.cells #[.slice A1 n C1, .slice A2 (n + 1) C2, .slice A3 (n + 2) C3, .slice A4 (n + 6) C4, .int .i64 mk] 68) := (hW.block w.heap.size HSZ.out).trans (by rw [hbx]; exact heap_alloc_new w _)
    exact ⟨by rw [cell_of_row W _ 1 _ _ _ hN]; rfl, by rw [cell_of_row W _ 2 _ _ _ hN]; rfl, by rw [cell_of_row W _ 3 _ _ _ hN]; rfl, by rw [cell_of_row W _ 4 _ _ _ hN]; rfl⟩)
  go_enter Try.func38, Try.ntmps38
  go_wp2_with fail
  rw [← hbx]
  refine (H1.out bx HB0.out).mono ?_
  rintro e w1 ⟨rfl, hb1⟩
  obtain ⟨x1, x2, x3, x4⟩ := HC.out w1 hb1
  have HB1 := hide hb1
  clear hb1
  go_wp2_with fail
  refine (H2.out w1 (HB0.out.trans (HB1.out.mono HB0.out.size))).mono ?_
  rintro e w2 ⟨rfl, hb2⟩
  have HB2 := hide (HB1.out.trans (hb2.mono HB1.out.size))
  clear hb2 x1 x2 x3 x4
  obtain ⟨x1, x2, x3, x4⟩ := HC.out w2 HB2.out
  go_wp2_with fail
  refine (H3.out w2 (HB0.out.trans (HB2.out.mono HB0.out.size))).mono ?_
  rintro e w3 ⟨rfl, hb3⟩
  have HB3 := hide (HB2.out.trans (hb3.mono HB2.out.size))
  clear hb3 x1 x2 x3 x4
  obtain ⟨x1, x2, x3, x4⟩ := HC.out w3 HB3.out
  go_wp2_with fail
  refine (H4.out w3 (HB0.out.trans (HB3.out.mono HB0.out.size))).mono ?_
  rintro e w4 ⟨rfl, hb4⟩
  have HB4 := hide (HB3.out.trans (hb4.mono HB3.out.size))
  clear hb4 x1 x2 x3 x4
  go_wp2
  go_ret
  exact ⟨rfl, HB0.out.trans (HB4.out.mono HB0.out.size)⟩

end Go.Proofs.Ytmndgoapkmhglaa

/- the statements' own helpers: roomy, whole. -/
namespace Go.Proofs.Ytmndgoapkmhglaa
open Go.RowKit
attribute [local go_sem ↓] Go.wp_at_zero Go.wp_at_succ


/-- a list with a mark in its spare room; nil stays nil. -/
def RoomV (w : World) (B : Nat) (A : Option Addr) (xs : List Int) (v : Value) : Prop :=
  (A = none ∧ v = .slice none 0 0) ∨ (A ≠ none ∧ ∃ G, B ≤ G ∧ v = .slice (some ⟨G, 0, none⟩) xs.length (xs.length + 1) ∧ w.heap[G]? = some (.cells (iCells (xs ++ [-77])).toArray 3))

theorem RoomV.below {w w' : World} {B : Nat} {A : Option Addr} {xs : List Int} {v : Value} (h : RoomV w B A xs v) (hb : Below w.heap.size w w') : RoomV w' B A xs v := by
  rcases h with h | ⟨h1, G, h2, h3, h4⟩
  · exact .inl h
  · exact .inr ⟨h1, G, h2, h3, (hb.block G (Array.getElem?_eq_some_iff.1 h4).1).trans h4⟩
theorem RoomV.keep {w w' : World} {B : Nat} {A : Option Addr} {xs : List Int} {v : Value} (h : RoomV w B A xs v) {N : Nat} (hl : w.heap.size ≤ N) (hb : Below N w w') : RoomV w' B A xs v := h.below (hb.mono hl)
theorem RoomV.row {w : World} {B : Nat} {A : Option Addr} {xs : List Int} {v : Value} (h : RoomV w B A xs v) (h0 : A = none → xs = []) (hm : xs.length ≤ 35184372088832) : RowAt w v xs := by
  rcases h with ⟨h1, rfl⟩ | ⟨h1, G, h2, rfl, h4⟩
  · rw [h0 h1]; exact ⟨none, 0, rfl, by simp, fun hp => by simp at hp⟩
  · refine ⟨_, _, rfl, hm, fun hp => ⟨G, 0, rfl, (Array.getElem?_eq_some_iff.1 h4).1, fun c hc => ?_⟩⟩
    rw [cell_of_row w G _ _ _ _ h4]
    simp [iCells, List.getElem?_append, hc]

theorem eql_nil {P : Program} (t e : TypeId) (h : P.underlying t = some (.slice e)) (w : World) (a : Option Addr) (l c : Nat) : (binOp .eql t (.slice a l c) (.slice none 0 0)).run P w = .ok (.bool a.isNone) w := by
  simp only [binOp]
  simp [run_equal_slice_nil w t e a l c h]

theorem made_rep (z : Value) (n : Nat) : madeCells #[z] n = (List.replicate n z).toArray := by
  apply Array.ext
  · simp [madeCells]
  · intro i h1 h2
    simp [madeCells, Nat.mod_one]

set_option maxHeartbeats 2000000 in
set_option maxRecDepth 100000 in
theorem lroomy_any (w : World) (A : Option Addr) (C : Nat) (xs : List Int) (h : RowAt w (.slice A xs.length C) xs) (h0 : A = none → xs = []) (hn : xs.length ≤ 17592186044416) :
    Calls Try.prog 33 #[.slice A xs.length C] w fun e w' => ∃ v, e = .returned v ∧ RoomV w' w.heap.size A xs v ∧ Below w.heap.size w w' := by
  obtain ⟨A', C', he, hm, hc⟩ := h
  simp only [Value.slice.injEq, true_and] at he
  obtain ⟨rfl, rfl⟩ := he
  have hnil := eql_nil (P := Try.prog) 48 3 Try.underlying48
  cases A with
  | none =>
    have hx := h0 rfl
    subst hx
    clear hc h0
    go_enter Try.func33, Try.ntmps33
    go_wp2
    go_ret
    exact ⟨_, rfl, .inl ⟨rfl, rfl⟩, Below.refl _ _⟩
  | some a =>
    have hm2 := run_make_row' (P := Try.prog) 48 3 (.int .i64 0) 8 Try.underlying48 Try.infoInt rfl .i64 .i64 (xs.length + 1) (by omega) (by omega)
    simp only [show ((xs.length + 1 : Nat) : Int) = (xs.length : Int) + 1 from by omega] at hm2
    have hsz : (Try.prog.info? 3).map (·.size) = some 1 := by have := Try.infoInt; cases hq : Try.prog.info? 3 with | none => rw [hq] at this; cases this | some i => rw [hq] at this; simp at this; simp [this]
    obtain ⟨X, hX⟩ : ∃ X, X = iCells xs := ⟨_, rfl⟩
    have HX := hide hX
    have hXl : X.length = xs.length := by rw [hX]; exact iCells_len xs
    have hpos : 0 < X.length → ∃ ad, (some a : Option Addr) = some ad ∧ ∀ o j v, X[j]? = some v → (w.alloc o).cell? (ad.add j) = some v := fun hp => by
      obtain ⟨b, o, h1, h2, h3⟩ := hc (by omega)
      refine ⟨⟨b, o, none⟩, h1, fun oo j v hv => ?_⟩
      rw [hX, iCells_get] at hv
      obtain ⟨x, hx, rfl⟩ := Option.map_eq_some_iff.1 hv
      obtain ⟨hj, rfl⟩ := List.getElem?_eq_some_iff.1 hx
      rw [Addr.add_lit, World.cell?_alloc_past _ _ _ h2]
      exact h3 j hj
    have hone : ∀ v ∈ X, v.oneCell' = true := fun v hv => by
      rw [hX] at hv
      obtain ⟨x, _, rfl⟩ := List.mem_map.1 hv
      rfl
    obtain ⟨Z, hZ⟩ : ∃ Z, Z = List.replicate (xs.length + 1) (Value.int .i64 0) := ⟨_, rfl⟩
    have hZb : (w.alloc (.cells (madeCells #[.int .i64 0] (xs.length + 1)) 3)).heap[w.heap.size]? = some (.cells Z.toArray 3 (0, 0)) := by
      rw [heap_alloc_new, hZ, made_rep]
    have hZl : Z.length = xs.length + 1 := by rw [hZ]; simp
    have HZ := hide hZ
    have HB0 := hide ((Below.refl w.heap.size w).alloc (Nat.le_refl _) (.cells (madeCells #[.int .i64 0] (xs.length + 1)) 3))
    obtain ⟨w1, hcp, hg1, hb1⟩ : ∃ w1, (Builtin.copy_ #[48, 48] 3 #[.slice (some ⟨w.heap.size, 0, none⟩) (xs.length + 1) (xs.length + 1), .slice (some a) xs.length C]).run Try.prog (w.alloc (.cells (madeCells #[.int .i64 0] (xs.length + 1)) 3)) = .ok (goInt xs.length) w1 ∧
        w1.heap[w.heap.size]? = some (.cells (iCells (xs ++ [0])).toArray 3 (0, 0)) ∧ Below w.heap.size w w1 := by
      have hmin : X.length = Nat.min xs.length (xs.length + 1) := by rw [hXl]; exact (Nat.min_eq_left (by omega)).symm
      rcases Nat.eq_zero_or_pos xs.length with hz | hp
      · refine ⟨w.alloc (.cells (madeCells #[.int .i64 0] (xs.length + 1)) 3), ?_, hZb.trans ?_, HB0.out⟩
        · have := run_copy_none (P := Try.prog) (w.alloc (.cells (madeCells #[.int .i64 0] (xs.length + 1)) 3)) 48 48 3 3 (some ⟨w.heap.size, 0, none⟩) (some a) (xs.length + 1) (xs.length + 1) xs.length C Try.underlying48 hsz (by rw [← hmin, hXl]; exact hz)
          rw [this]; simp [hz]
        · rw [hZ, hz, List.eq_nil_of_length_eq_zero hz]; rfl
      · obtain ⟨ad, had, hsrc⟩ := hpos (by omega)
        cases had
        have hr := run_copy_row (P := Try.prog) (w.alloc (.cells (madeCells #[.int .i64 0] (xs.length + 1)) 3)) 48 48 3 3 w.heap.size 0 (xs.length + 1) (xs.length + 1) a xs.length C Z.toArray 3 X Try.underlying48 hsz hZb hmin (hsrc _) (by simp; omega) hone
        rw [hXl] at hr
        refine ⟨_, hr, ?_, below_setRow HB0.out (Nat.le_refl _) _⟩
        rw [setRow_heap _ _ _ _ _ _ hZb]
        congr 2
        rw [hZ, hX]
        simp [iCells, List.replicate_succ']
    have HG1 := hide hg1
    have HB1 := hide hb1
    have k1 : w1.cell? ⟨w.heap.size, xs.length, none⟩ = some (.int .i64 0) := by
      rw [cell_of_row w1 _ _ _ _ _ hg1]
      simp [iCells]
    have k2 : w1.frozen? ⟨w.heap.size, xs.length, none⟩ = false := frozen_of_row w1 _ _ _ _ hg1
    have k3 : (xs.length : Int) < (xs.length : Int) + 1 := by omega
    have k4 : (0 : Int) ≤ (xs.length : Int) := by omega
    have HFIN : Hid ((w1.setCell ⟨w.heap.size, xs.length, none⟩ (.int .i64 (-77))).heap[w.heap.size]? = some (.cells (iCells (xs ++ [-77])).toArray 3)) := hide (by
      rw [heap_setCell_same w1 _ _ _ _ _ hg1]
      congr 2
      simp [iCells])
    clear hc h0 hX hZ hpos hone hZb hsz hXl hZl hg1 hb1
    go_enter Try.func33, Try.ntmps33
    go_wp2
    go_ret
    exact ⟨_, rfl, .inr ⟨by simp, w.heap.size, Nat.le_refl _, rfl, HFIN.out⟩, HB1.out.setCell (Nat.le_refl _) _⟩

end Go.Proofs.Ytmndgoapkmhglaa
