import Derived.ArgAppend
import Derived.Test.YtecegaflhdgfaaaM31OpsA
/- the statements' own helpers: same, full. -/
namespace Go.Proofs.Ytecegaflhdgfaaa
open Go.RowKit
attribute [local go_sem ↓] Go.wp_at_zero Go.wp_at_succ

set_option maxHeartbeats 1000000 in
theorem lsame_any (w : World) (va vb : Value) (xs ys : List Int) (ha : RowAt w va xs) (hb : RowAt w vb ys) :
    Calls Try.prog 35 #[va, vb] w fun e w' => e = .returned (.bool (xs == ys)) ∧ Below w.heap.size w w' := by
  obtain ⟨A, C, rfl, hm, hc⟩ := ha
  obtain ⟨A', C', rfl, hm', hc'⟩ := hb
  by_cases hl : xs.length = ys.length
  · have q1 : ((xs.length : Int) != (ys.length : Int)) = false := by rw [hl]; simp
    have HA := hide hc
    have HB := hide hc'
    have HL := hide hl
    clear hc hc' hl
    go_enter Try.func35, Try.ntmps35
    go_wp2
    go_loopw [5] (fun vi wr => ∃ m : Nat, m ≤ xs.length ∧ vi = .int .i64 m ∧ Below w.heap.size w wr ∧ ∀ j, j < m → (hx : j < xs.length) → (hy : j < ys.length) → xs[j] = ys[j]) (fun vi _ => xs.length - (intOf vi).toNat)
    case atStart => exact ⟨0, Nat.zero_le _, rfl, Below.refl _ _, fun j hj => by omega⟩
    case round =>
      obtain ⟨m, hm, rfl, hbx, hrec⟩ := hrel
      have HRC := hide hrec
      clear hrec
      by_cases hml : m < xs.length
      · obtain ⟨b, o, rfl, hb, hr⟩ := HA.out (by omega)
        obtain ⟨b', o', rfl, hb', hr'⟩ := HB.out (by have := HL.out; omega)
        have hmy : m < ys.length := by have := HL.out; omega
        have x1 := (hbx.cell (p := ⟨b, o + m, none⟩) hb).trans (hr m hml)
        have x2 := (hbx.cell (p := ⟨b', o' + m, none⟩) hb').trans (hr' m hmy)
        have j3 : (0 : Int) ≤ (m : Int) := by omega
        have j4 : (m : Int) < (xs.length : Int) := by omega
        have j5 : (m : Int) < (ys.length : Int) := by omega
        by_cases he : xs[m] = ys[m]
        · have HN : Hid (∀ j, j < m + 1 → (hx : j < xs.length) → (hy : j < ys.length) → xs[j] = ys[j]) := hide (fun j hj hx hy => by
            by_cases e : j = m
            · subst e; exact he
            · exact HRC.out j (by omega) hx hy)
          have q2 : (xs[m] != ys[m]) = false := by rw [he]; simp
          generalize xs[m] = u at x1 q2
          generalize ys[m] = v at x2 q2
          clear hr hr' he
          go_wp2_with fail
          go_quiet (fail)
          go_wp2
          go_roundw
          case rel => exact ⟨m + 1, by omega, by go_num, by first | exact hbx | exact below_drewN hbx _, HN.out⟩
          case measure => simp [intOf]; omega
        · have HN := hide (row_ne hml hmy he)
          have q2 : (xs[m] != ys[m]) = true := by rw [bne_iff_ne]; exact he
          generalize xs[m] = u at x1 q2
          generalize ys[m] = v at x2 q2
          clear hr hr' he
          go_wp2_with fail
          go_quiet (fail)
          go_wp2
          go_ret
          exact ⟨by rw [HN.out]; rfl, by first | exact hbx | exact below_drewN hbx _⟩
      · have em : m = xs.length := by omega
        subst em
        have HN := hide (row_eq HL.out (fun j hx hy => HRC.out j hx hx hy))
        have z1 : ¬ (xs.length : Int) < (xs.length : Int) := by omega
        clear HRC
        go_wp2
        go_ret
        exact ⟨by rw [HN.out]; rfl, hbx⟩
  · have q1 : ((xs.length : Int) != (ys.length : Int)) = true := by rw [bne_iff_ne]; omega
    have HN : Hid ((xs == ys) = false) := hide (by rw [beq_eq_false_iff_ne]; rintro rfl; exact hl rfl)
    clear hc hc' hl
    go_enter Try.func35, Try.ntmps35
    go_wp2
    go_ret
    exact ⟨by rw [HN.out]; rfl, Below.refl _ _⟩

set_option maxHeartbeats 1000000 in
theorem lfull_any (w : World) (va : Value) (xs : List Int) (mk : Int) (ha : RowAt w va xs) :
    Calls Try.prog 55 #[va, .int .i64 mk] w fun e w' => e = .returned (.bool (xs.all (· == mk))) ∧ Below w.heap.size w w' := by
  obtain ⟨A, C, rfl, hm, hc⟩ := ha
  have HA := hide hc
  clear hc
  go_enter Try.func55, Try.ntmps55
  go_wp2
  go_loopw [5] (fun vi wr => ∃ m : Nat, m ≤ xs.length ∧ vi = .int .i64 m ∧ Below w.heap.size w wr ∧ ∀ j, j < m → (hx : j < xs.length) → xs[j] = mk) (fun vi _ => xs.length - (intOf vi).toNat)
  case atStart => exact ⟨0, Nat.zero_le _, rfl, Below.refl _ _, fun j hj => by omega⟩
  case round =>
    obtain ⟨m, hm, rfl, hbx, hrec⟩ := hrel
    have HRC := hide hrec
    clear hrec
    by_cases hml : m < xs.length
    · obtain ⟨b, o, rfl, hb, hr⟩ := HA.out (by omega)
      have x1 := (hbx.cell (p := ⟨b, o + m, none⟩) hb).trans (hr m hml)
      have j3 : (0 : Int) ≤ (m : Int) := by omega
      have j4 : (m : Int) < (xs.length : Int) := by omega
      by_cases he : xs[m] = mk
      · have HN : Hid (∀ j, j < m + 1 → (hx : j < xs.length) → xs[j] = mk) := hide (fun j hj hx => by
          by_cases e : j = m
          · subst e; exact he
          · exact HRC.out j (by omega) hx)
        have q2 : (xs[m] != mk) = false := by rw [he]; simp
        generalize xs[m] = u at x1 q2
        clear hr he
        go_wp2
        go_roundw
        case rel => exact ⟨m + 1, by omega, by go_num, by first | exact hbx | exact below_drewN hbx _, HN.out⟩
        case measure => simp [intOf]; omega
      · have HN : Hid (xs.all (· == mk) = false) := hide (by rw [List.all_eq_false]; exact ⟨xs[m], List.getElem_mem hml, by simpa using he⟩)
        have q2 : (xs[m] != mk) = true := by rw [bne_iff_ne]; exact he
        generalize xs[m] = u at x1 q2
        clear hr he
        go_wp2
        go_ret
        exact ⟨by rw [HN.out]; rfl, by first | exact hbx | exact below_drewN hbx _⟩
    · have em : m = xs.length := by omega
      subst em
      have HN : Hid (xs.all (· == mk) = true) := hide (by
        rw [List.all_eq_true]
        intro x hx
        obtain ⟨j, hj, rfl⟩ := List.getElem_of_mem hx
        rw [HRC.out j hj hj]; simp)
      have z1 : ¬ (xs.length : Int) < (xs.length : Int) := by omega
      clear HRC
      go_wp2
      go_ret
      exact ⟨by rw [HN.out]; rfl, hbx⟩

end Go.Proofs.Ytecegaflhdgfaaa

/- the statements' own helpers: append onto a list that is kept. -/
namespace Go.Proofs.Ytecegaflhdgfaaa
open Go.RowKit

/-- a list whose cells are all one mark, in blocks of a kind. -/
def AllM (w : World) (K : Nat → Prop) (v : Value) (n : Nat) (mk : Int) : Prop :=
  ∃ (A : Option Addr) (C : Nat), v = .slice A n C ∧ n ≤ 35184372088832 ∧ (0 < n → ∃ b o, A = some ⟨b, o, none⟩ ∧ K b ∧ b < w.heap.size ∧ ∀ c, c < n → w.cell? ⟨b, o + c, none⟩ = some (.int .i64 mk))

theorem AllM.row {w : World} {K : Nat → Prop} {v : Value} {n : Nat} {mk : Int} (h : AllM w K v n mk) : RowAt w v (List.replicate n mk) := by
  obtain ⟨A, C, rfl, hm, hc⟩ := h
  refine ⟨A, C, by rw [List.length_replicate], by rw [List.length_replicate]; exact hm, fun hp => ?_⟩
  rw [List.length_replicate] at hp
  obtain ⟨b, o, h1, _, h3, h4⟩ := hc hp
  exact ⟨b, o, h1, h3, fun c hc => by rw [List.getElem_replicate]; exact h4 c (by simpa using hc)⟩
theorem AllM.keep {w w' : World} {K K' : Nat → Prop} {v : Value} {n : Nat} {mk : Int} (h : AllM w K v n mk) (hs : w.heap.size ≤ w'.heap.size) (hk : ∀ b, b < w.heap.size → K b → K' b)
    (hc : ∀ b, b < w.heap.size → K b → ∀ c, w.cell? ⟨b, c, none⟩ = some (.int .i64 mk) → w'.cell? ⟨b, c, none⟩ = some (.int .i64 mk)) : AllM w' K' v n mk := by
  obtain ⟨A, C, rfl, hm, h⟩ := h
  refine ⟨A, C, rfl, hm, fun hp => ?_⟩
  obtain ⟨b, o, h1, h2, h3, h4⟩ := h hp
  exact ⟨b, o, h1, hk b h3 h2, Nat.lt_of_lt_of_le h3 hs, fun c hcc => hc b h3 h2 _ (h4 c hcc)⟩
theorem AllM.below {w w' : World} {K : Nat → Prop} {v : Value} {n : Nat} {mk : Int} (h : AllM w K v n mk) (hb : Below w.heap.size w w') : AllM w' K v n mk :=
  h.keep hb.size (fun _ _ hk => hk) (fun b hb' _ c hc => (hb.cell (p := ⟨b, c, none⟩) hb').trans hc)

theorem grown_cell {w w' : World} {row : Option Nat} (h : w.grownBy w' row) {b c : Nat} (hb : b < w.heap.size) (hr : row ≠ some b) : w'.cell? ⟨b, c, none⟩ = w.cell? ⟨b, c, none⟩ :=
  World.cell?_of_block (w := w) (a := ⟨b, c, none⟩) (h.block b hb (Ne.symm hr))

theorem own_all {w : World} {base : Nat} {e : TypeId} {v : Value} {n : Nat} {mk : Int} (hn : n ≤ 35184372088832) (h : w.ownsRow base e 1 v n (List.replicate n (.int .i64 mk))) (K : Nat → Prop) (hK : ∀ b, v.ownBlock = some b → K b) : AllM w K v n mk := by
  rcases h.2 with ⟨rfl, rfl⟩ | ⟨g, cap, cur, rfl, hb, hg, h1, h2, h3, h4⟩
  · exact ⟨none, 0, rfl, hn, fun hp => by omega⟩
  · refine ⟨some ⟨g, 0, none⟩, cap, rfl, hn, fun hp => ⟨g, 0, rfl, hK g rfl, (Array.getElem?_eq_some_iff.1 hg).1, fun c hc => ?_⟩⟩
    rw [h.cellAt (0 + c) (by omega), List.getElem?_replicate, if_pos (by omega)]

theorem setCells_block {b : Nat} : ∀ (vs : List Value) (o : Nat) (w : World) (cs : Array Value) (t : TypeId), w.heap[b]? = some (.cells cs t (0, 0)) →
    ∃ cs', (w.setCells b o vs).heap[b]? = some (.cells cs' t (0, 0)) ∧ cs'.size = cs.size ∧ cs'.toList.take o = cs.toList.take o ∧ (w.setCells b o vs).heap.size = w.heap.size ∧ (∀ k, k ≠ b → (w.setCells b o vs).heap[k]? = w.heap[k]?) ∧ (w.setCells b o vs).os = w.os ∧ (w.setCells b o vs).tape = w.tape ∧ (w.setCells b o vs).output = w.output := by
  intro vs
  induction vs with
  | nil => intro o w cs t h; exact ⟨cs, h, rfl, rfl, rfl, fun _ _ => rfl, rfl, rfl, rfl⟩
  | cons v r ih =>
    intro o w cs t h
    obtain ⟨cs', h1, h2, h3, h4, h5, h6, h7, h8⟩ := ih (o + 1) (w.setCell ⟨b, o, none⟩ v) (cs.setIfInBounds o v) t (heap_setCell_same w b o cs t v h)
    refine ⟨cs', h1, by simpa using h2, ?_, by rw [World.setCells, h4]; simp, fun k hk => (h5 k hk).trans (heap_setCell_other w ⟨b, o, none⟩ k v hk), h6, h7, h8⟩
    have e : cs'.toList.take o = (cs'.toList.take (o + 1)).take o := by rw [List.take_take, Nat.min_eq_left (by omega)]
    rw [e, h3, List.take_take, Nat.min_eq_left (by omega), Array.toList_setIfInBounds, List.take_set_of_le (by omega)]

/-- append of marks onto a list that is full of them, and stays. -/
theorem append_marks {P : Program} (w : World) {ops : Array Oper} {rest : List Oper} {o : Oper} {a : Act} {Q : Exit → Act → World → Prop}
    (hg : o.guard = none) (s x : Operand) (t : TypeId) (hop : o.op = Op.call { callee := Callee.builtin Builtin.append, args := #[s, x], argTypes := #[t, t] })
    (e : TypeId) (i : TypeInfo) (z : Value) (h1 : P.underlying t = some (.slice e)) (h2 : P.info? e = some i) (h3 : i.zero = some z) (h4 : i.size = 1) (h5 : i.bytes = 8) (h6 : z.cells.size = 1)
    (base n m : Nat) (mk : Int) (v : Value) (hs : a.eval s = v) (hown : w.ownsRow base e 1 v n (List.replicate n (.int .i64 mk)))
    (ad : Addr) (c : Nat) (hx : a.eval x = .slice (some ad) m c) (hc : ∀ j, j < m → w.cell? (ad.add j) = some (.int .i64 mk)) (hm : 0 < m) (hnm : n + m ≤ 1000000)
    (h : ∀ v' w', w'.ownsRow base e 1 v n (List.replicate n (.int .i64 mk)) → w.grownBy w' v.ownBlock → (∀ b c, w.cell? ⟨b, c, none⟩ = some (.int .i64 mk) → w'.cell? ⟨b, c, none⟩ = some (.int .i64 mk)) →
      AllM w' (fun b => v.ownBlock = some b ∨ w.heap.size ≤ b) v' (n + m) mk → (∃ A C, v' = .slice A (n + m) C) → wpList P ops Q rest (a.put o.dst v') w') :
    wpList P ops Q (o :: rest) a w := by
  have news : ∀ j u, (List.replicate m (Value.int .i64 mk))[j]? = some u → w.cell? (ad.add j) = some u := fun j u hj => by
    rw [List.getElem?_replicate] at hj
    split at hj
    · cases hj; exact hc j (by assumption)
    · cases hj
  have one : ∀ u ∈ List.replicate m (Value.int .i64 mk), u.oneCell' = true := fun u hu => by rw [(List.mem_replicate.1 hu).2]; rfl
  have rep : List.replicate n (Value.int .i64 mk) ++ List.replicate m (.int .i64 mk) = List.replicate (n + m) (.int .i64 mk) := List.replicate_append_replicate
  have big : n + m ≤ maxLen := by unfold maxLen; omega
  have grow : ∀ v' w', w'.ownsRow w.heap.size e 1 v' (n + m) (List.replicate n (.int .i64 mk) ++ List.replicate m (.int .i64 mk)) → w.grownBy w' none → wpList P ops Q rest (a.put o.dst v') w' := fun v' w' hown' hgr => by
    rw [rep] at hown'
    obtain ⟨A, C, hv', _⟩ := own_shape hown'
    refine h v' w' (hown.kept hgr ?_) ⟨hgr.os, hgr.tape, hgr.output, hgr.size, fun k hk _ => hgr.block k hk (by simp)⟩ (fun b c hcell => ?_) (own_all (by omega) hown' _ (fun b hb => .inr (hown'.lt b hb).1)) ⟨A, C, hv'⟩
    · cases v.ownBlock with
      | none => exact .inl rfl
      | some k => exact .inr (by simp)
    · rw [grown_cell hgr (World.block_lt_of_cell? _ _ hcell) (by simp)]; exact hcell
  rcases hown.2 with ⟨rfl, rfl⟩ | ⟨g, cap, cur, rfl, hb, hgc, hnc, hcm, hcs, htake⟩
  · exact wpList_append_grows w hg s x t hop e i z 1 8 h1 h2 h3 h4 h5 h6 (by omega) none 0 0 [] hs (fun _ => ⟨rfl, rfl⟩) rfl (fun b hb => by cases hb) ad m c (List.replicate m (.int .i64 mk)) hx (by simp) news one (by omega) big (by omega) (fun v' w' ho hgr => grow v' w' (by simpa using ho) hgr)
  · refine wpList_append_arg w hg s x t hop e i z 1 8 h1 h2 h3 h4 h5 h6 (by omega) g 0 n cap (List.replicate n (.int .i64 mk)) hs (by simp) (fun j u hj => ?_) ad m c (List.replicate m (.int .i64 mk)) hx (by simp) news one ?_ big (by omega) ?_ (fun _ v' w' ho hgr => grow v' w' ho hgr)
    · rw [Nat.zero_add, hown.cellAt j (by have := (List.getElem?_eq_some_iff.1 hj).1; simpa using this)]; exact hj
    · intro hr j hj
      rw [List.length_replicate] at hj
      refine ⟨?_, hown.frozenAt _⟩
      rw [cell_of_row w g _ _ _ _ hgc, Array.getElem?_eq_getElem (by omega)]
      rfl
    · intro hr
      obtain ⟨cs', k1, k2, k3, k4, k5, k6, k7, k8⟩ := setCells_block (List.replicate m (Value.int .i64 mk)) (0 + n * 1) w cur e hgc
      have hin : ∀ j, j < m → (w.setCells g (0 + n * 1) (List.replicate m (Value.int .i64 mk))).cell? ⟨g, 0 + n * 1 + j, none⟩ = some (.int .i64 mk) := fun j hj => by
        rw [World.cell?_setCells_in g _ _ w (fun j hj => by rw [List.length_replicate] at hj; rw [cell_of_row w g _ _ _ _ hgc, Array.getElem?_eq_getElem (by omega)]; rfl) j (by simpa using hj), List.getElem_replicate]
      have keep : ∀ b c, w.cell? ⟨b, c, none⟩ = some (.int .i64 mk) → (w.setCells g (0 + n * 1) (List.replicate m (Value.int .i64 mk))).cell? ⟨b, c, none⟩ = some (.int .i64 mk) := fun b c hcell => by
        by_cases hh : b = g ∧ 0 + n * 1 ≤ c ∧ c < 0 + n * 1 + m
        · obtain ⟨rfl, hc1, hc2⟩ := hh
          have := hin (c - (0 + n * 1)) (by omega)
          rwa [show 0 + n * 1 + (c - (0 + n * 1)) = c by omega] at this
        · rw [World.cell?_setCells_out g _ _ w ⟨b, c, none⟩ (fun hb' _ => by
            have hb'' : b = g := hb'
            show c < 0 + n * 1 ∨ 0 + n * 1 + (List.replicate m (Value.int .i64 mk)).length ≤ c
            rw [List.length_replicate]; omega)]
          exact hcell
      refine h _ _ ⟨by simp, .inr ⟨g, cap, cs', rfl, hb, k1, hnc, hcm, by rw [k2]; exact hcs, ?_⟩⟩ ⟨k6, k7, k8, by rw [k4]; exact Nat.le_refl _, fun k _ hk => k5 k (fun e => hk (by rw [e]; rfl))⟩ keep ?_ ⟨_, _, rfl⟩
      · rw [Nat.zero_add] at k3
        rw [k3]; exact htake
      · refine ⟨some ⟨g, 0, none⟩, cap, rfl, by omega, fun hp => ⟨g, 0, rfl, .inl rfl, by rw [k4]; exact (Array.getElem?_eq_some_iff.1 hgc).1, fun c hc' => ?_⟩⟩
        by_cases hcn : c < n
        · refine keep g (0 + c) ?_
          rw [hown.cellAt (0 + c) (by omega), List.getElem?_replicate, if_pos (by omega)]
        · have := hin (c - n) (by omega)
          rwa [show 0 + n * 1 + (c - n) = 0 + c by omega] at this

theorem marks_block (w : World) (cs : Array Value) (t : TypeId) (m : Nat) (mk : Int) (h : cs.toList = List.replicate m (.int .i64 mk)) : ∀ j, j < m → (w.alloc (.cells cs t)).cell? ((⟨w.heap.size, 0, none⟩ : Addr).add j) = some (.int .i64 mk) := by
  intro j hj
  refine World.news_of_block (cs := cs) (t := t) (fr := (0, 0)) (heap_alloc_new w _) j _ ?_
  rw [h, List.getElem?_replicate, if_pos hj]

theorem grown_trans {w w1 w2 : World} {row : Option Nat} (h1 : w.grownBy w1 row) (h2 : w1.grownBy w2 row) : w.grownBy w2 row :=
  ⟨h2.os.trans h1.os, h2.tape.trans h1.tape, h2.output.trans h1.output, Nat.le_trans h1.size h2.size, fun k hk hne => (h2.block k (Nat.lt_of_lt_of_le hk h1.size) hne).trans (h1.block k hk hne)⟩
theorem grown_alloc (w : World) (o : Obj) (row : Option Nat) : w.grownBy (w.alloc o) row := ⟨rfl, rfl, rfl, by simp, fun k hk _ => Below.heap_alloc _ _ _ hk⟩
theorem grown_drew {w w1 : World} {row : Option Nat} (h : w.grownBy w1 row) : w.grownBy w1.drew row := ⟨h.os, h.tape, h.output, h.size, h.block⟩
/-- a store into a new block. -/
theorem grown_set {w w1 : World} {row : Option Nat} (h : w.grownBy w1 row) {p : Addr} (hp : w.heap.size ≤ p.block) (u : Value) : w.grownBy (w1.setCell p u) row :=
  ⟨h.os, h.tape, h.output, by simpa using h.size, fun k hk hne => (Below.heap_setCell _ _ _ _ (by omega)).trans (h.block k hk hne)⟩

end Go.Proofs.Ytecegaflhdgfaaa
