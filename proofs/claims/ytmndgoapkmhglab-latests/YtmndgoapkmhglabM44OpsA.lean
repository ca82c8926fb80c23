import Derived.Test.YtmndgoapkmhglabM33LawN
import Derived.Test.YtmndgoapkmhglabM40RefO
import Derived.Test.YtmndgoapkmhglabM42KpP
/- an argument that is bounds, opened. -/
namespace Go.Proofs.Ytmndgoapkmhglab
open Go.ChangeShapes Go.WideShapes Go.RowKit Go.Deep

theorem Try.uBounds : Try.prog.underlying 23 = some (.struct (Try.prog.fieldsOf 23)) := by kernel_rfl
theorem Try.fBounds : (Try.prog.fieldsOf 23).toList.map (fun f => (f.type, f.offset)) = [(3, 0), (3, 1), (3, 2), (3, 3)] := by kernel_rfl
theorem Try.cBounds : Try.prog.cellsOf 23 = 4 := by kernel_rfl

theorem open_bounds {H : Type} {enc : TypeId × Value → H} {W : World} {cs : Array Value} {d : DataW H} {ps : List MemPlace} (h : DataW.Trod enc Try.prog W 0 (fun _ => true) true 23 (.agg cs) d ps) : ∃ b : BdF, cs = #[.int .i64 b.tmin, .int .i64 b.tmax, .int .i64 b.dmin, .int .i64 b.dmax] := by
  obtain ⟨fuel, hf⟩ := h
  obtain ⟨v0, v1, v2, v3, y0, y1, y2, y3, k, hcs, _, g0, g1, g2, g3, _⟩ := trod_four Try.uBounds Try.fBounds Try.cBounds Try.cellsInt Try.cellsInt Try.cellsInt Try.cellsInt hf
  obtain ⟨z0, e0, _⟩ := DataW.trod_int Try.underlying3 g0
  obtain ⟨z1, e1, _⟩ := DataW.trod_int Try.underlying3 g1
  obtain ⟨z2, e2, _⟩ := DataW.trod_int Try.underlying3 g2
  obtain ⟨z3, e3, _⟩ := DataW.trod_int Try.underlying3 g3
  simp only [List.cons.injEq, and_true] at e0 e1 e2 e3
  subst e0 e1 e2 e3
  refine ⟨⟨z0, z1, z2, z3⟩, ?_⟩
  have : (Value.agg cs).cells = cs := rfl
  rw [this] at hcs
  cases cs
  simp_all

end Go.Proofs.Ytmndgoapkmhglab

/- Plain mathematics: the longest chain of waits, reckoned in rounds. -/
namespace Go.Proofs.Ytmndgoapkmhglab
open Go.RowKit

/-- the links of the longest chain to a place, from the chains to the places that it waits for. -/
structure OneM (E : Nat → Nat) (R : Nat → Bool) (n t : Nat) : Prop where
  is : t = 0 ∨ ∃ q, q < n ∧ R q = true ∧ t = E q + 1
  ge : ∀ q, q < n → R q = true → E q + 1 ≤ t
theorem OneM.zero (E : Nat → Nat) (R : Nat → Bool) : OneM E R 0 0 := ⟨.inl rfl, fun q h => by omega⟩
theorem OneM.keep {E : Nat → Nat} {R : Nat → Bool} {n t : Nat} (h : OneM E R n t) (hn : ¬ (R n = true ∧ t < E n + 1)) : OneM E R (n + 1) t := by
  refine ⟨h.is.imp id (fun ⟨q, h1, h2, h3⟩ => ⟨q, by omega, h2, h3⟩), fun q hq hR => ?_⟩
  rcases Nat.lt_succ_iff_lt_or_eq.1 hq with h' | rfl
  · exact h.ge q h' hR
  · exact Nat.le_of_not_lt fun e => hn ⟨hR, e⟩
theorem OneM.more {E : Nat → Nat} {R : Nat → Bool} {n t : Nat} (h : OneM E R n t) (hR : R n = true) (ht : t < E n + 1) : OneM E R (n + 1) (E n + 1) := by
  refine ⟨.inr ⟨n, Nat.lt_succ_self _, hR, rfl⟩, fun q hq hq2 => ?_⟩
  rcases Nat.lt_succ_iff_lt_or_eq.1 hq with h' | rfl
  · have := h.ge q h' hq2; omega
  · exact Nat.le_refl _

/-- what holds in round r, when k places have been gone through. -/
structure LgI (M : Mx) (r k : Nat) (E : Nat → Nat) (t : Nat) : Prop where
  up : ∀ q, q < 4 → aheadF M q (E q) = true
  lo : ∀ q, q < 4 → ∀ m, m ≤ (if q < k then r + 1 else r) → aheadF M q m = true → m ≤ E q
  mu : ∃ q, q < 4 ∧ aheadF M q t = true
  ml : ∀ q, q < 4 → E q ≤ t

theorem LgI.start (M : Mx) : LgI M 0 0 (fun _ => 0) 0 := ⟨fun _ _ => rfl, fun q _ m hm _ => by simpa using hm, ⟨0, by omega, rfl⟩, fun _ _ => Nat.le_refl _⟩
theorem LgI.step {M : Mx} {r k : Nat} {E : Nat → Nat} {t x : Nat} (h : LgI M r k E t) (hk : k < 4) (hx : OneM E (M k) 4 x) : LgI M r (k + 1) (fun q => if q = k then x else E q) (if t < x then x else t) := by
  have hax : aheadF M k x = true := by
    rcases hx.is with rfl | ⟨q, h1, h2, rfl⟩
    · rfl
    · unfold aheadF
      rw [List.any_eq_true]
      exact ⟨q, List.mem_range.2 h1, by rw [Bool.and_eq_true]; exact ⟨h2, h.up q h1⟩⟩
  refine ⟨fun q hq => ?_, fun q hq m hm ha => ?_, ?_, fun q hq => ?_⟩
  · by_cases e : q = k
    · subst e; simpa using hax
    · simpa [e] using h.up q hq
  · by_cases e : q = k
    · subst e
      simp only [if_true]
      cases m with
      | zero => exact Nat.zero_le _
      | succ m =>
        unfold aheadF at ha
        rw [List.any_eq_true] at ha
        obtain ⟨p, hp, ha⟩ := ha
        rw [Bool.and_eq_true] at ha
        have hp4 := List.mem_range.1 hp
        have h1 := h.lo p hp4 m (by split <;> (rw [if_pos (by omega)] at hm; omega)) ha.2
        have h2 := hx.ge p hp4 ha.1
        omega
    · simp only [e, if_false]
      exact h.lo q hq m (by by_cases hqk : q < k
                            · rw [if_pos hqk]; rw [if_pos (by omega)] at hm; exact hm
                            · rw [if_neg hqk]; rw [if_neg (by omega)] at hm; exact hm) ha
  · by_cases e : t < x
    · rw [if_pos e]; exact ⟨k, hk, hax⟩
    · rw [if_neg e]; exact h.mu
  · by_cases e : q = k
    · simp only [e, if_true]; split <;> omega
    · simp only [e, if_false]; have := h.ml q hq; split <;> omega
theorem LgI.round {M : Mx} {r : Nat} {E : Nat → Nat} {t : Nat} (h : LgI M r 4 E t) : LgI M (r + 1) 0 E t :=
  ⟨h.up, fun q hq m hm ha => h.lo q hq m (by rw [if_pos hq]; simpa using hm) ha, h.mu, h.ml⟩

theorem dUp_is (M : Mx) : ∀ n, ∃ q, q < 4 ∧ aheadF M q (dUp M n) = true := by
  intro n
  induction n with
  | zero => exact ⟨0, by omega, rfl⟩
  | succ n ih =>
    unfold dUp
    split
    · rename_i h
      rw [List.any_eq_true] at h
      obtain ⟨q, hq, ha⟩ := h
      exact ⟨q, List.mem_range.1 hq, ha⟩
    · exact ih
theorem LgI.done {M : Mx} {E : Nat → Nat} {t : Nat} (h : LgI M 4 0 E t) (hA : ∀ q n, q < 4 → aheadF M q n = true → n ≤ 3) : t = dUp M 3 := by
  obtain ⟨q, hq, ha⟩ := h.mu
  have h1 := dUp_ge M hq 3 t (hA q t hq ha) ha
  obtain ⟨p, hp, hd⟩ := dUp_is M 3
  have h2 := h.lo p hp (dUp M 3) (by have := dUp_le M 3; simp; omega) hd
  have h3 := h.ml p hp
  omega

/-- no chain of waits is longer than three. -/
theorem ahead_three {ts : List Tk} {L : List Dl} (hlp : lpR ts L = none) (hpl : ∀ x ∈ eqL L, placeD ts x < 4) : ∀ q n, q < 4 → aheadF (waitM ts L) q n = true → n ≤ 3 := by
  intro q n hq ha
  cases n with
  | zero => omega
  | succ n =>
    have h1 := ahead_used hlp hpl ha hq
    have h2 : (usedR ts L).length ≤ 4 := by
      have := List.length_filter_le (usedB ts L) (List.range 4)
      rw [List.length_range] at this
      exact this
    omega

end Go.Proofs.Ytmndgoapkmhglab

/- Plain mathematics: a right text, as the program holds it. -/
namespace Go.Proofs.Ytmndgoapkmhglab

/-- a right text, as the program holds it. -/
theorem held_of {s : ByteArray} {p : PS} (_hs : s.size ≤ 1500) (hp : parseF s = .ok p) {L : List Dl} (hG : RGood s L) : p.decls = declsD (toks s) L 0 0 0 ∧ boundN p = (nodesD (toks s) L 0).map (bindF p.decls) ∧ Both2 (toks s) L p.decls (boundN p) := by
  obtain ⟨p', hp', h1, h2⟩ := hG.parse
  rw [hp] at hp'
  cases hp'
  have hb : boundN p = (nodesD (toks s) L 0).map (bindF p.decls) := by unfold boundN; rw [h2]
  refine ⟨h1, hb, ?_⟩
  rw [hb, h1]
  exact both2 (toks_F s) (toks_end s) L hG.sp hG.names

theorem links_held {s : ByteArray} {p : PS} (hs : s.size ≤ 1500) (hp : parseF s = .ok p) {L : List Dl} (hG : RGood s L) : linksF p.decls (boundN p) = routesR (toks s) L := by
  obtain ⟨h1, h2, hB⟩ := held_of hs hp hG
  exact links_eq (toks_F s) hB.N hB.sp hB.decl hB.dx (fun a d x hd hx hk => by rw [h1] at hd; have := declsD_num (toks s) L 0 0 0 a d x hd hx hk; rw [this, Nat.zero_add])

theorem text_le {s : ByteArray} (h : (textF s).1 = 0) : s.size ≤ 1500 := by
  by_cases hs : 1500 < s.size
  · unfold textF at h; rw [if_pos hs] at h; cases h
  · omega

end Go.Proofs.Ytmndgoapkmhglab

/- the places, and the waits, of a text that is held. -/
namespace Go.Proofs.Ytmndgoapkmhglab

theorem places_held {s : ByteArray} {p : PS} (hs : s.size ≤ 1500) (hp : parseF s = .ok p) {L : List Dl} (hG : RGood s L) : (eqsF p.decls).map Dc.place = plR (toks s) L := by
  obtain ⟨_, _, hB⟩ := held_of hs hp hG
  have hE : All2 (DX (toks s) (bindF p.decls) (boundN p)) (eqsF p.decls) (eqL L) := All2.filter (fun d x h => by rw [h.kind]) hB.dx
  have hk : ∀ x ∈ eqL L, x.kind ≠ 0 := fun x hx => by have := (List.mem_filter.1 hx).2; simpa using this
  have key : ∀ (l : List Dc) (m : List Dl), (∀ x ∈ m, x.kind ≠ 0) → All2 (DX (toks s) (bindF p.decls) (boundN p)) l m → l.map Dc.place = m.map (placeD (toks s)) := by
    intro l
    induction l with
    | nil => intro m _ h; cases m with
      | nil => rfl
      | cons x m => exact h.elim
    | cons d l ih => intro m hm h; cases m with
      | nil => exact h.elim
      | cons x m => rw [List.map_cons, List.map_cons, h.1.place (hm x (by simp)), ih m (fun y hy => hm y (List.mem_cons_of_mem _ hy)) h.2]
  exact key _ _ hk hE
theorem waits_held {s : ByteArray} {p : PS} (hs : s.size ≤ 1500) (hp : parseF s = .ok p) {L : List Dl} (hG : RGood s L) : waitsM (eqsF p.decls) (linksF p.decls (boundN p)) noM = waitM (toks s) L := by
  rw [waits_pl, places_held hs hp hG, links_held hs hp hG]
  rfl

end Go.Proofs.Ytmndgoapkmhglab

/- operations, and acts, as they lie. -/
namespace Go.Proofs.Ytmndgoapkmhglab
open Go.RowKit

/-- operations, as they lie. -/
def OpsAt (w : World) (v : Value) (ops : List OpF) : Prop :=
  ∃ (A : Option Addr) (C : Nat), v = .slice A ops.length C ∧ ops.length ≤ 4398046511104 ∧ (0 < ops.length → ∃ b o, A = some ⟨b, o, none⟩ ∧ b < w.heap.size ∧ ∀ i, (h : i < ops.length) →
    w.cell? ⟨b, o + i * 4, none⟩ = some (.int .i64 ops[i].k) ∧ w.cell? ⟨b, o + i * 4 + 1, none⟩ = some (.int .i64 ops[i].a) ∧ w.cell? ⟨b, o + i * 4 + 2, none⟩ = some (.int .i64 ops[i].b) ∧ w.cell? ⟨b, o + i * 4 + 3, none⟩ = some (.int .i64 ops[i].c))
theorem OpsAt.below {w w' : World} {v : Value} {ops : List OpF} (h : OpsAt w v ops) (hb : Below w.heap.size w w') : OpsAt w' v ops := by
  obtain ⟨A, C, hv, hm, hc⟩ := h
  refine ⟨A, C, hv, hm, fun hp => ?_⟩
  obtain ⟨b, o, h1, h2, h3⟩ := hc hp
  refine ⟨b, o, h1, Nat.lt_of_lt_of_le h2 hb.size, fun i hi => ?_⟩
  obtain ⟨k0, k1, k2, k3⟩ := h3 i hi
  exact ⟨(hb.cell (p := ⟨b, o + i * 4, none⟩) h2).trans k0, (hb.cell (p := ⟨b, o + i * 4 + 1, none⟩) h2).trans k1, (hb.cell (p := ⟨b, o + i * 4 + 2, none⟩) h2).trans k2, (hb.cell (p := ⟨b, o + i * 4 + 3, none⟩) h2).trans k3⟩

end Go.Proofs.Ytmndgoapkmhglab
