import Derived.Test.YtmndgoapkmhglaaA25RefHa
import Derived.Test.YtmndgoapkmhglaaA27TabA
import Derived.Test.YtmndgoapkmhglaaA29GoodT
import Derived.Test.YtmndgoapkmhglaaA31StrG
/- what stands for itself, of lists and streams as they lie; what a program's Streams must hand over. -/
namespace Go.Proofs.Ytmndgoapkmhglaa
open Go.RowKit

theorem row_eq {xs ys : List Int} (hl : xs.length = ys.length) (h : ∀ j, (hx : j < xs.length) → (hy : j < ys.length) → xs[j] = ys[j]) : (xs == ys) = true := by
  rw [beq_iff_eq]
  exact List.ext_getElem hl h
theorem row_ne {xs ys : List Int} {j : Nat} (hx : j < xs.length) (hy : j < ys.length) (h : xs[j] ≠ ys[j]) : (xs == ys) = false := by
  rw [beq_eq_false_iff_ne]
  rintro rfl
  exact h rfl


/-- numbers as cells. -/
def iCells (l : List Int) : List Value := l.map fun x => Value.int .i64 x
theorem iCells_len (l : List Int) : (iCells l).length = l.length := by simp [iCells]
theorem iCells_get (l : List Int) (j : Nat) : (iCells l)[j]? = l[j]?.map fun x => Value.int .i64 x := by simp [iCells]

theorem Try.infoIntsE : (Try.prog.info? 48).map (fun i => (i.zero, i.size, i.bytes)) = some (some (.slice none 0 0), 1, 24) := by kernel_rfl

/-- an argument's lists, as they came in: each with its address (nil or not). -/
structure ArgL (w : World) (A : Option Addr) (C : Nat) (ins : List (List Int)) (AS : Nat → Option Addr) (CS : Nat → Nat) : Prop where
  few : ins.length ≤ 5864062014805
  nil : A = none → ins = []
  out : 0 < ins.length → ∃ b o, A = some ⟨b, o, none⟩ ∧ b < w.heap.size ∧ ∀ r, (h : r < ins.length) → w.cell? ⟨b, o + r, none⟩ = some (.slice (AS r) ins[r].length (CS r))
  row : ∀ r, (h : r < ins.length) → RowAt w (.slice (AS r) ins[r].length (CS r)) ins[r] ∧ (AS r = none → ins[r] = []) ∧ ins[r].length ≤ 17592186044416
  cap : ∀ r, (h : r < ins.length) → ins[r].length ≤ CS r

theorem ArgL.below {w w' : World} {A : Option Addr} {C : Nat} {ins : List (List Int)} {AS : Nat → Option Addr} {CS : Nat → Nat} (h : ArgL w A C ins AS CS) (hb : Below w.heap.size w w') : ArgL w' A C ins AS CS := by
  refine ⟨h.few, h.nil, fun hp => ?_, fun r hr => ⟨(h.row r hr).1.below hb, (h.row r hr).2⟩, h.cap⟩
  obtain ⟨b, o, h1, h2, h3⟩ := h.out hp
  exact ⟨b, o, h1, Nat.lt_of_lt_of_le h2 hb.size, fun r hr => (hb.cell (p := ⟨b, o + r, none⟩) h2).trans (h3 r hr)⟩
theorem ArgL.ls {w : World} {A : Option Addr} {C : Nat} {ins : List (List Int)} {AS : Nat → Option Addr} {CS : Nat → Nat} (h : ArgL w A C ins AS CS) : LsAt w (.slice A ins.length C) ins := by
  refine ⟨A, C, rfl, by have := h.few; omega, fun hp => ?_⟩
  obtain ⟨b, o, h1, h2, h3⟩ := h.out hp
  exact ⟨b, o, h1, h2, fun r hr => ⟨_, h3 r hr, (h.row r hr).1⟩⟩

/-- a row of n values. -/
def rowF (F : Nat → Nat → Int) (i n : Nat) : List Int := (List.range n).map (F i)
theorem rowF_len (F : Nat → Nat → Int) (i n : Nat) : (rowF F i n).length = n := by simp [rowF]

/-- rows that came out, each its owner's. -/
structure OwnRows (B : Nat) (w : World) (v : Value) (m n : Nat) (F : Nat → Nat → Int) (g : Nat) (RV : Nat → Value) : Prop where
  shape : ∃ (a : Option Addr) (cap : Nat), v = .slice a m cap ∧ (0 < m → a = some ⟨g, 0, none⟩)
  outer : ∀ i, i < m → w.cell? ⟨g, i, none⟩ = some (RV i)
  rows : ∀ i, i < m → w.ownsRow B 3 1 (RV i) n (iCells (rowF F i n))
  apart : ∀ i j, i < m → j < m → i ≠ j → ∀ b, (RV i).ownBlock = some b → (RV j).ownBlock ≠ some b
  ne : ∀ i, i < m → (RV i).ownBlock ≠ some g

/-- what the document's own answer to Streams is. -/
def strR (s : ByteArray) (n : Int) : Nat := if (textF s).1 ≠ 0 then (textF s).1 else if n < 0 ∨ 200 < n then 10 else 0
/-- rows that came out: each its own. -/
structure Outs (B : Nat) (w : World) (v : Value) (m n : Nat) (F : Nat → Nat → Int) : Prop where
  mat : ∃ (a : Option Addr) (g cap : Nat) (R : Nat → Nat), v = .slice a m cap ∧ (0 < m → a = some ⟨g, 0, none⟩) ∧ MatI w g m n R F ∧ (∀ i, i < m → B ≤ R i) ∧ B ≤ g

theorem Outs.own {B : Nat} {w : World} {v : Value} {m n : Nat} {F : Nat → Nat → Int} (h : Outs B w v m n F) (hn : n ≤ 1000) : ∃ g RV, OwnRows B w v m n F g RV := by
  obtain ⟨a, g, cap, R, h1, h2, h3, h4, h5⟩ := h.mat
  refine ⟨g, fun i => .slice (some ⟨R i, 0, none⟩) n n, ⟨a, cap, h1, h2⟩, h3.outer, fun i hi => ?_, fun i j hi hj hne b hb hb' => ?_, fun i hi hb => ?_⟩
  · obtain ⟨c, hc1, hc2, hc3⟩ := h3.rows i hi
    refine ⟨by rw [iCells_len, rowF_len]; omega, .inr ⟨R i, n, c, rfl, h4 i hi, hc1, Nat.le_refl _, by unfold maxLen; omega, by omega, ?_⟩⟩
    apply List.ext_getElem?
    intro j
    rw [List.getElem?_take, iCells_get]
    by_cases hj : j < n
    · rw [if_pos (by omega), Array.getElem?_toList, hc3 j hj]
      simp [rowF, hj]
    · rw [if_neg (by omega), List.getElem?_eq_none (by rw [rowF_len]; omega)]; rfl
  · simp only [Value.ownBlock, Option.some.injEq] at hb hb'
    exact hne (h3.inj i j hi hj (by omega))
  · simp only [Value.ownBlock, Option.some.injEq] at hb
    exact h3.ne i hi hb

/-- a row of the document's own answer, read. -/
theorem Outs.row {B : Nat} {w : World} {v : Value} {m n : Nat} {F : Nat → Nat → Int} (h : Outs B w v m n F) (hn : n ≤ 1000) : ∃ (a : Option Addr) (g cap : Nat) (R : Nat → Nat), v = .slice a m cap ∧ (0 < m → a = some ⟨g, 0, none⟩) ∧ (0 < m → B ≤ g ∧ g < w.heap.size) ∧ (∀ i, i < m → B ≤ R i ∧ R i < w.heap.size) ∧
    ∀ w', (∀ b, B ≤ b → b < w.heap.size → w'.heap[b]? = w.heap[b]?) → w.heap.size ≤ w'.heap.size → ∀ i, i < m → w'.cell? ⟨g, i, none⟩ = some (.slice (some ⟨R i, 0, none⟩) n n) ∧ RowAt w' (.slice (some ⟨R i, 0, none⟩) n n) (rowF F i n) := by
  obtain ⟨a, g, cap, R, h1, h2, h3, h4, h5⟩ := h.mat
  refine ⟨a, g, cap, R, h1, h2, fun hp => ⟨h5, h3.lt hp⟩, fun i hi => ⟨h4 i hi, World.rowIs.lt (h3.rows i hi)⟩, fun w' hk hs i hi => ⟨?_, _, _, by rw [rowF_len], by rw [rowF_len]; omega, fun hp => ⟨R i, 0, rfl, Nat.lt_of_lt_of_le (World.rowIs.lt (h3.rows i hi)) hs, fun c hc => ?_⟩⟩⟩
  · exact (World.cell?_of_block (w := w) (a := ⟨g, i, none⟩) (hk g h5 (h3.lt (by omega)))).trans (h3.outer i hi)
  · rw [rowF_len] at hc
    have h6 : w'.rowIs (R i) 3 n (fun j => .int .i64 (F i j)) := (h3.rows i hi).of_block (hk _ (h4 i hi) (World.rowIs.lt (h3.rows i hi)))
    rw [Nat.zero_add, h6.cell hc]
    simp [rowF]

theorem own_row {B : Nat} {w : World} {v : Value} {n : Nat} {xs : List Int} (h : w.ownsRow B 3 1 v n (iCells xs)) (hn : n ≤ 1000) (hl : xs.length = n) : RowAt w v xs := by
  rcases h.2 with ⟨rfl, h0⟩ | ⟨g, cap, cur, rfl, hb, hg, h1, h2, h3, h4⟩
  · exact ⟨none, 0, by rw [hl, h0], by omega, fun hp => by omega⟩
  · refine ⟨_, _, by rw [hl], by omega, fun hp => ⟨g, 0, rfl, (Array.getElem?_eq_some_iff.1 hg).1, fun c hc => ?_⟩⟩
    rw [Nat.zero_add, h.cellAt c (by omega), iCells_get, List.getElem?_eq_getElem hc]; rfl
theorem own_of {B : Nat} {w w' : World} {e : TypeId} {size n : Nat} {v : Value} {xs : List Value} (h : w.ownsRow B e size v n xs) (hk : ∀ b, v.ownBlock = some b → w'.heap[b]? = w.heap[b]?) : w'.ownsRow B e size v n xs := by
  refine ⟨h.1, ?_⟩
  rcases h.2 with h0 | ⟨g, cap, cur, rfl, hb, hg, h1⟩
  · exact .inl h0
  · exact .inr ⟨g, cap, cur, rfl, hb, (hk g rfl).trans hg, h1⟩

/-- what a program's Streams answers. -/
def StrQ (s : ByteArray) (ins : List (List Int)) (n : Int) (B : Nat) (w' : World) (v : Value) : Prop :=
  if strR s n = 0 then ∀ L, RGood s L → Right (toks s) L → ∃ g RV, OwnRows B w' v (eqL L).length n.toNat (sol (toks s) L ins) g RV else ∃ a cap, v = .slice a 0 cap


end Go.Proofs.Ytmndgoapkmhglaa

/- operations, and acts, as they lie. -/
namespace Go.Proofs.Ytmndgoapkmhglaa
open Go.RowKit

/-- operations, as they lie. -/
def OpsAt (w : World) (v : Value) (ops : List OpF) : Prop :=
  ∃ (A : Option Addr) (C : Nat), v = .slice A ops.length C ∧ ops.length ≤ 4398046511104 ∧ (0 < ops.length → ∃ b o, A = some ⟨b, o, none⟩ ∧ b < w.heap.size ∧ ∀ i, (h : i < ops.length) →
    w.cell? ⟨b, o + i * 4, none⟩ = some (.int .i64 ops[i].k) ∧ w.cell? ⟨b, o + i * 4 + 1, none⟩ = some (.int .i64 ops[i].a) ∧ w.cell? ⟨b, o + i * 4 + 2, none⟩ = some (.int .i64 ops[i].b) ∧ w.cell? ⟨b, o + i * 4 + 3, none⟩ = some (.int .i64 ops[i].c))
theorem OpsAt.below {w w' : World} {v : Value} {ops : List OpF} (h : OpsAt w v ops) (hb : Below w.heap.size w w') : OpsAt w' v ops := by
  obtain ⟨A, C, hv, hm, hc⟩ := h
  refine ⟨A, C, hv, hm, fun hp => ?_⟩
  obtain ⟨b, o, h1, h2, h3⟩ := hc hp
  refine ⟨b, o, h1, Nat.lt_of_lt_of_le h2 hb.size, fun i hi => ?_⟩
  obtain ⟨k0, k1, k2, k3⟩ := h3 i hi
  exact ⟨(hb.cell (p := ⟨b, o + i * 4, none⟩) h2).trans k0, (hb.cell (p := ⟨b, o + i * 4 + 1, none⟩) h2).trans k1, (hb.cell (p := ⟨b, o + i * 4 + 2, none⟩) h2).trans k2, (hb.cell (p := ⟨b, o + i * 4 + 3, none⟩) h2).trans k3⟩

end Go.Proofs.Ytmndgoapkmhglaa

/- Plain mathematics: a script that is playable. -/
namespace Go.Proofs.Ytmndgoapkmhglaa
open Go.RowKit

theorem later_hit (sc : List OpF) (i : Nat) : ∀ (f k j : Nat), k ≤ j → j < k + f → (actF sc j).k = (actF sc i).k → ∃ m : Nat, laterG sc i f k = (m : Int) ∧ k ≤ m ∧ m ≤ j ∧ (actF sc m).k = (actF sc i).k := by
  intro f
  induction f with
  | zero => intro k j h1 h2; omega
  | succ f ih =>
    intro k j h1 h2 hj
    unfold laterG
    by_cases hk : (actF sc k).k = (actF sc i).k
    · rw [if_pos hk]; exact ⟨k, rfl, Nat.le_refl _, h1, hk⟩
    · rw [if_neg hk]
      rcases Nat.eq_or_lt_of_le h1 with rfl | h'
      · exact absurd hj hk
      · obtain ⟨m, e, g1, g2, g3⟩ := ih (k + 1) j h' (by omega) hj
        exact ⟨m, e, by omega, g2, g3⟩

/-- what is known of an act of a script that is playable. -/
structure ActOk (ts : List Tk) (L : List Dl) (sc : List OpF) (i : Nat) : Prop where
  here : (atR ts L (actF sc i).k) ≠ []
  a0 : 0 ≤ (actF sc i).a ∧ (actF sc i).a ≤ 1099511627776
  b0 : 0 ≤ (actF sc i).b ∧ (actF sc i).b ≤ 1099511627776
  c0 : 0 ≤ (actF sc i).c ∧ (actF sc i).c ≤ 1099511627776
  back : ∀ j, i = j + 1 → (actF sc j).a ≤ (actF sc i).a
  over : overA sc i = false

theorem badA_iff (ts : List Tk) (L : List Dl) (sc : List OpF) (i : Nat) : badA ts L sc i = false ↔ ActOk ts L sc i := by
  unfold badA
  simp only [Bool.or_eq_false_iff, decide_eq_false_iff_not, List.isEmpty_eq_false_iff]
  constructor
  · rintro ⟨⟨⟨⟨⟨⟨⟨⟨h1, h2⟩, h3⟩, h4⟩, h5⟩, h6⟩, h7⟩, h8⟩, h9⟩
    refine ⟨h1, ⟨by omega, by omega⟩, ⟨by omega, by omega⟩, ⟨by omega, by omega⟩, fun j e => ?_, h9⟩
    subst e
    unfold backA at h4
    rw [decide_eq_false_iff_not] at h4
    omega
  · rintro ⟨h1, ⟨h2, h3⟩, ⟨h4, h5⟩, ⟨h6, h7⟩, h8, h9⟩
    refine ⟨⟨⟨⟨⟨⟨⟨⟨h1, by omega⟩, by omega⟩, ?_⟩, by omega⟩, by omega⟩, by omega⟩, by omega⟩, h9⟩
    cases i with
    | zero => rfl
    | succ i => unfold backA; rw [decide_eq_false_iff_not]; have := h8 i rfl; omega

theorem play_iff (ts : List Tk) (L : List Dl) (sc : List OpF) : playF ts L sc = true ↔ sc.length ≤ 400 ∧ ∀ i, i < sc.length → ActOk ts L sc i := by
  unfold playF
  rw [Bool.and_eq_true, decide_eq_true_iff, List.all_eq_true]
  refine and_congr Iff.rfl ⟨fun h i hi => ?_, fun h i hi => ?_⟩
  · have := h i (List.mem_range.2 hi)
    rw [Bool.not_eq_true', badA_iff] at this
    exact this
  · rw [Bool.not_eq_true', badA_iff]
    exact h i (List.mem_range.1 hi)

section
variable {ts : List Tk} {L : List Dl} {sc : List OpF} (h : ∀ i, i < sc.length → ActOk ts L sc i)
include h

theorem play_mono : ∀ (i j : Nat), i ≤ j → j < sc.length → (actF sc i).a ≤ (actF sc j).a := by
  intro i j hij
  induction j with
  | zero => intro _; have : i = 0 := by omega
            subst this; exact Int.le_refl _
  | succ j ih =>
    intro hj
    rcases Nat.eq_or_lt_of_le hij with rfl | h'
    · exact Int.le_refl _
    · have h1 := ih (by omega) (by omega)
      have h2 := (h (j + 1) hj).back j rfl
      omega

theorem play_gap (i j : Nat) (hij : i < j) (hj : j < sc.length) (hk : (actF sc j).k = (actF sc i).k) : (actF sc i).a + (actF sc i).b < (actF sc j).a ∧ (actF sc i).a + (actF sc i).c < (actF sc j).a := by
  obtain ⟨m, e, g1, g2, g3⟩ := later_hit sc i (sc.length - (i + 1)) (i + 1) j (by omega) (by omega) hk
  have e' : laterF sc i = (m : Int) := e
  have ho := (h i (by omega)).over
  have hm := (h m (by omega)).a0
  have hi := (h i (by omega)).a0
  have hmj := play_mono h m j g2 hj
  unfold overA at ho
  rw [e'] at ho
  have hw : IntKind.i64.wrap ((actF sc m).a - (actF sc i).a) = (actF sc m).a - (actF sc i).a := by rw [IntKind.wrap_i64]; omega
  have hd : decide (0 ≤ (m : Int)) = true := by simp
  rw [hd, Bool.true_and, Int.toNat_natCast, hw, Bool.or_eq_false_iff, decide_eq_false_iff_not, decide_eq_false_iff_not] at ho
  omega

theorem play_acts : ActsOk sc := by
  refine ⟨fun x hx => ?_, ?_⟩
  · obtain ⟨i, hi, rfl⟩ := List.getElem_of_mem hx
    rw [actF_get hi]
    exact (h i hi).a0.1
  · rw [List.pairwise_iff_getElem]
    intro i j hi hj hij
    rw [actF_get hi, actF_get hj]
    exact ⟨play_mono h i j (by omega) hj, fun hk => play_gap h i j hij hj hk.symm⟩

end

end Go.Proofs.Ytmndgoapkmhglaa

/- Plain mathematics: the links of a text, and how long a chain of waits is. -/
namespace Go.Proofs.Ytmndgoapkmhglaa

/-- the links of a text, from place to place. -/
def plR (ts : List Tk) (L : List Dl) : List Nat := (eqL L).map (placeD ts)
def netR (ts : List Tk) (L : List Dl) : List LnF := (routesR ts L).map fun r => ⟨((plR ts L).getD r.src 0 : Nat), (r.dst : Nat), r.late⟩
/-- what a place publishes. -/
def valsR (ts : List Tk) (L : List Dl) (ins : List (List Int)) (pl : Int) (n : Nat) : List Int := (atR ts L pl).map fun j => sol ts L ins j n
/-- a place with equations. -/
def QR (ts : List Tk) (L : List Dl) (pl : Int) : Prop := ∃ x ∈ eqL L, ((placeD ts x : Nat) : Int) = pl

theorem routes_mem (ts : List Tk) (L : List Dl) : ∀ r ∈ routesR ts L, r.dst < 4 ∧ ∃ x, (eqL L)[r.src]? = some x ∧ r.dst ≠ placeD ts x ∧ usesR ts L (nameD ts x).data.toList r.dst ≠ [] := by
  have hto : ∀ b x q, ∀ r ∈ routeTo ts L b x q, r.src = b ∧ r.dst < q ∧ r.dst ≠ placeD ts x ∧ usesR ts L (nameD ts x).data.toList r.dst ≠ [] := by
    intro b x q
    induction q with
    | zero => intro r hr; simp [routeTo] at hr
    | succ q ih =>
      intro r hr
      simp only [routeTo, List.mem_append] at hr
      rcases hr with hr | hr
      · obtain ⟨h1, h2, h3⟩ := ih r hr; exact ⟨h1, by omega, h3⟩
      · unfold routeAt at hr
        split at hr
        · rename_i hc
          simp at hr; subst hr; exact ⟨rfl, Nat.lt_succ_self _, hc.2, hc.1⟩
        · simp at hr
  have hfr : ∀ (l : List Dl) (b : Nat), ∀ r ∈ routesFrom ts L b l, r.dst < 4 ∧ ∃ x, l[r.src - b]? = some x ∧ b ≤ r.src ∧ r.dst ≠ placeD ts x ∧ usesR ts L (nameD ts x).data.toList r.dst ≠ [] := by
    intro l
    induction l with
    | nil => intro b r hr; simp [routesFrom] at hr
    | cons x l ih =>
      intro b r hr
      simp only [routesFrom, List.mem_append] at hr
      rcases hr with hr | hr
      · obtain ⟨h1, h2, h3, h4⟩ := hto b x 4 r hr
        exact ⟨h2, x, by rw [h1, Nat.sub_self]; rfl, by omega, h3, h4⟩
      · obtain ⟨h1, y, h2, h3, h4⟩ := ih (b + 1) r hr
        exact ⟨h1, y, by rw [show r.src - b = (r.src - (b + 1)) + 1 by omega, List.getElem?_cons_succ]; exact h2, by omega, h4⟩
  intro r hr
  obtain ⟨h1, x, h2, _, h3⟩ := hfr (eqL L) 0 r hr
  exact ⟨h1, x, by simpa using h2, h3⟩

theorem plR_get {ts : List Tk} {L : List Dl} {j : Nat} {x : Dl} (h : (eqL L)[j]? = some x) : (plR ts L).getD j 0 = placeD ts x := by
  unfold plR
  rw [List.getD_eq_getElem?_getD, List.getElem?_map, h]; rfl

theorem net_at {ts : List Tk} {L : List Dl} {l : Nat} (hl : l < (netR ts L).length) : ∃ r x, (routesR ts L)[l]? = some r ∧ r ∈ routesR ts L ∧ (eqL L)[r.src]? = some x ∧ lnAt (netR ts L) l = ⟨((placeD ts x : Nat) : Int), ((r.dst : Nat) : Int), r.late⟩ ∧ r.dst ≠ placeD ts x ∧ r.dst < 4 ∧ usesR ts L (nameD ts x).data.toList r.dst ≠ [] := by
  have hl' : l < (routesR ts L).length := by unfold netR at hl; rwa [List.length_map] at hl
  obtain ⟨h1, x, h2, h3, h4⟩ := routes_mem ts L _ (List.getElem_mem hl')
  refine ⟨(routesR ts L)[l], x, List.getElem?_eq_getElem hl', List.getElem_mem hl', h2, ?_, h3, h1, h4⟩
  unfold lnAt netR
  rw [List.getD_eq_getElem?_getD, List.getElem?_map, List.getElem?_eq_getElem hl', Option.map_some, Option.getD_some, plR_get h2]

theorem net_apart (ts : List Tk) (L : List Dl) : Apart (netR ts L) := by
  intro l hl
  obtain ⟨r, x, _, _, _, e, h, _⟩ := net_at hl
  rw [e]
  show ((placeD ts x : Nat) : Int) ≠ ((r.dst : Nat) : Int)
  omega
theorem net_ends (ts : List Tk) (L : List Dl) : ∀ l, l < (netR ts L).length → QR ts L (lnAt (netR ts L) l).src ∧ QR ts L (lnAt (netR ts L) l).dst := by
  intro l hl
  obtain ⟨r, x, _, _, hx, e, _, _, hu⟩ := net_at hl
  rw [e]
  refine ⟨⟨x, List.mem_of_getElem? hx, rfl⟩, ?_⟩
  cases huu : usesR ts L (nameD ts x).data.toList r.dst with
  | nil => exact absurd huu hu
  | cons z zs =>
    have hz : z ∈ usesR ts L (nameD ts x).data.toList r.dst := by rw [huu]; simp
    unfold usesR at hz
    rw [List.mem_flatMap] at hz
    obtain ⟨y, hy, hz⟩ := hz
    split at hz
    · rename_i hp; exact ⟨y, hy, by show ((placeD ts y : Nat) : Int) = ((r.dst : Nat) : Int); rw [hp]⟩
    · simp at hz

/-- who waits for whom. -/
def waitM (ts : List Tk) (L : List Dl) : Mx := waitsP (plR ts L) (routesR ts L) noM

theorem waitsP_up (pl : List Nat) : ∀ (l : List Rt) (M : Mx) (i j : Nat), M i j = true → waitsP pl l M i j = true := by
  intro l
  induction l with
  | nil => intro M i j h; exact h
  | cons r l ih =>
    intro M i j h
    simp only [waitsP]
    refine ih _ i j ?_
    split
    · exact h
    · unfold upd; split <;> first | rfl | exact h
theorem waitsP_hit (pl : List Nat) : ∀ (l : List Rt) (M : Mx) (r : Rt), r ∈ l → r.late = false → waitsP pl l M r.dst (pl.getD r.src 0) = true := by
  intro l
  induction l with
  | nil => intro M r hr; simp at hr
  | cons y l ih =>
    intro M r hr hl
    simp only [waitsP]
    rcases List.mem_cons.1 hr with rfl | hr
    · refine waitsP_up pl l _ _ _ ?_
      rw [if_neg (by rw [hl]; decide)]
      unfold upd; simp
    · exact ih _ r hr hl
theorem waitsP_from (pl : List Nat) : ∀ (l : List Rt) (M : Mx) (i j : Nat), waitsP pl l M i j = true → M i j = true ∨ ∃ r ∈ l, j = pl.getD r.src 0 ∧ i = r.dst := by
  intro l
  induction l with
  | nil => intro M i j h; exact .inl h
  | cons y l ih =>
    intro M i j h
    simp only [waitsP] at h
    rcases ih _ i j h with h | ⟨r, hr, h1, h2⟩
    · split at h
      · exact .inl h
      · unfold upd at h
        split at h
        · rename_i hc; exact .inr ⟨y, by simp, hc.2, hc.1⟩
        · exact .inl h
    · exact .inr ⟨r, List.mem_cons_of_mem _ hr, h1, h2⟩

theorem firstP_none {ts : List Tk} {W : Mx} : ∀ (l : List Dl), firstP ts W l = none → ∀ x ∈ l, W (placeD ts x) (placeD ts x) = false := by
  intro l
  induction l with
  | nil => intro _ x hx; simp at hx
  | cons y l ih =>
    intro h x hx
    unfold firstP at h
    split at h
    · cases h
    · rename_i hw
      rcases List.mem_cons.1 hx with rfl | hx
      · simpa using hw
      · exact ih h x hx

/-- the length of the longest chain of waits that begins at a place. -/
def depN (M : Mx) (q : Nat) : Nat → Nat
  | 0 => 0
  | n + 1 => if aheadF M q (n + 1) then n + 1 else depN M q n
theorem depN_is (M : Mx) (q : Nat) : ∀ n, aheadF M q (depN M q n) = true ∧ depN M q n ≤ n := by
  intro n
  induction n with
  | zero => exact ⟨rfl, Nat.le_refl _⟩
  | succ n ih =>
    unfold depN
    by_cases h : aheadF M q (n + 1) = true
    · rw [if_pos h]; exact ⟨h, Nat.le_refl _⟩
    · rw [if_neg h]; exact ⟨ih.1, by omega⟩
theorem depN_ge (M : Mx) (q : Nat) : ∀ n m, m ≤ n → aheadF M q m = true → m ≤ depN M q n := by
  intro n
  induction n with
  | zero => intro m h _; unfold depN; exact h
  | succ n ih =>
    intro m h hm
    unfold depN
    by_cases hn : aheadF M q (n + 1) = true
    · rw [if_pos hn]; exact h
    · rw [if_neg hn]
      rcases Nat.eq_or_lt_of_le h with rfl | h'
      · exact absurd hm hn
      · exact ih m (by omega) hm
theorem dUp_ge (M : Mx) {q : Nat} (hq : q < 4) : ∀ n m, m ≤ n → aheadF M q m = true → m ≤ dUp M n := by
  intro n
  induction n with
  | zero => intro m h _; exact h
  | succ n ih =>
    intro m h hm
    unfold dUp
    by_cases hn : (List.range 4).any (fun q => aheadF M q (n + 1)) = true
    · rw [if_pos hn]; exact h
    · rw [if_neg hn]
      rcases Nat.eq_or_lt_of_le h with rfl | h'
      · exfalso; apply hn; rw [List.any_eq_true]; exact ⟨q, List.mem_range.2 hq, hm⟩
      · exact ih m (by omega) hm

theorem ahead_rank {M : Mx} (hM : ∀ i j, M i j = true → j < 4 ∧ warsh M 4 j j = false) : ∀ n q, aheadF M q n = true → n ≤ rankM M 4 q := by
  intro n
  induction n with
  | zero => intro q _; exact Nat.zero_le _
  | succ n ih =>
    intro q h
    unfold aheadF at h
    rw [List.any_eq_true] at h
    obtain ⟨p, _, hp⟩ := h
    rw [Bool.and_eq_true] at hp
    have h1 := ih p hp.2
    have h2 := rank_less (hM q p hp.1).1 (hM q p hp.1).2 hp.1
    omega

section
variable {ts : List Tk} {L : List Dl} (hlp : lpR ts L = none) (hpl : ∀ x ∈ eqL L, placeD ts x < 4)
include hlp hpl

theorem waits_ok : ∀ i j, waitM ts L i j = true → j < 4 ∧ warsh (waitM ts L) 4 j j = false := by
  intro i j h
  rcases waitsP_from _ _ _ _ _ h with h | ⟨r, hr, h1, _⟩
  · cases h
  · obtain ⟨_, x, hx, _⟩ := routes_mem ts L r hr
    rw [plR_get hx] at h1
    subst h1
    have hm := List.mem_of_getElem? hx
    exact ⟨hpl x hm, firstP_none _ hlp x hm⟩

/-- chains of waits: along a prompt link they are one longer. -/
theorem net_dep : ∀ l, l < (netR ts L).length → lateN (netR ts L) l = 0 → depN (waitM ts L) (lnAt (netR ts L) l).src.toNat 3 < depN (waitM ts L) (lnAt (netR ts L) l).dst.toNat 3 := by
  intro l hl h0
  obtain ⟨r, x, _, hr, hx, e, _, hd, _⟩ := net_at hl
  have hlate : r.late = false := by
    unfold lateN at h0
    rw [e] at h0
    cases hb : r.late with
    | false => rfl
    | true => rw [hb] at h0; cases h0
  have hM : waitM ts L r.dst (placeD ts x) = true := by
    have := waitsP_hit (plR ts L) (routesR ts L) noM r hr hlate
    rw [plR_get hx] at this
    exact this
  rw [e]
  show depN (waitM ts L) ((placeD ts x : Nat) : Int).toNat 3 < depN (waitM ts L) ((r.dst : Nat) : Int).toNat 3
  rw [Int.toNat_natCast, Int.toNat_natCast]
  obtain ⟨g1, g2⟩ := depN_is (waitM ts L) (placeD ts x) 3
  have hpx := hpl x (List.mem_of_getElem? hx)
  have ha : aheadF (waitM ts L) r.dst (depN (waitM ts L) (placeD ts x) 3 + 1) = true := by
    unfold aheadF
    rw [List.any_eq_true]
    exact ⟨placeD ts x, List.mem_range.2 hpx, by rw [Bool.and_eq_true]; exact ⟨hM, g1⟩⟩
  have hQ := (net_ends ts L l hl).2
  rw [e] at hQ
  obtain ⟨y, hy, hye⟩ := hQ
  have hye' : placeD ts y = r.dst := by have : ((placeD ts y : Nat) : Int) = ((r.dst : Nat) : Int) := hye; omega
  have hr4 := ahead_rank (waits_ok hlp hpl) _ _ ha
  have hrk := rank_lt (M := waitM ts L) (m := 4) (i := r.dst) (by have := firstP_none _ hlp y hy; rw [hye'] at this; exact this) hd
  have := depN_ge (waitM ts L) r.dst 3 _ (by omega) ha
  omega

omit hlp in
theorem net_deep : ∀ q, QR ts L q → depN (waitM ts L) q.toNat 3 ≤ dUp (waitM ts L) 3 := by
  rintro q ⟨x, hx, rfl⟩
  rw [Int.toNat_natCast]
  obtain ⟨g1, g2⟩ := depN_is (waitM ts L) (placeD ts x) 3
  exact dUp_ge _ (hpl x hx) 3 _ g2 g1

omit hlp in
/-- NOTHING IS EVER STUCK, of a text: each place with equations makes its step k by the time that is told. -/
theorem text_calm {ins : List (List Int)} {sc : List OpF} {Tm Dm h : Int} (hB : Bound (netR ts L) sc (QR ts L) (fun q => depN (waitM ts L) q.toNat 3) Tm Dm h) (k : Nat) (hh : Tm + 2 * (dUp (waitM ts L) 3 : Int) * (Tm + Dm) + 2 * (k : Int) * ((dUp (waitM ts L) 3 : Int) + 1) * (Tm + Dm) ≤ h) :
    ∀ q, QR ts L q → k + 1 ≤ didF (runG (netR ts L) (valsR ts L ins) [] sc) q 1 (Tm + 2 * (dUp (waitM ts L) 3 : Int) * (Tm + Dm) + 2 * (k : Int) * ((dUp (waitM ts L) 3 : Int) + 1) * (Tm + Dm)) false := by
  have key := (steps_by (net_apart ts L) (valsR ts L ins) hB (D := dUp (waitM ts L) 3) (net_deep hpl) k).2
  have e : reachT Tm Dm (dUp (waitM ts L) 3) k + (dUp (waitM ts L) 3 : Int) * (2 * (Tm + Dm)) = Tm + 2 * (dUp (waitM ts L) 3 : Int) * (Tm + Dm) + 2 * (k : Int) * ((dUp (waitM ts L) 3 : Int) + 1) * (Tm + Dm) := by
    rw [reachT_eq]
    generalize (dUp (waitM ts L) 3 : Int) = D
    have e1 : 2 * D * (Tm + Dm) = D * (2 * (Tm + Dm)) := by ac_rfl
    have e2 : 2 * (k : Int) * (D + 1) * (Tm + Dm) = (k : Int) * ((D + 1) * (2 * (Tm + Dm))) := by ac_rfl
    rw [e1, e2]; omega
  rw [e] at key
  exact key hh

end

end Go.Proofs.Ytmndgoapkmhglaa

/- Plain mathematics: a right text, as the program holds it. -/
namespace Go.Proofs.Ytmndgoapkmhglaa

/-- a right text, as the program holds it. -/
theorem held_of {s : ByteArray} {p : PS} (_hs : s.size ≤ 1500) (hp : parseF s = .ok p) {L : List Dl} (hG : RGood s L) : p.decls = declsD (toks s) L 0 0 0 ∧ boundN p = (nodesD (toks s) L 0).map (bindF p.decls) ∧ Both2 (toks s) L p.decls (boundN p) := by
  obtain ⟨p', hp', h1, h2⟩ := hG.parse
  rw [hp] at hp'
  cases hp'
  have hb : boundN p = (nodesD (toks s) L 0).map (bindF p.decls) := by unfold boundN; rw [h2]
  refine ⟨h1, hb, ?_⟩
  rw [hb, h1]
  exact both2 (toks_F s) (toks_end s) L hG.sp hG.names

theorem links_held {s : ByteArray} {p : PS} (hs : s.size ≤ 1500) (hp : parseF s = .ok p) {L : List Dl} (hG : RGood s L) : linksF p.decls (boundN p) = routesR (toks s) L := by
  obtain ⟨h1, h2, hB⟩ := held_of hs hp hG
  exact links_eq (toks_F s) hB.N hB.sp hB.decl hB.dx (fun a d x hd hx hk => by rw [h1] at hd; have := declsD_num (toks s) L 0 0 0 a d x hd hx hk; rw [this, Nat.zero_add])

theorem text_le {s : ByteArray} (h : (textF s).1 = 0) : s.size ≤ 1500 := by
  by_cases hs : 1500 < s.size
  · unfold textF at h; rw [if_pos hs] at h; cases h
  · omega

end Go.Proofs.Ytmndgoapkmhglaa
