import Derived.Deep.Matrix
import Derived.SizedLaws
import Derived.Carry
import Derived.ProofKit
import Derived.Test.Ytmndgoapkmhglabc05Bytes
import Derived.Test.Ytmndgoapkmhglabc11RefHa
import Derived.Test.Ytmndgoapkmhglabc13RefI
import Derived.Test.Ytmndgoapkmhglabc14RefM
import Derived.Test.Ytmndgoapkmhglabc30LawP
import Derived.Test.Ytmndgoapkmhglabc31RefY
namespace Go.Proofs.Ytmndgoapkmhglab
open Go.RowKit
attribute [local go_sem ↓] Go.wp_at_zero Go.wp_at_succ
set_option maxHeartbeats 1000000 in
set_option maxRecDepth 100000 in
theorem check_any (s : ByteArray) (w : World) (hs : s.size ≤ maxLen) (hg : s.size ≤ 1500 → ∀ p, parseF s = .ok p → Good p.decls (boundN p)) :
    Calls Try.prog 25 #[.string s] w fun e w' => e = .returned (.tuple #[.int .i64 ((textF s).1 : Int), .int .i64 ((textF s).2 : Int)]) ∧ Below w.heap.size w w' := by
  go_enter Try.func25, Try.ntmps25
  go_wp2_with fail
  refine (text_any s w hs hg).mono ?_
  rintro e w1 ⟨⟨vd, vn, rfl, hr⟩, hb1⟩
  have hv : (∃ a n c, vd = .slice a n c) ∧ (∃ a n c, vn = .slice a n c) := by
    rcases hr with ⟨_, rfl, rfl⟩ | ⟨_, p, _, h1, h2, _⟩
    · exact ⟨⟨_, _, _, rfl⟩, ⟨_, _, _, rfl⟩⟩
    · exact ⟨h1, h2⟩
  obtain ⟨⟨a1, n1, c1, rfl⟩, ⟨a2, n2, c2, rfl⟩⟩ := hv
  clear hr hg hs
  go_wp2_with fail
  go_ret2
  exact ⟨rfl, hb1.alloc hb1.size _⟩
theorem check_all (s : ByteArray) (w : World) (hs : s.size ≤ maxLen) :
    Calls Try.prog 25 #[.string s] w fun e w' => e = .returned (.tuple #[.int .i64 ((textF s).1 : Int), .int .i64 ((textF s).2 : Int)]) ∧ Below w.heap.size w w' :=
  check_any s w hs (fun h p hp => good_parse s h p hp)
def ansA : ByteArray := { data := #[105, 110, 32, 97, 59, 105, 110, 116, 32, 120, 32, 97, 116, 32, 48, 61, 40, 97, 43, 40, 48, 32, 102, 98, 121, 32, 120, 41, 41, 59] }
def ansB : ByteArray := { data := #[105, 110, 116, 32, 120, 32, 97, 116, 32, 48, 61, 120, 59] }
theorem ansA_text : textF ansA = (0, 0) := by decide +kernel
theorem ansB_text : textF ansB = (6, 4) := by decide +kernel
set_option maxHeartbeats 1000000 in
set_option maxRecDepth 100000 in
theorem answers_any (w : World) : Calls Try.prog 24 #[] w fun e w' => e = .returned (.bool true) ∧ Below w.heap.size w w' := by
  have cA := check_all ansA w (by decide)
  rw [ansA_text] at cA
  have cB := fun w => check_all ansB w (by decide)
  rw [ansB_text] at cB
  unfold ansA at cA
  unfold ansB at cB
  go_enter Try.func24, Try.ntmps24
  go_wp2_with fail
  refine cA.mono ?_
  rintro e w1 ⟨rfl, hb1⟩
  clear cA
  go_wp2_with fail
  refine (cB _).mono ?_
  rintro e w2 ⟨rfl, hb2⟩
  clear cB
  go_wp2_with fail
  go_ret
  exact ⟨rfl, hb1.trans (hb2.mono hb1.size)⟩
end Go.Proofs.Ytmndgoapkmhglab
namespace Go.Proofs.Ytmndgoapkmhglab
def marksF (s : ByteArray) : List Nat := mkL s.size 0 s.data.toList
theorem fine_dig {t : Tk} (h : Fine t) (h3 : t.kind = 3) : isDig t = true ∧ (∀ c ∈ t.l, 48 ≤ c.toNat ∧ c.toNat ≤ 57) ∧ t.l ≠ [] := by
  rcases h with ⟨cl, hcl, hne, hall, hk⟩ | ⟨c, _, h4, hk⟩
  · obtain ⟨e1, e2⟩ := kind3_cls (hk.symm.trans h3)
    subst e1
    refine ⟨?_, fun c hc => cls_two (W_cls (hall c hc)), hne⟩
    unfold isDig
    cases hl : t.l with
    | nil => exact absurd hl hne
    | cons c r => rw [hl] at hall; simpa using hall c (by simp)
  · have := (kind3_cls (hk.symm.trans h3)).1
    omega
theorem toks_fine (s : ByteArray) (i : Nat) (h : (tkAt (toks s) i).kind ≠ 0) : Fine (tkAt (toks s) i) := by
  by_cases hi : i < (tk 0 s.data.toList).length
  · rw [toks_list, tkAt_left hi]; exact tk_fine _ _ _ rfl _ (tkAt_mem hi)
  · exfalso
    rw [toks_list] at h
    by_cases e : i = (tk 0 s.data.toList).length
    · rw [e, tkAt_mid] at h; exact h rfl
    · unfold tkAt at h
      rw [List.getD_eq_getElem?_getD, List.getElem?_eq_none (by simp; omega)] at h
      exact h rfl
theorem marks_text {s : ByteArray} {L : List Dl} (h : Spell (toks s) L 0) : marksF s = (eqL L).map fun x => lastD (tkAt (toks s) (x.i + 3)) := by
  have hs := size_list s
  unfold marksF
  rw [marks_tk s.data.toList.length s.size 0 s.data.toList rfl (by omega), ← marks_spell (toks_F s) (toks_end s) (fun i h3 => (fine_dig (toks_fine s i (by omega)) h3).1) L 0 h]
  rw [List.drop_zero, toks_list, marksT_end _ rfl]
end Go.Proofs.Ytmndgoapkmhglab
namespace Go.Proofs.Ytmndgoapkmhglab
open Go.RowKit
def OpsAt (w : World) (v : Value) (ops : List OpF) : Prop :=
  ∃ (A : Option Addr) (C : Nat), v = .slice A ops.length C ∧ ops.length ≤ 4398046511104 ∧ (0 < ops.length → ∃ b o, A = some ⟨b, o, none⟩ ∧ b < w.heap.size ∧ ∀ i, (h : i < ops.length) →
    w.cell? ⟨b, o + i * 4, none⟩ = some (.int .i64 ops[i].k) ∧ w.cell? ⟨b, o + i * 4 + 1, none⟩ = some (.int .i64 ops[i].a) ∧ w.cell? ⟨b, o + i * 4 + 2, none⟩ = some (.int .i64 ops[i].b) ∧ w.cell? ⟨b, o + i * 4 + 3, none⟩ = some (.int .i64 ops[i].c))
theorem OpsAt.below {w w' : World} {v : Value} {ops : List OpF} (h : OpsAt w v ops) (hb : Below w.heap.size w w') : OpsAt w' v ops := by
  obtain ⟨A, C, hv, hm, hc⟩ := h
  refine ⟨A, C, hv, hm, fun hp => ?_⟩
  obtain ⟨b, o, h1, h2, h3⟩ := hc hp
  refine ⟨b, o, h1, Nat.lt_of_lt_of_le h2 hb.size, fun i hi => ?_⟩
  obtain ⟨k0, k1, k2, k3⟩ := h3 i hi
  exact ⟨(hb.cell (p := ⟨b, o + i * 4, none⟩) h2).trans k0, (hb.cell (p := ⟨b, o + i * 4 + 1, none⟩) h2).trans k1, (hb.cell (p := ⟨b, o + i * 4 + 2, none⟩) h2).trans k2, (hb.cell (p := ⟨b, o + i * 4 + 3, none⟩) h2).trans k3⟩
theorem later_hit (sc : List OpF) (i : Nat) : ∀ (f k j : Nat), k ≤ j → j < k + f → (actF sc j).k = (actF sc i).k → ∃ m : Nat, laterG sc i f k = (m : Int) ∧ k ≤ m ∧ m ≤ j ∧ (actF sc m).k = (actF sc i).k := by
  intro f
  induction f with
  | zero => intro k j h1 h2; omega
  | succ f ih =>
    intro k j h1 h2 hj
    unfold laterG
    by_cases hk : (actF sc k).k = (actF sc i).k
    · rw [if_pos hk]; exact ⟨k, rfl, Nat.le_refl _, h1, hk⟩
    · rw [if_neg hk]
      rcases Nat.eq_or_lt_of_le h1 with rfl | h'
      · exact absurd hj hk
      · obtain ⟨m, e, g1, g2, g3⟩ := ih (k + 1) j h' (by omega) hj
        exact ⟨m, e, by omega, g2, g3⟩
structure ActOk (ts : List Tk) (L : List Dl) (sc : List OpF) (i : Nat) : Prop where
  here : (atR ts L (actF sc i).k) ≠ []
  a0 : 0 ≤ (actF sc i).a ∧ (actF sc i).a ≤ 1099511627776
  b0 : 0 ≤ (actF sc i).b ∧ (actF sc i).b ≤ 1099511627776
  c0 : 0 ≤ (actF sc i).c ∧ (actF sc i).c ≤ 1099511627776
  back : ∀ j, i = j + 1 → (actF sc j).a ≤ (actF sc i).a
  over : overA sc i = false
theorem badA_iff (ts : List Tk) (L : List Dl) (sc : List OpF) (i : Nat) : badA ts L sc i = false ↔ ActOk ts L sc i := by
  unfold badA
  simp only [Bool.or_eq_false_iff, decide_eq_false_iff_not, List.isEmpty_eq_false_iff]
  constructor
  · rintro ⟨⟨⟨⟨⟨⟨⟨⟨h1, h2⟩, h3⟩, h4⟩, h5⟩, h6⟩, h7⟩, h8⟩, h9⟩
    refine ⟨h1, ⟨by omega, by omega⟩, ⟨by omega, by omega⟩, ⟨by omega, by omega⟩, fun j e => ?_, h9⟩
    subst e
    unfold backA at h4
    rw [decide_eq_false_iff_not] at h4
    omega
  · rintro ⟨h1, ⟨h2, h3⟩, ⟨h4, h5⟩, ⟨h6, h7⟩, h8, h9⟩
    refine ⟨⟨⟨⟨⟨⟨⟨⟨h1, by omega⟩, by omega⟩, ?_⟩, by omega⟩, by omega⟩, by omega⟩, by omega⟩, h9⟩
    cases i with
    | zero => rfl
    | succ i => unfold backA; rw [decide_eq_false_iff_not]; have := h8 i rfl; omega
theorem play_iff (ts : List Tk) (L : List Dl) (sc : List OpF) : playF ts L sc = true ↔ sc.length ≤ 400 ∧ ∀ i, i < sc.length → ActOk ts L sc i := by
  unfold playF
  rw [Bool.and_eq_true, decide_eq_true_iff, List.all_eq_true]
  refine and_congr Iff.rfl ⟨fun h i hi => ?_, fun h i hi => ?_⟩
  · have := h i (List.mem_range.2 hi)
    rw [Bool.not_eq_true', badA_iff] at this
    exact this
  · rw [Bool.not_eq_true', badA_iff]
    exact h i (List.mem_range.1 hi)
section
variable {ts : List Tk} {L : List Dl} {sc : List OpF} (h : ∀ i, i < sc.length → ActOk ts L sc i)
include h
theorem play_mono : ∀ (i j : Nat), i ≤ j → j < sc.length → (actF sc i).a ≤ (actF sc j).a := by
  intro i j hij
  induction j with
  | zero => intro _; rw [show i = 0 by omega]; exact Int.le_refl _
  | succ j ih =>
    intro hj
    rcases Nat.eq_or_lt_of_le hij with rfl | h'
    · exact Int.le_refl _
    · have h1 := ih (by omega) (by omega)
      have h2 := (h (j + 1) hj).back j rfl
      omega
theorem play_gap (i j : Nat) (hij : i < j) (hj : j < sc.length) (hk : (actF sc j).k = (actF sc i).k) : (actF sc i).a + (actF sc i).b < (actF sc j).a ∧ (actF sc i).a + (actF sc i).c < (actF sc j).a := by
  obtain ⟨m, e, g1, g2, g3⟩ := later_hit sc i (sc.length - (i + 1)) (i + 1) j (by omega) (by omega) hk
  have e' : laterF sc i = (m : Int) := e
  have ho := (h i (by omega)).over
  have hm := (h m (by omega)).a0
  have hi := (h i (by omega)).a0
  have hmj := play_mono h m j g2 hj
  unfold overA at ho
  rw [e'] at ho
  have hw : IntKind.i64.wrap ((actF sc m).a - (actF sc i).a) = (actF sc m).a - (actF sc i).a := by rw [IntKind.wrap_i64]; omega
  have hd : decide (0 ≤ (m : Int)) = true := by simp
  rw [hd, Bool.true_and, Int.toNat_natCast, hw, Bool.or_eq_false_iff, decide_eq_false_iff_not, decide_eq_false_iff_not] at ho
  omega
theorem play_acts : ActsOk sc := by
  refine ⟨fun x hx => ?_, ?_⟩
  · obtain ⟨i, hi, rfl⟩ := List.getElem_of_mem hx
    rw [actF_get hi]
    exact (h i hi).a0.1
  · rw [List.pairwise_iff_getElem]
    intro i j hi hj hij
    rw [actF_get hi, actF_get hj]
    exact ⟨play_mono h i j (by omega) hj, fun hk => play_gap h i j hij hj hk.symm⟩
end
end Go.Proofs.Ytmndgoapkmhglab
namespace Go.Proofs.Ytmndgoapkmhglab
def plR (ts : List Tk) (L : List Dl) : List Nat := (eqL L).map (placeD ts)
def netR (ts : List Tk) (L : List Dl) : List LnF := (routesR ts L).map fun r => ⟨((plR ts L).getD r.src 0 : Nat), (r.dst : Nat), r.late⟩
def valsR (ts : List Tk) (L : List Dl) (ins : List (List Int)) (pl : Int) (n : Nat) : List Int := (atR ts L pl).map fun j => sol ts L ins j n
def QR (ts : List Tk) (L : List Dl) (pl : Int) : Prop := ∃ x ∈ eqL L, ((placeD ts x : Nat) : Int) = pl
theorem routes_mem (ts : List Tk) (L : List Dl) : ∀ r ∈ routesR ts L, r.dst < 4 ∧ ∃ x, (eqL L)[r.src]? = some x ∧ r.dst ≠ placeD ts x ∧ usesR ts L (nameD ts x).data.toList r.dst ≠ [] := by
  have hto : ∀ b x q, ∀ r ∈ routeTo ts L b x q, r.src = b ∧ r.dst < q ∧ r.dst ≠ placeD ts x ∧ usesR ts L (nameD ts x).data.toList r.dst ≠ [] := by
    intro b x q
    induction q with
    | zero => intro r hr; simp [routeTo] at hr
    | succ q ih =>
      intro r hr
      simp only [routeTo, List.mem_append] at hr
      rcases hr with hr | hr
      · obtain ⟨h1, h2, h3⟩ := ih r hr; exact ⟨h1, by omega, h3⟩
      · unfold routeAt at hr
        split at hr
        · rename_i hc
          simp at hr; subst hr; exact ⟨rfl, Nat.lt_succ_self _, hc.2, hc.1⟩
        · simp at hr
  have hfr : ∀ (l : List Dl) (b : Nat), ∀ r ∈ routesFrom ts L b l, r.dst < 4 ∧ ∃ x, l[r.src - b]? = some x ∧ b ≤ r.src ∧ r.dst ≠ placeD ts x ∧ usesR ts L (nameD ts x).data.toList r.dst ≠ [] := by
    intro l
    induction l with
    | nil => intro b r hr; simp [routesFrom] at hr
    | cons x l ih =>
      intro b r hr
      simp only [routesFrom, List.mem_append] at hr
      rcases hr with hr | hr
      · obtain ⟨h1, h2, h3, h4⟩ := hto b x 4 r hr
        exact ⟨h2, x, by rw [h1, Nat.sub_self]; rfl, by omega, h3, h4⟩
      · obtain ⟨h1, y, h2, h3, h4⟩ := ih (b + 1) r hr
        exact ⟨h1, y, by rw [show r.src - b = (r.src - (b + 1)) + 1 by omega, List.getElem?_cons_succ]; exact h2, by omega, h4⟩
  intro r hr
  obtain ⟨h1, x, h2, _, h3⟩ := hfr (eqL L) 0 r hr
  exact ⟨h1, x, by simpa using h2, h3⟩
theorem plR_get {ts : List Tk} {L : List Dl} {j : Nat} {x : Dl} (h : (eqL L)[j]? = some x) : (plR ts L).getD j 0 = placeD ts x := by
  unfold plR
  rw [List.getD_eq_getElem?_getD, List.getElem?_map, h]; rfl
theorem net_at {ts : List Tk} {L : List Dl} {l : Nat} (hl : l < (netR ts L).length) : ∃ r x, (routesR ts L)[l]? = some r ∧ r ∈ routesR ts L ∧ (eqL L)[r.src]? = some x ∧ lnAt (netR ts L) l = ⟨((placeD ts x : Nat) : Int), ((r.dst : Nat) : Int), r.late⟩ ∧ r.dst ≠ placeD ts x ∧ r.dst < 4 ∧ usesR ts L (nameD ts x).data.toList r.dst ≠ [] := by
  have hl' : l < (routesR ts L).length := by unfold netR at hl; rwa [List.length_map] at hl
  obtain ⟨h1, x, h2, h3, h4⟩ := routes_mem ts L _ (List.getElem_mem hl')
  refine ⟨(routesR ts L)[l], x, List.getElem?_eq_getElem hl', List.getElem_mem hl', h2, ?_, h3, h1, h4⟩
  unfold lnAt netR
  rw [List.getD_eq_getElem?_getD, List.getElem?_map, List.getElem?_eq_getElem hl', Option.map_some, Option.getD_some, plR_get h2]
theorem net_apart (ts : List Tk) (L : List Dl) : Apart (netR ts L) := by
  intro l hl
  obtain ⟨r, x, _, _, _, e, h, _⟩ := net_at hl
  rw [e]
  show ((placeD ts x : Nat) : Int) ≠ ((r.dst : Nat) : Int)
  omega
theorem net_ends (ts : List Tk) (L : List Dl) : ∀ l, l < (netR ts L).length → QR ts L (lnAt (netR ts L) l).src ∧ QR ts L (lnAt (netR ts L) l).dst := by
  intro l hl
  obtain ⟨r, x, _, _, hx, e, _, _, hu⟩ := net_at hl
  rw [e]
  refine ⟨⟨x, List.mem_of_getElem? hx, rfl⟩, ?_⟩
  cases huu : usesR ts L (nameD ts x).data.toList r.dst with
  | nil => exact absurd huu hu
  | cons z zs =>
    have hz : z ∈ usesR ts L (nameD ts x).data.toList r.dst := by rw [huu]; simp
    unfold usesR at hz
    rw [List.mem_flatMap] at hz
    obtain ⟨y, hy, hz⟩ := hz
    split at hz
    · rename_i hp; exact ⟨y, hy, by show ((placeD ts y : Nat) : Int) = ((r.dst : Nat) : Int); rw [hp]⟩
    · simp at hz
def waitM (ts : List Tk) (L : List Dl) : Mx := waitsP (plR ts L) (routesR ts L) noM
theorem waitsP_up (pl : List Nat) : ∀ (l : List Rt) (M : Mx) (i j : Nat), M i j = true → waitsP pl l M i j = true := by
  intro l
  induction l with
  | nil => intro M i j h; exact h
  | cons r l ih =>
    intro M i j h
    simp only [waitsP]
    refine ih _ i j ?_
    split
    · exact h
    · unfold upd; split <;> first | rfl | exact h
theorem waitsP_hit (pl : List Nat) : ∀ (l : List Rt) (M : Mx) (r : Rt), r ∈ l → r.late = false → waitsP pl l M r.dst (pl.getD r.src 0) = true := by
  intro l
  induction l with
  | nil => intro M r hr; simp at hr
  | cons y l ih =>
    intro M r hr hl
    simp only [waitsP]
    rcases List.mem_cons.1 hr with rfl | hr
    · refine waitsP_up pl l _ _ _ ?_
      rw [if_neg (by rw [hl]; decide)]
      unfold upd; simp
    · exact ih _ r hr hl
theorem waitsP_from (pl : List Nat) : ∀ (l : List Rt) (M : Mx) (i j : Nat), waitsP pl l M i j = true → M i j = true ∨ ∃ r ∈ l, j = pl.getD r.src 0 ∧ i = r.dst := by
  intro l
  induction l with
  | nil => intro M i j h; exact .inl h
  | cons y l ih =>
    intro M i j h
    simp only [waitsP] at h
    rcases ih _ i j h with h | ⟨r, hr, h1, h2⟩
    · split at h
      · exact .inl h
      · unfold upd at h
        split at h
        · rename_i hc; exact .inr ⟨y, by simp, hc.2, hc.1⟩
        · exact .inl h
    · exact .inr ⟨r, List.mem_cons_of_mem _ hr, h1, h2⟩
theorem firstP_none {ts : List Tk} {W : Mx} : ∀ (l : List Dl), firstP ts W l = none → ∀ x ∈ l, W (placeD ts x) (placeD ts x) = false := by
  intro l
  induction l with
  | nil => intro _ x hx; simp at hx
  | cons y l ih =>
    intro h x hx
    unfold firstP at h
    split at h
    · cases h
    · rename_i hw
      rcases List.mem_cons.1 hx with rfl | hx
      · simpa using hw
      · exact ih h x hx
def depN (M : Mx) (q : Nat) : Nat → Nat
  | 0 => 0
  | n + 1 => if aheadF M q (n + 1) then n + 1 else depN M q n
theorem depN_is (M : Mx) (q : Nat) : ∀ n, aheadF M q (depN M q n) = true ∧ depN M q n ≤ n := by
  intro n
  induction n with
  | zero => exact ⟨rfl, Nat.le_refl _⟩
  | succ n ih =>
    unfold depN
    by_cases h : aheadF M q (n + 1) = true
    · rw [if_pos h]; exact ⟨h, Nat.le_refl _⟩
    · rw [if_neg h]; exact ⟨ih.1, by omega⟩
theorem depN_ge (M : Mx) (q : Nat) : ∀ n m, m ≤ n → aheadF M q m = true → m ≤ depN M q n := by
  intro n
  induction n with
  | zero => intro m h _; unfold depN; exact h
  | succ n ih =>
    intro m h hm
    unfold depN
    by_cases hn : aheadF M q (n + 1) = true
    · rw [if_pos hn]; exact h
    · rw [if_neg hn]
      rcases Nat.eq_or_lt_of_le h with rfl | h'
      · exact absurd hm hn
      · exact ih m (by omega) hm
theorem dUp_ge (M : Mx) {q : Nat} (hq : q < 4) : ∀ n m, m ≤ n → aheadF M q m = true → m ≤ dUp M n := by
  intro n
  induction n with
  | zero => intro m h _; exact h
  | succ n ih =>
    intro m h hm
    unfold dUp
    by_cases hn : (List.range 4).any (fun q => aheadF M q (n + 1)) = true
    · rw [if_pos hn]; exact h
    · rw [if_neg hn]
      rcases Nat.eq_or_lt_of_le h with rfl | h'
      · exfalso; apply hn; rw [List.any_eq_true]; exact ⟨q, List.mem_range.2 hq, hm⟩
      · exact ih m (by omega) hm
theorem ahead_rank {M : Mx} (hM : ∀ i j, M i j = true → j < 4 ∧ warsh M 4 j j = false) : ∀ n q, aheadF M q n = true → n ≤ rankM M 4 q := by
  intro n
  induction n with
  | zero => intro q _; exact Nat.zero_le _
  | succ n ih =>
    intro q h
    unfold aheadF at h
    rw [List.any_eq_true] at h
    obtain ⟨p, _, hp⟩ := h
    rw [Bool.and_eq_true] at hp
    have h1 := ih p hp.2
    have h2 := rank_less (hM q p hp.1).1 (hM q p hp.1).2 hp.1
    omega
section
variable {ts : List Tk} {L : List Dl} (hlp : lpR ts L = none) (hpl : ∀ x ∈ eqL L, placeD ts x < 4)
include hlp hpl
theorem waits_ok : ∀ i j, waitM ts L i j = true → j < 4 ∧ warsh (waitM ts L) 4 j j = false := by
  intro i j h
  rcases waitsP_from _ _ _ _ _ h with h | ⟨r, hr, h1, _⟩
  · cases h
  · obtain ⟨_, x, hx, _⟩ := routes_mem ts L r hr
    rw [plR_get hx] at h1
    subst h1
    have hm := List.mem_of_getElem? hx
    exact ⟨hpl x hm, firstP_none _ hlp x hm⟩
theorem net_dep : ∀ l, l < (netR ts L).length → lateN (netR ts L) l = 0 → depN (waitM ts L) (lnAt (netR ts L) l).src.toNat 3 < depN (waitM ts L) (lnAt (netR ts L) l).dst.toNat 3 := by
  intro l hl h0
  obtain ⟨r, x, _, hr, hx, e, _, hd, _⟩ := net_at hl
  have hlate : r.late = false := by
    unfold lateN at h0
    rw [e] at h0
    cases hb : r.late with
    | false => rfl
    | true => rw [hb] at h0; cases h0
  have hM : waitM ts L r.dst (placeD ts x) = true := by
    have := waitsP_hit (plR ts L) (routesR ts L) noM r hr hlate
    rw [plR_get hx] at this
    exact this
  rw [e]
  show depN (waitM ts L) ((placeD ts x : Nat) : Int).toNat 3 < depN (waitM ts L) ((r.dst : Nat) : Int).toNat 3
  rw [Int.toNat_natCast, Int.toNat_natCast]
  obtain ⟨g1, g2⟩ := depN_is (waitM ts L) (placeD ts x) 3
  have hpx := hpl x (List.mem_of_getElem? hx)
  have ha : aheadF (waitM ts L) r.dst (depN (waitM ts L) (placeD ts x) 3 + 1) = true := by
    unfold aheadF
    rw [List.any_eq_true]
    exact ⟨placeD ts x, List.mem_range.2 hpx, by rw [Bool.and_eq_true]; exact ⟨hM, g1⟩⟩
  have hQ := (net_ends ts L l hl).2
  rw [e] at hQ
  obtain ⟨y, hy, hye⟩ := hQ
  have hye' : placeD ts y = r.dst := by have : ((placeD ts y : Nat) : Int) = ((r.dst : Nat) : Int) := hye; omega
  have hr4 := ahead_rank (waits_ok hlp hpl) _ _ ha
  have hrk := rank_lt (M := waitM ts L) (m := 4) (i := r.dst) (by have := firstP_none _ hlp y hy; rw [hye'] at this; exact this) hd
  have := depN_ge (waitM ts L) r.dst 3 _ (by omega) ha
  omega
omit hlp in
theorem net_deep : ∀ q, QR ts L q → depN (waitM ts L) q.toNat 3 ≤ dUp (waitM ts L) 3 := by
  rintro q ⟨x, hx, rfl⟩
  rw [Int.toNat_natCast]
  obtain ⟨g1, g2⟩ := depN_is (waitM ts L) (placeD ts x) 3
  exact dUp_ge _ (hpl x hx) 3 _ g2 g1
omit hlp in
theorem text_calm {ins : List (List Int)} {sc : List OpF} {Tm Dm h : Int} (hB : Bound (netR ts L) sc (QR ts L) (fun q => depN (waitM ts L) q.toNat 3) Tm Dm h) (k : Nat) (hh : Tm + 2 * (dUp (waitM ts L) 3 : Int) * (Tm + Dm) + 2 * (k : Int) * ((dUp (waitM ts L) 3 : Int) + 1) * (Tm + Dm) ≤ h) :
    ∀ q, QR ts L q → k + 1 ≤ didF (runG (netR ts L) (valsR ts L ins) [] sc) q 1 (Tm + 2 * (dUp (waitM ts L) 3 : Int) * (Tm + Dm) + 2 * (k : Int) * ((dUp (waitM ts L) 3 : Int) + 1) * (Tm + Dm)) false := by
  have key := (steps_by (net_apart ts L) (valsR ts L ins) hB (D := dUp (waitM ts L) 3) (net_deep hpl) k).2
  have e : reachT Tm Dm (dUp (waitM ts L) 3) k + (dUp (waitM ts L) 3 : Int) * (2 * (Tm + Dm)) = Tm + 2 * (dUp (waitM ts L) 3 : Int) * (Tm + Dm) + 2 * (k : Int) * ((dUp (waitM ts L) 3 : Int) + 1) * (Tm + Dm) := by
    rw [reachT_eq]
    generalize (dUp (waitM ts L) 3 : Int) = D
    have e1 : 2 * D * (Tm + Dm) = D * (2 * (Tm + Dm)) := by ac_rfl
    have e2 : 2 * (k : Int) * (D + 1) * (Tm + Dm) = (k : Int) * ((D + 1) * (2 * (Tm + Dm))) := by ac_rfl
    rw [e1, e2]; omega
  rw [e] at key
  exact key hh
end
end Go.Proofs.Ytmndgoapkmhglab
namespace Go.Proofs.Ytmndgoapkmhglab
open Go.RowKit
def badV (b : BdF) (sc : List OpF) (i : Nat) : Bool :=
  (firstF sc i && decide (b.tmax < (actF sc i).a)) || decide ((actF sc i).b < b.dmin) || decide (b.dmax < (actF sc i).b) || decide ((actF sc i).c < b.dmin) || decide (b.dmax < (actF sc i).c) ||
  (decide (0 ≤ laterF sc i) && (decide (IntKind.i64.wrap ((actF sc (laterF sc i).toNat).a - (actF sc i).a) < b.tmin) || decide (b.tmax < IntKind.i64.wrap ((actF sc (laterF sc i).toNat).a - (actF sc i).a))))
def validF (ts : List Tk) (L : List Dl) (b : BdF) (sc : List OpF) : Nat :=
  if fitF b = false then 10 else if playF ts L sc = true ∧ ∀ i, i < sc.length → badV b sc i = false then 0 else 11
structure VldOk (b : BdF) (sc : List OpF) (i : Nat) : Prop where
  first : firstF sc i = true → (actF sc i).a ≤ b.tmax
  ack : b.dmin ≤ (actF sc i).b ∧ (actF sc i).b ≤ b.dmax
  data : b.dmin ≤ (actF sc i).c ∧ (actF sc i).c ≤ b.dmax
  gap : ∀ m : Nat, laterF sc i = (m : Int) → b.tmin ≤ IntKind.i64.wrap ((actF sc m).a - (actF sc i).a) ∧ IntKind.i64.wrap ((actF sc m).a - (actF sc i).a) ≤ b.tmax
theorem later_nat (sc : List OpF) {i : Nat} (hi : i < sc.length) (h : 0 ≤ laterF sc i) : ∃ m : Nat, laterF sc i = (m : Int) ∧ i < m ∧ m < sc.length := by
  rcases later_range sc i (sc.length - (i + 1)) (i + 1) (by omega) (by omega) with e | ⟨j, e, h1, h2⟩
  · have e' : laterF sc i = -1 := e
    omega
  · exact ⟨j, e, h1, h2⟩
theorem badV_iff (b : BdF) (sc : List OpF) {i : Nat} (hi : i < sc.length) : badV b sc i = false ↔ VldOk b sc i := by
  unfold badV
  simp only [Bool.or_eq_false_iff, Bool.and_eq_false_iff, decide_eq_false_iff_not]
  constructor
  · rintro ⟨⟨⟨⟨⟨h1, h2⟩, h3⟩, h4⟩, h5⟩, h6⟩
    refine ⟨fun hf => ?_, ⟨by omega, by omega⟩, ⟨by omega, by omega⟩, fun m e => ?_⟩
    · rcases h1 with h1 | h1
      · rw [hf] at h1; cases h1
      · omega
    · rw [e] at h6
      rcases h6 with h6 | ⟨h6, h7⟩
      · omega
      · rw [Int.toNat_natCast] at h6 h7; omega
  · rintro ⟨h1, h2, h3, h4⟩
    refine ⟨⟨⟨⟨⟨?_, by omega⟩, by omega⟩, by omega⟩, by omega⟩, ?_⟩
    · cases hf : firstF sc i with
      | false => exact .inl rfl
      | true => have := h1 hf; exact .inr (by omega)
    · by_cases h : 0 ≤ laterF sc i
      · obtain ⟨m, e, _, _⟩ := later_nat sc hi h
        have := h4 m e
        rw [e, Int.toNat_natCast]
        exact .inr ⟨by omega, by omega⟩
      · exact .inl h
theorem greatest {p : Nat → Prop} [DecidablePred p] : ∀ j, (∃ i, i < j ∧ p i) → ∃ i, i < j ∧ p i ∧ ∀ m, i < m → m < j → ¬ p m := by
  intro j
  induction j with
  | zero => rintro ⟨i, hi, _⟩; omega
  | succ j ih =>
    rintro ⟨i, hi, hp⟩
    by_cases hj : p j
    · exact ⟨j, Nat.lt_succ_self _, hj, fun m h1 h2 => by omega⟩
    · obtain ⟨i', h1, h2, h3⟩ := ih ⟨i, by rcases Nat.lt_succ_iff_lt_or_eq.1 hi with h | rfl; exact h; exact absurd hp hj, hp⟩
      refine ⟨i', by omega, h2, fun m g1 g2 => ?_⟩
      rcases Nat.lt_succ_iff_lt_or_eq.1 g2 with h | rfl
      · exact h3 m g1 h
      · exact hj
theorem least {p : Nat → Prop} [DecidablePred p] : ∀ j, p j → ∃ i, i ≤ j ∧ p i ∧ ∀ m, m < i → ¬ p m := by
  intro j
  induction j using Nat.strongRecOn with
  | _ j ih =>
    intro hp
    by_cases h : ∃ m, m < j ∧ p m
    · obtain ⟨m, h1, h2⟩ := h
      obtain ⟨i, g1, g2, g3⟩ := ih m h1 h2
      exact ⟨i, by omega, g2, g3⟩
    · exact ⟨j, Nat.le_refl _, hp, fun m hm hpm => h ⟨m, hm, hpm⟩⟩
theorem prev_act (sc : List OpF) {j : Nat} (hj : j < sc.length) : firstF sc j = true ∨ ∃ i, i < j ∧ (actF sc i).k = (actF sc j).k ∧ laterF sc i = (j : Int) := by
  by_cases h : ∃ i, i < j ∧ (actF sc i).k = (actF sc j).k
  · obtain ⟨i, h1, h2, h3⟩ := greatest j h
    refine .inr ⟨i, h1, h2, ?_⟩
    obtain ⟨m, e, g1, g2, g3⟩ := later_hit sc i (sc.length - (i + 1)) (i + 1) j (by omega) (by omega) h2.symm
    have hm : m = j := by
      rcases Nat.eq_or_lt_of_le g2 with h' | h'
      · exact h'
      · exact absurd (g3.trans h2) (h3 m (by omega) h')
    subst hm
    exact e
  · refine .inl ?_
    unfold firstF firstG
    rw [List.all_eq_true]
    intro i hi
    rw [List.mem_range] at hi
    rw [bne_iff_ne]
    exact fun e => h ⟨i, hi, e⟩
theorem valid_act {ts : List Tk} {L : List Dl} {b : BdF} {sc : List OpF} (hP : ∀ i, i < sc.length → ActOk ts L sc i) (hV : ∀ i, i < sc.length → VldOk b sc i) {q x : Int} (hx : 0 ≤ x) {j : Nat} (hj : j < sc.length) (hk : (actF sc j).k = q) (hl : x < (actF sc j).a) : ∃ a ∈ sc, a.k = q ∧ x < a.a ∧ a.a ≤ x + b.tmax := by
  obtain ⟨i, h1, ⟨h2, h3, h4⟩, h5⟩ := least (p := fun i => i < sc.length ∧ (actF sc i).k = q ∧ x < (actF sc i).a) j ⟨hj, hk, hl⟩
  refine ⟨actF sc i, by rw [← actF_get h2]; exact List.getElem_mem h2, h3, h4, ?_⟩
  rcases prev_act sc h2 with hf | ⟨m, g1, g2, g3⟩
  · have := (hV i h2).first hf; omega
  · have hm : ¬ x < (actF sc m).a := fun e => h5 m g1 ⟨by omega, by rw [g2]; exact h3, e⟩
    have h6 := (hV m (by omega)).gap i g3
    have a1 := (hP m (by omega)).a0
    have a2 := (hP i h2).a0
    have hw : IntKind.i64.wrap ((actF sc i).a - (actF sc m).a) = (actF sc i).a - (actF sc m).a := by rw [IntKind.wrap_i64]; omega
    rw [hw] at h6
    omega
def lastA (q : Int) : List OpF → Int → Int
  | [], z => z
  | a :: r, z => lastA q r (if a.k = q then a.a else z)
def horA (sc : List OpF) : List Int → Int → Int
  | [], h => h
  | q :: r, h => horA sc r (if lastA q sc (-1) < h then lastA q sc (-1) else h)
def horF (sc : List OpF) : List Int → Int
  | [] => -1
  | q :: r => horA sc r (lastA q sc (-1))
theorem lastA_is (q : Int) : ∀ (sc : List OpF) (z : Int), lastA q sc z = z ∨ ∃ a ∈ sc, a.k = q ∧ a.a = lastA q sc z := by
  intro sc
  induction sc with
  | nil => intro z; exact .inl rfl
  | cons a r ih =>
    intro z
    simp only [lastA]
    rcases ih (if a.k = q then a.a else z) with e | ⟨c, h1, h2, h3⟩
    · by_cases h : a.k = q
      · rw [if_pos h] at e ⊢
        exact .inr ⟨a, by simp, h, by rw [e]⟩
      · rw [if_neg h] at e ⊢
        exact .inl e
    · exact .inr ⟨c, List.mem_cons_of_mem _ h1, h2, h3⟩
theorem horA_le (sc : List OpF) : ∀ (l : List Int) (h : Int), horA sc l h ≤ h ∧ ∀ q ∈ l, horA sc l h ≤ lastA q sc (-1) := by
  intro l
  induction l with
  | nil => intro h; exact ⟨Int.le_refl _, fun q hq => by simp at hq⟩
  | cons q r ih =>
    intro h
    simp only [horA]
    obtain ⟨h1, h2⟩ := ih (if lastA q sc (-1) < h then lastA q sc (-1) else h)
    have : (if lastA q sc (-1) < h then lastA q sc (-1) else h) ≤ h ∧ (if lastA q sc (-1) < h then lastA q sc (-1) else h) ≤ lastA q sc (-1) := by split <;> omega
    refine ⟨by omega, fun p hp => ?_⟩
    rcases List.mem_cons.1 hp with rfl | hp
    · omega
    · exact h2 p hp
theorem horF_le (sc : List OpF) (l : List Int) : ∀ q ∈ l, horF sc l ≤ lastA q sc (-1) := by
  intro q hq
  cases l with
  | nil => simp at hq
  | cons p r =>
    obtain ⟨h1, h2⟩ := horA_le sc r (lastA p sc (-1))
    rcases List.mem_cons.1 hq with rfl | hq
    · exact h1
    · exact h2 q hq
theorem valid_bound {ts : List Tk} {L : List Dl} {b : BdF} {sc : List OpF} (hlp : lpR ts L = none) (hpl : ∀ x ∈ eqL L, placeD ts x < 4) (hf : 1 ≤ b.tmin ∧ b.tmin ≤ b.tmax ∧ 0 ≤ b.dmin ∧ b.dmin ≤ b.dmax) (hP : ∀ i, i < sc.length → ActOk ts L sc i) (hV : ∀ i, i < sc.length → VldOk b sc i) {ps : List Int} (hps : ∀ q, QR ts L q → q ∈ ps) :
    Bound (netR ts L) sc (QR ts L) (fun q => depN (waitM ts L) q.toNat 3) b.tmax b.dmax (horF sc ps) := by
  have hlast : ∀ q, QR ts L q → ∀ x, -1 ≤ x → x < horF sc ps → ∃ j, j < sc.length ∧ (actF sc j).k = q ∧ x < (actF sc j).a := fun q hq x hx hh => by
    have h1 := horF_le sc ps q (hps q hq)
    rcases lastA_is q sc (-1) with e | ⟨a, ha, hk, he⟩
    · omega
    · obtain ⟨j, hj, rfl⟩ := List.getElem_of_mem ha
      rw [actF_get hj] at hk he
      exact ⟨j, hj, hk, by omega⟩
  refine ⟨play_acts hP, fun a ha => ?_, by omega, by omega, net_ends ts L, fun q hq hh => ?_, fun q hq x hx hh => ?_, net_dep hlp hpl⟩
  · obtain ⟨j, hj, rfl⟩ := List.getElem_of_mem ha
    rw [actF_get hj]
    exact ⟨(hV j hj).ack.2, (hV j hj).data.2⟩
  · obtain ⟨j, hj, hk, hl⟩ := hlast q hq (-1) (Int.le_refl _) (by omega)
    obtain ⟨i, h1, ⟨h2, h3⟩, h5⟩ := least (p := fun i => i < sc.length ∧ (actF sc i).k = q) j ⟨hj, hk⟩
    refine ⟨actF sc i, by rw [← actF_get h2]; exact List.getElem_mem h2, h3, ?_⟩
    rcases prev_act sc h2 with hf' | ⟨m, g1, g2, _⟩
    · exact (hV i h2).first hf'
    · exact absurd ⟨by omega, by rw [g2]; exact h3⟩ (h5 m g1)
  · obtain ⟨j, hj, hk, hl⟩ := hlast q hq x (by omega) (by omega)
    exact valid_act hP hV hx hj hk hl
def RegA (b : BdF) (ps : List Int) : (Int → Int) → List OpF → Prop
  | _, [] => True
  | w, a :: r => a.k ∈ ps ∧ a.a = w a.k ∧ (∀ q ∈ ps, a.a ≤ w q) ∧ (b.dmin ≤ a.b ∧ a.b ≤ b.dmax) ∧ (b.dmin ≤ a.c ∧ a.c ≤ b.dmax) ∧ ∃ d, b.tmin ≤ d ∧ d ≤ b.tmax ∧ RegA b ps (fun q => if q = a.k then a.a + d else w q) r
theorem actF_zero (a : OpF) (r : List OpF) : actF (a :: r) 0 = a := rfl
theorem actF_succ (a : OpF) (r : List OpF) (j : Nat) : actF (a :: r) (j + 1) = actF r j := by simp [actF]
theorem first_succ {a : OpF} {r : List OpF} {j : Nat} (h : firstF (a :: r) (j + 1) = true) : (actF r j).k ≠ a.k ∧ firstF r j = true := by
  unfold firstF firstG at *
  rw [List.all_eq_true] at *
  refine ⟨fun e => ?_, fun t ht => ?_⟩
  · have := h 0 (List.mem_range.2 (by omega))
    rw [actF_zero, actF_succ, bne_iff_ne] at this
    exact this e.symm
  · have := h (t + 1) (List.mem_range.2 (by have := List.mem_range.1 ht; omega))
    rw [actF_succ, actF_succ] at this
    exact this
theorem laterG_succ (a : OpF) (r : List OpF) (i : Nat) : ∀ f k, laterG (a :: r) (i + 1) f (k + 1) = if laterG r i f k = -1 then -1 else laterG r i f k + 1 := by
  intro f
  induction f with
  | zero => intro k; rfl
  | succ f ih =>
    intro k
    unfold laterG
    rw [actF_succ, actF_succ]
    by_cases h : (actF r k).k = (actF r i).k
    · rw [if_pos h, if_pos h, if_neg (by omega)]; omega
    · rw [if_neg h, if_neg h, ih]
theorem later_succ {a : OpF} {r : List OpF} {i m : Nat} (hi : i < r.length) (h : laterF (a :: r) (i + 1) = (m : Int)) : ∃ m', m = m' + 1 ∧ laterF r i = (m' : Int) := by
  unfold laterF at *
  rw [show (a :: r).length - (i + 1 + 1) = r.length - (i + 1) by simp, laterG_succ] at h
  rcases later_range r i (r.length - (i + 1)) (i + 1) (by omega) (by omega) with e | ⟨j, e, _⟩
  · rw [e, if_pos rfl] at h; omega
  · rw [e, if_neg (by omega)] at h
    exact ⟨j, by omega, e⟩
theorem laterG_zero (a : OpF) (r : List OpF) : ∀ f k m, k + f = r.length → (∀ t, t < k → (actF r t).k ≠ a.k) → laterG (a :: r) 0 f (k + 1) = ((m : Nat) : Int) → ∃ m', m = m' + 1 ∧ m' < r.length ∧ (actF r m').k = a.k ∧ firstF r m' = true := by
  intro f
  induction f with
  | zero => intro k m _ _ h; unfold laterG at h; omega
  | succ f ih =>
    intro k m hk hn h
    unfold laterG at h
    rw [actF_succ, actF_zero] at h
    by_cases hc : (actF r k).k = a.k
    · rw [if_pos hc] at h
      refine ⟨k, by omega, by omega, hc, ?_⟩
      unfold firstF firstG
      rw [List.all_eq_true]
      intro t ht
      rw [bne_iff_ne, hc]
      exact hn t (List.mem_range.1 ht)
    · rw [if_neg hc] at h
      refine ih (k + 1) m (by omega) (fun t ht => ?_) h
      rcases Nat.lt_succ_iff_lt_or_eq.1 ht with h' | rfl
      · exact hn t h'
      · exact hc
theorem later_zero {a : OpF} {r : List OpF} {m : Nat} (h : laterF (a :: r) 0 = (m : Int)) : ∃ m', m = m' + 1 ∧ m' < r.length ∧ (actF r m').k = a.k ∧ firstF r m' = true := by
  unfold laterF at h
  rw [show (a :: r).length - (0 + 1) = r.length by simp] at h
  exact laterG_zero a r r.length 0 m (by omega) (fun t ht => by omega) h
theorem reg_ge {b : BdF} (ht : 1 ≤ b.tmin) {ps : List Int} : ∀ (sc : List OpF) (w : Int → Int), RegA b ps w sc → ∀ x ∈ sc, x.k ∈ ps ∧ w x.k ≤ x.a := by
  intro sc
  induction sc with
  | nil => intro w _ x hx; simp at hx
  | cons a r ih =>
    rintro w ⟨h1, h2, h3, _, _, d, h6, _, h8⟩ x hx
    rcases List.mem_cons.1 hx with rfl | hx
    · exact ⟨h1, by omega⟩
    · obtain ⟨g1, g2⟩ := ih _ h8 x hx
      refine ⟨g1, ?_⟩
      by_cases e : x.k = a.k
      · rw [if_pos e] at g2; rw [e]; omega
      · rw [if_neg e] at g2; exact g2
theorem reg_gap {b : BdF} (ht : 1 ≤ b.tmin) {ps : List Int} : ∀ (sc : List OpF) (w : Int → Int), RegA b ps w sc → sc.Pairwise (fun x y => x.a ≤ y.a ∧ (x.k = y.k → x.a + b.tmin ≤ y.a)) := by
  intro sc
  induction sc with
  | nil => intro w _; exact List.Pairwise.nil
  | cons a r ih =>
    rintro w ⟨h1, h2, h3, _, _, d, h6, _, h8⟩
    refine List.pairwise_cons.2 ⟨fun x hx => ?_, ih _ h8⟩
    obtain ⟨g1, g2⟩ := reg_ge ht r _ h8 x hx
    by_cases e : x.k = a.k
    · rw [if_pos e] at g2; exact ⟨by omega, fun _ => by omega⟩
    · rw [if_neg e] at g2
      have := h3 _ g1
      exact ⟨by omega, fun e' => absurd e'.symm e⟩
theorem reg_first {b : BdF} {ps : List Int} : ∀ (sc : List OpF) (w : Int → Int), RegA b ps w sc → ∀ j, j < sc.length → firstF sc j = true → (actF sc j).a = w (actF sc j).k := by
  intro sc
  induction sc with
  | nil => intro w _ j hj; simp at hj
  | cons a r ih =>
    rintro w ⟨h1, h2, h3, _, _, d, h6, _, h8⟩ j hj hf
    cases j with
    | zero => exact h2
    | succ j =>
      obtain ⟨g1, g2⟩ := first_succ hf
      rw [actF_succ]
      have := ih _ h8 j (by simpa using hj) g2
      rw [if_neg g1] at this
      exact this
theorem reg_later {b : BdF} {ps : List Int} : ∀ (sc : List OpF) (w : Int → Int), RegA b ps w sc → ∀ i m, i < sc.length → laterF sc i = ((m : Nat) : Int) → b.tmin ≤ (actF sc m).a - (actF sc i).a ∧ (actF sc m).a - (actF sc i).a ≤ b.tmax := by
  intro sc
  induction sc with
  | nil => intro w _ i m hi; simp at hi
  | cons a r ih =>
    rintro w ⟨h1, h2, h3, _, _, d, h6, h7, h8⟩ i m hi h
    cases i with
    | zero =>
      obtain ⟨m', rfl, g1, g2, g3⟩ := later_zero h
      rw [actF_succ, actF_zero]
      have := reg_first r _ h8 m' g1 g3
      rw [if_pos g2] at this
      omega
    | succ i =>
      obtain ⟨m', rfl, g⟩ := later_succ (by simpa using hi) h
      rw [actF_succ, actF_succ]
      exact ih _ h8 i m' (by simpa using hi) g
theorem reg_dly {b : BdF} {ps : List Int} : ∀ (sc : List OpF) (w : Int → Int), RegA b ps w sc → ∀ x ∈ sc, (b.dmin ≤ x.b ∧ x.b ≤ b.dmax) ∧ (b.dmin ≤ x.c ∧ x.c ≤ b.dmax) := by
  intro sc
  induction sc with
  | nil => intro w _ x hx; simp at hx
  | cons a r ih =>
    rintro w ⟨h1, h2, h3, h4, h5, d, h6, _, h8⟩ x hx
    rcases List.mem_cons.1 hx with rfl | hx
    · exact ⟨h4, h5⟩
    · exact ih _ h8 x hx
theorem reg_le {b : BdF} (ht : 1 ≤ b.tmin ∧ b.tmin ≤ b.tmax) {ps : List Int} : ∀ (sc : List OpF) (w : Int → Int) (W : Int), (∀ q ∈ ps, w q ≤ W) → RegA b ps w sc → ∀ x ∈ sc, x.a ≤ W + (sc.length : Int) * b.tmax := by
  intro sc
  induction sc with
  | nil => intro w W _ _ x hx; simp at hx
  | cons a r ih =>
    rintro w W hW ⟨h1, h2, h3, h4, h5, d, h6, h7, h8⟩ x hx
    have e : (((a :: r).length : Nat) : Int) * b.tmax = (r.length : Int) * b.tmax + b.tmax := by
      rw [List.length_cons, Int.natCast_add, Int.add_mul]; simp
    have hp : 0 ≤ (r.length : Int) * b.tmax := Int.mul_nonneg (by omega) (by omega)
    have ha := hW _ h1
    rcases List.mem_cons.1 hx with rfl | hx
    · rw [e]; omega
    · have := ih _ (W + b.tmax) (fun q hq => by
        show (if q = a.k then a.a + d else w q) ≤ W + b.tmax
        by_cases hqa : q = a.k
        · rw [if_pos hqa]; omega
        · rw [if_neg hqa]; have := hW q hq; omega) h8 x hx
      rw [e]; omega
theorem reg_ok {ts : List Tk} {L : List Dl} {b : BdF} {ps : List Int} {sc : List OpF} {w : Int → Int} (hf : 1 ≤ b.tmin ∧ b.tmin ≤ b.tmax ∧ b.tmax ≤ 1000000 ∧ 0 ≤ b.dmin ∧ b.dmin ≤ b.dmax ∧ b.dmax < b.tmin) (hw : ∀ q ∈ ps, 0 ≤ w q ∧ w q ≤ b.tmax) (hps : ∀ q ∈ ps, (atR ts L q) ≠ []) (hn : sc.length ≤ 400) (h : RegA b ps w sc) :
    (∀ i, i < sc.length → ActOk ts L sc i) ∧ ∀ i, i < sc.length → VldOk b sc i := by
  have hge := reg_ge hf.1 sc w h
  have hle := reg_le ⟨hf.1, hf.2.1⟩ sc w b.tmax (fun q hq => (hw q hq).2) h
  have hd := reg_dly sc w h
  have hg := reg_gap hf.1 sc w h
  rw [List.pairwise_iff_getElem] at hg
  have hmem : ∀ i, i < sc.length → actF sc i ∈ sc := fun i hi => by rw [← actF_get hi]; exact List.getElem_mem hi
  have hbig : (sc.length : Int) * b.tmax ≤ 400 * 1000000 := by
    have h1 : (sc.length : Int) * b.tmax ≤ 400 * b.tmax := Int.mul_le_mul_of_nonneg_right (by omega) (by omega)
    omega
  have hrange : ∀ i, i < sc.length → 0 ≤ (actF sc i).a ∧ (actF sc i).a ≤ 401000000 := fun i hi => by
    obtain ⟨g1, g2⟩ := hge _ (hmem i hi)
    have := hle _ (hmem i hi)
    have := hw _ g1
    omega
  have hlat : ∀ i m, i < sc.length → laterF sc i = ((m : Nat) : Int) → IntKind.i64.wrap ((actF sc m).a - (actF sc i).a) = (actF sc m).a - (actF sc i).a := fun i m hi e => by
    obtain ⟨m', e', g1, g2⟩ := later_nat sc hi (by omega)
    have : m' = m := by omega
    subst this
    have h1 := hrange i hi
    have h2 := hrange m' g2
    rw [IntKind.wrap_i64]; omega
  refine ⟨fun i hi => ?_, fun i hi => ?_⟩
  · obtain ⟨g1, g2⟩ := hge _ (hmem i hi)
    have h1 := hrange i hi
    have h2 := hd _ (hmem i hi)
    refine ⟨hps _ g1, ⟨by omega, by omega⟩, ⟨by omega, by omega⟩, ⟨by omega, by omega⟩, fun j e => ?_, ?_⟩
    · subst e
      have := (hg j (j + 1) (by omega) hi (by omega)).1
      rw [actF_get, actF_get] at this
      exact this
    · unfold overA
      by_cases hl : 0 ≤ laterF sc i
      · obtain ⟨m, e, g1, g2⟩ := later_nat sc hi hl
        rw [e, Int.toNat_natCast, hlat i m hi e]
        have := reg_later sc w h i m hi e
        simp only [Bool.and_eq_false_iff, Bool.or_eq_false_iff, decide_eq_false_iff_not]
        exact .inr ⟨by omega, by omega⟩
      · rw [decide_eq_false hl, Bool.false_and]
  · have h2 := hd _ (hmem i hi)
    refine ⟨fun hfi => ?_, h2.1, h2.2, fun m e => ?_⟩
    · rw [reg_first sc w h i hi hfi]
      exact (hw _ (hge _ (hmem i hi)).1).2
    · rw [hlat i m hi e]
      exact reg_later sc w h i m hi e
def usedB (ts : List Tk) (L : List Dl) (q : Nat) : Bool := (plR ts L).any fun p => p == q
def usedR (ts : List Tk) (L : List Dl) : List Nat := (List.range 4).filter (usedB ts L)
theorem warsh_last {M : Mx} : ∀ n i j, warsh M n i j = true → ∃ k, M k j = true := by
  intro n
  induction n with
  | zero => intro i j h; exact ⟨i, h⟩
  | succ n ih =>
    intro i j h
    change phase (warsh M n) n i j = true at h
    unfold phase at h
    rw [Bool.or_eq_true, Bool.and_eq_true] at h
    rcases h with h | ⟨_, h⟩
    · exact ih i j h
    · exact ih n j h
section
variable {ts : List Tk} {L : List Dl} (hlp : lpR ts L = none) (hpl : ∀ x ∈ eqL L, placeD ts x < 4)
include hlp hpl
omit hlp hpl in
theorem used_of {x : Dl} (hx : x ∈ eqL L) : usedB ts L (placeD ts x) = true := by
  unfold usedB plR
  rw [List.any_map, List.any_eq_true]
  exact ⟨x, hx, by simp⟩
omit hlp hpl in
theorem waits_used {i j : Nat} (h : waitM ts L i j = true) : usedB ts L i = true ∧ usedB ts L j = true := by
  rcases waitsP_from _ _ _ _ _ h with h | ⟨r, hr, h1, h2⟩
  · cases h
  · obtain ⟨l, hl, hle⟩ := List.getElem_of_mem hr
    have hl' : l < (netR ts L).length := by unfold netR; rwa [List.length_map]
    obtain ⟨r', x, e1, _, hx, e, _, _, _⟩ := net_at hl'
    rw [List.getElem?_eq_getElem hl, hle] at e1
    cases e1
    rw [plR_get hx] at h1
    have hd := (net_ends ts L l hl').2
    rw [e] at hd
    obtain ⟨y, hy, hye⟩ := hd
    have hye' : placeD ts y = r.dst := by have : ((placeD ts y : Nat) : Int) = ((r.dst : Nat) : Int) := hye; omega
    rw [h2, h1, ← hye']
    exact ⟨used_of hy, used_of (List.mem_of_getElem? hx)⟩
theorem ahead_used {q n : Nat} (h : aheadF (waitM ts L) q (n + 1) = true) (hq : q < 4) : n + 1 < (usedR ts L).length := by
  have h1 := ahead_rank (waits_ok hlp hpl) _ _ h
  have hu : usedB ts L q = true := by
    unfold aheadF at h
    rw [List.any_eq_true] at h
    obtain ⟨p, _, hp⟩ := h
    rw [Bool.and_eq_true] at hp
    exact (waits_used hp.1).1
  have hqq : warsh (waitM ts L) 4 q q = false := by
    unfold usedB plR at hu
    rw [List.any_map, List.any_eq_true] at hu
    obtain ⟨x, hx, he⟩ := hu
    have e : placeD ts x = q := by simpa using he
    have := firstP_none _ hlp x hx
    rw [e] at this
    exact this
  have h2 : rankM (waitM ts L) 4 q < (usedR ts L).length := by
    unfold rankM usedR
    refine filter_lt (List.range 4) (fun x _ hx => ?_) ⟨q, List.mem_range.2 hq, hu, hqq⟩
    obtain ⟨k, hk⟩ := warsh_last 4 q x hx
    exact (waits_used hk).2
  omega
theorem dUp_used (h : usedR ts L ≠ []) : ∀ n, dUp (waitM ts L) n + 1 ≤ (usedR ts L).length := by
  intro n
  induction n with
  | zero => unfold dUp; have := List.length_pos_iff.2 h; omega
  | succ n ih =>
    unfold dUp
    by_cases hn : (List.range 4).any (fun q => aheadF (waitM ts L) q (n + 1)) = true
    · rw [if_pos hn]
      rw [List.any_eq_true] at hn
      obtain ⟨q, hq, ha⟩ := hn
      have := ahead_used hlp hpl ha (List.mem_range.1 hq)
      omega
    · rw [if_neg hn]; exact ih
end
def stepT (pl : Int) (k : Nat) : PastF → Nat → Int
  | [], _ => -1
  | x :: P, n => if isD pl 1 x then (if n = k then x.2.a else stepT pl k P (n + 1)) else stepT pl k P n
theorem did_cons (x : OpF × EvF) (P : PastF) (pl what now : Int) : didF (x :: P) pl what now false = (if isD pl what x && decide (x.2.a + 0 ≤ now) then 1 else 0) + didF P pl what now false := by
  unfold didF
  rw [List.filter_cons]
  simp only [Bool.false_eq_true, if_false]
  split <;> simp <;> omega
theorem stepT_by (pl : Int) (k : Nat) (u : Int) : ∀ (P : PastF) (n : Nat), (P.Pairwise fun x y => x.2.a ≤ y.2.a) → (∀ x ∈ P, 0 ≤ x.2.a) → n ≤ k → k + 1 ≤ n + didF P pl 1 u false → 0 ≤ stepT pl k P n ∧ stepT pl k P n ≤ u := by
  intro P
  induction P with
  | nil => intro n _ _ hn h; simp [didF] at h; omega
  | cons x P ih =>
    intro n hp h0 hn h
    obtain ⟨hp1, hp2⟩ := List.pairwise_cons.1 hp
    rw [did_cons] at h
    simp only [stepT]
    have h0' : ∀ y ∈ P, 0 ≤ y.2.a := fun y hy => h0 y (List.mem_cons_of_mem _ hy)
    rcases Bool.eq_false_or_eq_true (isD pl 1 x) with hx | hx
    · rw [hx] at h ⊢
      rw [if_pos rfl]
      by_cases hu : x.2.a ≤ u
      · by_cases hk : n = k
        · rw [if_pos hk]; exact ⟨h0 x (by simp), hu⟩
        · rw [if_neg hk]
          refine ih (n + 1) hp2 h0' (by omega) ?_
          rw [if_pos (by simp; omega)] at h
          omega
      · exfalso
        have hz : didF P pl 1 u false = 0 := did_none (fun y hy => by have := hp1 y hy; omega) pl 1
        rw [hz, if_neg (by simp; omega)] at h
        omega
    · rw [hx] at h ⊢
      rw [if_neg (by simp)]
      refine ih n hp2 h0' hn ?_
      simpa using h
def nextF (sc : List OpF) (i : Nat) : Int := if laterF sc i < 0 then -1 else IntKind.i64.wrap ((actF sc (laterF sc i).toNat).a - (actF sc i).a)
def hereK (ws : List Nat) (q : Int) : Bool := ws.any fun p => ((p : Nat) : Int) == q
def badK (ws : List Nat) (sc : List OpF) (i : Nat) : Bool :=
  !hereK ws (actF sc i).k || decide ((actF sc i).a < 0) || decide (1099511627776 < (actF sc i).a) || decide ((actF sc i).b < 0) || decide (1099511627776 < (actF sc i).b) || decide ((actF sc i).c < 0) || decide (1099511627776 < (actF sc i).c) || backA sc i ||
  (decide (0 ≤ nextF sc i) && (decide (nextF sc i ≤ (actF sc i).b) || decide (nextF sc i ≤ (actF sc i).c)))
def playK (ws : List Nat) (sc : List OpF) : Bool := decide (sc.length ≤ 400) && (List.range sc.length).all fun i => !badK ws sc i
theorem atR_here (ts : List Tk) (L : List Dl) (q : Int) : atR ts L q ≠ [] ↔ hereK (plR ts L) q = true := by
  unfold hereK plR
  rw [List.any_map, List.any_eq_true]
  constructor
  · intro h
    cases hc : atR ts L q with
    | nil => exact absurd hc h
    | cons i r =>
      have hi : i ∈ atR ts L q := by rw [hc]; simp
      unfold atR atG at hi
      rw [List.mem_filter] at hi
      cases hx : (eqL L)[i]? with
      | none => rw [hx] at hi; simp at hi
      | some x =>
        rw [hx] at hi
        exact ⟨x, List.mem_of_getElem? hx, by simpa using hi.2⟩
  · rintro ⟨x, hx, he⟩ hn
    obtain ⟨i, hi, rfl⟩ := List.getElem_of_mem hx
    have : i ∈ atR ts L q := by
      unfold atR atG
      rw [List.mem_filter, List.mem_range]
      refine ⟨hi, ?_⟩
      rw [List.getElem?_eq_getElem hi]
      simpa using he
    rw [hn] at this
    simp at this
theorem badK_iff (ws : List Nat) (sc : List OpF) (i : Nat) : badK ws sc i = false ↔ hereK ws (actF sc i).k = true ∧ (0 ≤ (actF sc i).a ∧ (actF sc i).a ≤ 1099511627776) ∧ (0 ≤ (actF sc i).b ∧ (actF sc i).b ≤ 1099511627776) ∧ (0 ≤ (actF sc i).c ∧ (actF sc i).c ≤ 1099511627776) ∧ backA sc i = false ∧ (0 ≤ nextF sc i → (actF sc i).b < nextF sc i ∧ (actF sc i).c < nextF sc i) := by
  unfold badK
  simp only [Bool.or_eq_false_iff, Bool.and_eq_false_iff, decide_eq_false_iff_not, Bool.not_eq_false']
  constructor
  · rintro ⟨⟨⟨⟨⟨⟨⟨⟨h1, h2⟩, h3⟩, h4⟩, h5⟩, h6⟩, h7⟩, h8⟩, h9⟩
    exact ⟨h1, ⟨by omega, by omega⟩, ⟨by omega, by omega⟩, ⟨by omega, by omega⟩, h8, fun h => by omega⟩
  · rintro ⟨h1, h2, h3, h4, h5, h6⟩
    refine ⟨⟨⟨⟨⟨⟨⟨⟨h1, by omega⟩, by omega⟩, by omega⟩, by omega⟩, by omega⟩, by omega⟩, h5⟩, ?_⟩
    by_cases h : 0 ≤ nextF sc i
    · have := h6 h; exact .inr ⟨by omega, by omega⟩
    · exact .inl h
theorem back_iff (sc : List OpF) (i : Nat) : backA sc i = false ↔ ∀ j, i = j + 1 → (actF sc j).a ≤ (actF sc i).a := by
  cases i with
  | zero => exact ⟨fun _ j e => by omega, fun _ => rfl⟩
  | succ i =>
    unfold backA
    rw [decide_eq_false_iff_not]
    exact ⟨fun h j e => (by rw [show j = i by omega]; omega), fun h => (by have := h i rfl; omega)⟩
theorem playK_eq (ts : List Tk) (L : List Dl) (sc : List OpF) : playK (plR ts L) sc = playF ts L sc := by
  rw [Bool.eq_iff_iff, play_iff]
  unfold playK
  rw [Bool.and_eq_true, decide_eq_true_iff, List.all_eq_true]
  refine and_congr Iff.rfl ⟨fun h => ?_, fun h i hi => ?_⟩
  · have hk : ∀ i, i < sc.length → badK (plR ts L) sc i = false := fun i hi => by
      have := h i (List.mem_range.2 hi); rwa [Bool.not_eq_true'] at this
    have hmono : ∀ (i j : Nat), i ≤ j → j < sc.length → (actF sc i).a ≤ (actF sc j).a := by
      intro i j hij
      induction j with
      | zero => intro _; rw [show i = 0 by omega]; exact Int.le_refl _
      | succ j ih =>
        intro hj
        rcases Nat.eq_or_lt_of_le hij with rfl | h'
        · exact Int.le_refl _
        · have h1 := ih (by omega) (by omega)
          have h2 := (back_iff sc (j + 1)).1 ((badK_iff _ _ _).1 (hk (j + 1) hj)).2.2.2.2.1 j rfl
          omega
    intro i hi
    obtain ⟨h1, h2, h3, h4, h5, h6⟩ := (badK_iff _ _ _).1 (hk i hi)
    refine ⟨(atR_here ts L _).2 h1, h2, h3, h4, (back_iff sc i).1 h5, ?_⟩
    unfold overA
    by_cases hl : 0 ≤ laterF sc i
    · obtain ⟨m, e, g1, g2⟩ := later_nat sc hi hl
      have hm := ((badK_iff _ _ _).1 (hk m g2)).2.1
      have hmo := hmono i m (by omega) g2
      have hw : IntKind.i64.wrap ((actF sc m).a - (actF sc i).a) = (actF sc m).a - (actF sc i).a := by rw [IntKind.wrap_i64]; omega
      have hn : nextF sc i = (actF sc m).a - (actF sc i).a := by unfold nextF; rw [if_neg (by omega), e, Int.toNat_natCast, hw]
      have := h6 (by omega)
      rw [e, Int.toNat_natCast, hw]
      simp only [Bool.and_eq_false_iff, Bool.or_eq_false_iff, decide_eq_false_iff_not]
      exact .inr ⟨by omega, by omega⟩
    · rw [decide_eq_false hl, Bool.false_and]
  · rw [Bool.not_eq_true', badK_iff]
    have hi' := List.mem_range.1 hi
    have ha := h i hi'
    refine ⟨(atR_here ts L _).1 ha.here, ha.a0, ha.b0, ha.c0, (back_iff sc i).2 ha.back, fun hn => ?_⟩
    by_cases hl : laterF sc i < 0
    · unfold nextF at hn; rw [if_pos hl] at hn; omega
    · obtain ⟨m, e, g1, g2⟩ := later_nat sc hi' (by omega)
      have hov := ha.over
      unfold overA at hov
      have hd : decide (0 ≤ laterF sc i) = true := by simp; omega
      rw [hd, Bool.true_and, Bool.or_eq_false_iff, decide_eq_false_iff_not, decide_eq_false_iff_not] at hov
      unfold nextF
      rw [if_neg hl]
      omega
end Go.Proofs.Ytmndgoapkmhglab
namespace Go.Proofs.Ytmndgoapkmhglab
theorem held_of {s : ByteArray} {p : PS} (_hs : s.size ≤ 1500) (hp : parseF s = .ok p) {L : List Dl} (hG : RGood s L) : p.decls = declsD (toks s) L 0 0 0 ∧ boundN p = (nodesD (toks s) L 0).map (bindF p.decls) ∧ Both2 (toks s) L p.decls (boundN p) := by
  obtain ⟨p', hp', h1, h2⟩ := hG.parse
  rw [hp] at hp'
  cases hp'
  have hb : boundN p = (nodesD (toks s) L 0).map (bindF p.decls) := by unfold boundN; rw [h2]
  refine ⟨h1, hb, ?_⟩
  rw [hb, h1]
  exact both2 (toks_F s) (toks_end s) L hG.sp hG.names
theorem links_held {s : ByteArray} {p : PS} (hs : s.size ≤ 1500) (hp : parseF s = .ok p) {L : List Dl} (hG : RGood s L) : linksF p.decls (boundN p) = routesR (toks s) L := by
  obtain ⟨h1, h2, hB⟩ := held_of hs hp hG
  exact links_eq (toks_F s) hB.N hB.sp hB.decl hB.dx (fun a d x hd hx hk => by rw [h1] at hd; have := declsD_num (toks s) L 0 0 0 a d x hd hx hk; rw [this, Nat.zero_add])
theorem text_le {s : ByteArray} (h : (textF s).1 = 0) : s.size ≤ 1500 := by
  by_cases hs : 1500 < s.size
  · unfold textF at h; rw [if_pos hs] at h; cases h
  · omega
theorem places_held {s : ByteArray} {p : PS} (hs : s.size ≤ 1500) (hp : parseF s = .ok p) {L : List Dl} (hG : RGood s L) : (eqsF p.decls).map Dc.place = plR (toks s) L := by
  obtain ⟨_, _, hB⟩ := held_of hs hp hG
  have hE : All2 (DX (toks s) (bindF p.decls) (boundN p)) (eqsF p.decls) (eqL L) := All2.filter (fun d x h => by rw [h.kind]) hB.dx
  have hk : ∀ x ∈ eqL L, x.kind ≠ 0 := fun x hx => by have := (List.mem_filter.1 hx).2; simpa using this
  have key : ∀ (l : List Dc) (m : List Dl), (∀ x ∈ m, x.kind ≠ 0) → All2 (DX (toks s) (bindF p.decls) (boundN p)) l m → l.map Dc.place = m.map (placeD (toks s)) := by
    intro l
    induction l with
    | nil => intro m _ h; cases m with
      | nil => rfl
      | cons x m => exact h.elim
    | cons d l ih => intro m hm h; cases m with
      | nil => exact h.elim
      | cons x m => rw [List.map_cons, List.map_cons, h.1.place (hm x (by simp)), ih m (fun y hy => hm y (List.mem_cons_of_mem _ hy)) h.2]
  exact key _ _ hk hE
theorem waits_held {s : ByteArray} {p : PS} (hs : s.size ≤ 1500) (hp : parseF s = .ok p) {L : List Dl} (hG : RGood s L) : waitsM (eqsF p.decls) (linksF p.decls (boundN p)) noM = waitM (toks s) L := by
  rw [waits_pl, places_held hs hp hG, links_held hs hp hG]
  rfl
end Go.Proofs.Ytmndgoapkmhglab
namespace Go.Proofs.Ytmndgoapkmhglab
open Go.RowKit
def aheadG (sc : List OpF) (i : Nat) : Nat → Option Nat
  | 0 => none
  | k + 1 => if (actF sc k).k = (actF sc i).k then some k else aheadG sc i k
def aheadP (sc : List OpF) (i : Nat) : Option Nat := aheadG sc i i
theorem aheadG_some {sc : List OpF} {i : Nat} : ∀ {k m : Nat}, aheadG sc i k = some m → m < k ∧ (actF sc m).k = (actF sc i).k ∧ ∀ t, m < t → t < k → (actF sc t).k ≠ (actF sc i).k := by
  intro k
  induction k with
  | zero => intro m h; cases h
  | succ k ih =>
    intro m h
    unfold aheadG at h
    split at h
    · rename_i hk
      cases h
      exact ⟨Nat.lt_succ_self _, hk, fun t h1 h2 => by omega⟩
    · rename_i hk
      obtain ⟨h1, h2, h3⟩ := ih h
      refine ⟨by omega, h2, fun t g1 g2 => ?_⟩
      rcases Nat.lt_succ_iff_lt_or_eq.1 g2 with h' | rfl
      · exact h3 t g1 h'
      · exact hk
theorem aheadG_none {sc : List OpF} {i : Nat} : ∀ {k : Nat}, aheadG sc i k = none → ∀ t, t < k → (actF sc t).k ≠ (actF sc i).k := by
  intro k
  induction k with
  | zero => intro _ t ht; omega
  | succ k ih =>
    intro h t ht
    unfold aheadG at h
    split at h
    · cases h
    · rename_i hk
      rcases Nat.lt_succ_iff_lt_or_eq.1 ht with h' | rfl
      · exact ih h t h'
      · exact hk
theorem laterG_is (sc : List OpF) (i : Nat) : ∀ (f k m : Nat), laterG sc i f k = (m : Int) → k ≤ m ∧ m < k + f ∧ (actF sc m).k = (actF sc i).k ∧ ∀ t, k ≤ t → t < m → (actF sc t).k ≠ (actF sc i).k := by
  intro f
  induction f with
  | zero => intro k m h; unfold laterG at h; omega
  | succ f ih =>
    intro k m h
    unfold laterG at h
    split at h
    · rename_i hk
      have : k = m := by omega
      subst this
      exact ⟨Nat.le_refl _, by omega, hk, fun t h1 h2 => by omega⟩
    · rename_i hk
      obtain ⟨h1, h2, h3, h4⟩ := ih (k + 1) m h
      refine ⟨by omega, by omega, h3, fun t g1 g2 => ?_⟩
      rcases Nat.eq_or_lt_of_le g1 with rfl | h'
      · exact hk
      · exact h4 t h' g2
theorem later_is {sc : List OpF} {i m : Nat} (hi : i < sc.length) (h : laterF sc i = (m : Int)) : i < m ∧ m < sc.length ∧ (actF sc m).k = (actF sc i).k ∧ ∀ t, i < t → t < m → (actF sc t).k ≠ (actF sc i).k := by
  obtain ⟨h1, h2, h3, h4⟩ := laterG_is sc i _ _ m h
  exact ⟨by omega, by omega, h3, fun t g1 g2 => h4 t (by omega) g2⟩
theorem ahead_later {sc : List OpF} {i j : Nat} (hj : j < sc.length) : (aheadP sc j = some i) ↔ i < j ∧ laterF sc i = (j : Int) := by
  constructor
  · intro h
    obtain ⟨h1, h2, h3⟩ := aheadG_some h
    refine ⟨h1, ?_⟩
    obtain ⟨m, e, g1, g2, g3⟩ := later_hit sc i (sc.length - (i + 1)) (i + 1) j (by omega) (by omega) h2.symm
    have hm : m = j := by
      rcases Nat.eq_or_lt_of_le g2 with h' | h'
      · exact h'
      · exact absurd (g3.trans h2) (h3 m (by omega) h')
    subst hm
    exact e
  · rintro ⟨hij, h⟩
    obtain ⟨_, _, h3, h4⟩ := later_is (by omega) h
    cases hc : aheadP sc j with
    | none => exact absurd h3.symm (aheadG_none hc i hij)
    | some k =>
      obtain ⟨g1, g2, g3⟩ := aheadG_some hc
      rcases Nat.lt_trichotomy k i with h' | h' | h'
      · exact absurd h3.symm (g3 i h' hij)
      · rw [h']
      · exact absurd (g2.trans h3) (h4 k h' g1)
theorem ahead_first {sc : List OpF} {j : Nat} : aheadP sc j = none ↔ firstF sc j = true := by
  unfold firstF firstG
  rw [List.all_eq_true]
  constructor
  · intro h i hi
    rw [List.mem_range] at hi
    rw [bne_iff_ne]
    exact aheadG_none h i hi
  · intro h
    cases hc : aheadP sc j with
    | none => rfl
    | some k =>
      obtain ⟨g1, g2, _⟩ := aheadG_some hc
      have := h k (List.mem_range.2 g1)
      rw [bne_iff_ne] at this
      exact absurd g2 this
def lastP (sc : List OpF) : Nat → Int
  | 0 => 0
  | i + 1 => (actF sc i).a
def inB (x l m : Int) : Bool := decide (l ≤ x) && decide (x ≤ m)
def bothB (o : OpF) (l m : Int) : Bool := inB o.b l m && inB o.c l m
theorem inB_iff (x l m : Int) : inB x l m = true ↔ l ≤ x ∧ x ≤ m := by simp [inB]
theorem bothB_iff (o : OpF) (l m : Int) : bothB o l m = true ↔ (l ≤ o.b ∧ o.b ≤ m) ∧ (l ≤ o.c ∧ o.c ≤ m) := by simp [bothB, inB]
def okA (ws : List Nat) (sc : List OpF) (i : Nat) : Bool := hereK ws (actF sc i).k && inB (actF sc i).a (lastP sc i) 1099511627776 && bothB (actF sc i) 0 1099511627776
def apartA (sc : List OpF) (i : Nat) : Bool := match aheadP sc i with
  | none => true
  | some k => bothB (actF sc k) 0 ((actF sc i).a - (actF sc k).a - 1)
def playP (ws : List Nat) (sc : List OpF) : Bool := decide (sc.length ≤ 400) && (List.range sc.length).all (okA ws sc) && (List.range sc.length).all (apartA sc)
def keepA (b : BdF) (sc : List OpF) (i : Nat) : Bool := bothB (actF sc i) b.dmin b.dmax && match aheadP sc i with
  | none => decide ((actF sc i).a ≤ b.tmax)
  | some k => inB ((actF sc i).a - (actF sc k).a) b.tmin b.tmax
def keepP (b : BdF) (sc : List OpF) : Bool := (List.range sc.length).all (keepA b sc)
theorem all_iff {n : Nat} {p : Nat → Bool} : (List.range n).all p = true ↔ ∀ i, i < n → p i = true := by
  rw [List.all_eq_true]
  exact ⟨fun h i hi => h i (List.mem_range.2 hi), fun h i hi => h i (List.mem_range.1 hi)⟩
theorem ok_time {ws : List Nat} {sc : List OpF} {n : Nat} (h : ∀ i, i < n → okA ws sc i = true) : ∀ i, i < n → 0 ≤ (actF sc i).a ∧ (actF sc i).a ≤ 1099511627776 := by
  intro i
  induction i with
  | zero =>
    intro hi
    have := h 0 hi
    unfold okA at this
    rw [Bool.and_eq_true, Bool.and_eq_true, inB_iff] at this
    exact this.1.2
  | succ i ih =>
    intro hi
    have := h (i + 1) hi
    unfold okA at this
    rw [Bool.and_eq_true, Bool.and_eq_true, inB_iff] at this
    have h1 : (actF sc i).a ≤ (actF sc (i + 1)).a := this.1.2.1
    have h2 := ih (by omega)
    exact ⟨by omega, this.1.2.2⟩
theorem playP_eq (ws : List Nat) (sc : List OpF) : playP ws sc = playK ws sc := by
  rw [Bool.eq_iff_iff]
  unfold playP playK
  rw [Bool.and_eq_true, Bool.and_eq_true, Bool.and_eq_true, decide_eq_true_iff, and_assoc]
  refine and_congr Iff.rfl ?_
  rw [all_iff, all_iff, all_iff]
  constructor
  · rintro ⟨h1, h2⟩ i hi
    have ht := ok_time h1
    rw [Bool.not_eq_true', badK_iff]
    have h3 := h1 i hi
    unfold okA at h3
    rw [Bool.and_eq_true, Bool.and_eq_true, inB_iff, bothB_iff] at h3
    refine ⟨h3.1.1, ht i hi, h3.2.1, h3.2.2, (back_iff sc i).2 fun j e => ?_, fun h => ?_⟩
    · subst e; exact h3.1.2.1
    · unfold nextF at h ⊢
      split at h
      · omega
      · rename_i hn
        obtain ⟨m, e, g1, g2⟩ := later_nat sc hi (by omega)
        rw [if_neg hn, e, Int.toNat_natCast]
        have h4 := h2 m g2
        unfold apartA at h4
        rw [(ahead_later g2).2 ⟨g1, e⟩] at h4
        simp only [bothB_iff] at h4
        have t1 := ht i hi
        have t2 := ht m g2
        rw [show IntKind.i64.wrap ((actF sc m).a - (actF sc i).a) = (actF sc m).a - (actF sc i).a by rw [IntKind.wrap_i64]; omega]
        omega
  · intro h
    have hk : ∀ i, i < sc.length → _ := fun i hi => (badK_iff ws sc i).1 (by have := h i hi; rwa [Bool.not_eq_true'] at this)
    refine ⟨fun i hi => ?_, fun i hi => ?_⟩
    · obtain ⟨g1, g2, g3, g4, g5, g6⟩ := hk i hi
      unfold okA
      rw [Bool.and_eq_true, Bool.and_eq_true, inB_iff, bothB_iff]
      refine ⟨⟨g1, ?_, g2.2⟩, g3, g4⟩
      cases i with
      | zero => exact g2.1
      | succ i => exact (back_iff sc (i + 1)).1 g5 i rfl
    · unfold apartA
      cases hc : aheadP sc i with
      | none => rfl
      | some k =>
        obtain ⟨g1, e⟩ := (ahead_later hi).1 hc
        obtain ⟨_, a1, b1, c1, _, h6⟩ := hk k (by omega)
        have a2 := (hk i hi).2.1
        have hm : (actF sc k).a ≤ (actF sc i).a := by
          have : ∀ d, k + d < sc.length → (actF sc k).a ≤ (actF sc (k + d)).a := by
            intro d
            induction d with
            | zero => intro _; exact Int.le_refl _
            | succ d ih =>
              intro hd
              have h7 := ih (by omega)
              have h8 := (back_iff sc (k + d + 1)).1 (hk (k + d + 1) hd).2.2.2.2.1 (k + d) rfl
              exact Int.le_trans h7 h8
          have h9 := this (i - k) (by omega)
          rwa [show k + (i - k) = i by omega] at h9
        have hw : IntKind.i64.wrap ((actF sc i).a - (actF sc k).a) = (actF sc i).a - (actF sc k).a := by rw [IntKind.wrap_i64]; omega
        have hx : nextF sc k = (actF sc i).a - (actF sc k).a := by
          unfold nextF
          rw [e, if_neg (by omega), Int.toNat_natCast, hw]
        rw [hx] at h6
        have h7 := h6 (by omega)
        simp only [bothB_iff]
        omega
theorem keepP_eq {ts : List Tk} {L : List Dl} {b : BdF} {sc : List OpF} (hP : ∀ i, i < sc.length → ActOk ts L sc i) : keepP b sc = true ↔ ∀ i, i < sc.length → badV b sc i = false := by
  have hw : ∀ i j, i < sc.length → j < sc.length → IntKind.i64.wrap ((actF sc j).a - (actF sc i).a) = (actF sc j).a - (actF sc i).a := fun i j hi hj => by
    have h1 := (hP i hi).a0
    have h2 := (hP j hj).a0
    rw [IntKind.wrap_i64]; omega
  unfold keepP
  rw [all_iff]
  constructor
  · intro h i hi
    rw [badV_iff b sc hi]
    have h1 := h i hi
    unfold keepA at h1
    rw [Bool.and_eq_true, bothB_iff] at h1
    refine ⟨fun hf => ?_, h1.1.1, h1.1.2, fun m e => ?_⟩
    · have h2 := h1.2
      rw [ahead_first.2 hf] at h2
      simpa using h2
    · obtain ⟨g1, g2, _⟩ := later_is hi e
      have h2 := h m g2
      unfold keepA at h2
      rw [Bool.and_eq_true, (ahead_later g2).2 ⟨g1, e⟩] at h2
      rw [hw i m hi g2]
      simpa only [inB_iff] using h2.2
  · intro h i hi
    have hv := fun j (hj : j < sc.length) => (badV_iff b sc hj).1 (h j hj)
    unfold keepA
    rw [Bool.and_eq_true, bothB_iff]
    refine ⟨⟨(hv i hi).ack, (hv i hi).data⟩, ?_⟩
    cases hc : aheadP sc i with
    | none => simpa using (hv i hi).first (ahead_first.1 hc)
    | some k =>
      obtain ⟨g1, e⟩ := (ahead_later hi).1 hc
      have := (hv k (by omega)).gap i e
      rw [hw k i (by omega) hi] at this
      simpa only [inB_iff] using this
def RegT (b : BdF) (ps : List Int) : (Int → Int) → List OpF → (Int → Int) → Prop
  | w, [], w' => w = w'
  | w, a :: r, w' => a.k ∈ ps ∧ a.a = w a.k ∧ (∀ q ∈ ps, a.a ≤ w q) ∧ (b.dmin ≤ a.b ∧ a.b ≤ b.dmax) ∧ (b.dmin ≤ a.c ∧ a.c ≤ b.dmax) ∧ ∃ d, b.tmin ≤ d ∧ d ≤ b.tmax ∧ RegT b ps (fun q => if q = a.k then a.a + d else w q) r w'
theorem RegT.toA {b : BdF} {ps : List Int} : ∀ (sc : List OpF) (w w' : Int → Int), RegT b ps w sc w' → RegA b ps w sc := by
  intro sc
  induction sc with
  | nil => intro w w' _; trivial
  | cons a r ih =>
    rintro w w' ⟨h1, h2, h3, h4, h5, d, h6, h7, h8⟩
    exact ⟨h1, h2, h3, h4, h5, d, h6, h7, ih _ _ h8⟩
theorem RegT.snoc {b : BdF} {ps : List Int} (a : OpF) (d : Int) : ∀ (sc : List OpF) (w w' : Int → Int), RegT b ps w sc w' → a.k ∈ ps → a.a = w' a.k → (∀ q ∈ ps, a.a ≤ w' q) → (b.dmin ≤ a.b ∧ a.b ≤ b.dmax) → (b.dmin ≤ a.c ∧ a.c ≤ b.dmax) → b.tmin ≤ d → d ≤ b.tmax →
    RegT b ps w (sc ++ [a]) (fun q => if q = a.k then a.a + d else w' q) := by
  intro sc
  induction sc with
  | nil =>
    rintro w w' rfl h1 h2 h3 h4 h5 h6 h7
    exact ⟨h1, h2, h3, h4, h5, d, h6, h7, rfl⟩
  | cons x r ih =>
    rintro w w' ⟨g1, g2, g3, g4, g5, e, g6, g7, g8⟩ h1 h2 h3 h4 h5 h6 h7
    exact ⟨g1, g2, g3, g4, g5, e, g6, g7, ih _ _ g8 h1 h2 h3 h4 h5 h6 h7⟩
section
variable {ts : List Tk} {L : List Dl} (hlp : lpR ts L = none) (hpl : ∀ x ∈ eqL L, placeD ts x < 4)
include hlp hpl
omit hlp in
theorem used_mem (q : Nat) : q ∈ usedR ts L ↔ QR ts L (q : Int) := by
  unfold usedR
  rw [List.mem_filter, List.mem_range]
  constructor
  · rintro ⟨_, h⟩
    unfold usedB plR at h
    rw [List.any_map, List.any_eq_true] at h
    obtain ⟨x, hx, e⟩ := h
    have e' : placeD ts x = q := by simpa using e
    exact ⟨x, hx, by rw [e']⟩
  · rintro ⟨x, hx, e⟩
    have e' : placeD ts x = q := by omega
    rw [← e']
    exact ⟨hpl x hx, used_of hx⟩
omit hlp hpl in
theorem used_at {q : Nat} (h : q ∈ usedR ts L) : atR ts L (q : Int) ≠ [] := by
  rw [atR_here]
  unfold hereK
  have h2 := (List.mem_filter.1 h).2
  unfold usedB at h2
  rw [List.any_eq_true] at h2 ⊢
  obtain ⟨p, hp, e⟩ := h2
  have e' : p = q := by simpa using e
  exact ⟨p, hp, by rw [e']; simp⟩
theorem calm_step {b : BdF} {sc : List OpF} {ins : List (List Int)} (hf : 1 ≤ b.tmin ∧ b.tmin ≤ b.tmax ∧ 0 ≤ b.dmin ∧ b.dmin ≤ b.dmax) (hP : ∀ i, i < sc.length → ActOk ts L sc i) (hV : ∀ i, i < sc.length → VldOk b sc i) (k : Nat)
    (hu : b.tmax + 2 * (dUp (waitM ts L) 3 : Int) * (b.tmax + b.dmax) + 2 * (k : Int) * ((dUp (waitM ts L) 3 : Int) + 1) * (b.tmax + b.dmax) ≤ horF sc ((usedR ts L).map fun (q : Nat) => (q : Int))) {q : Nat} (hq : q ∈ usedR ts L) :
    0 ≤ stepT (q : Int) k (runG (netR ts L) (valsR ts L ins) [] sc) 0 ∧ stepT (q : Int) k (runG (netR ts L) (valsR ts L ins) [] sc) 0 ≤ b.tmax + 2 * (dUp (waitM ts L) 3 : Int) * (b.tmax + b.dmax) + 2 * (k : Int) * ((dUp (waitM ts L) 3 : Int) + 1) * (b.tmax + b.dmax) := by
  have hB := valid_bound hlp hpl hf hP hV (ps := (usedR ts L).map fun (q : Nat) => (q : Int)) (fun q hq => by
    obtain ⟨x, hx, rfl⟩ := hq
    exact List.mem_map.2 ⟨placeD ts x, (used_mem hpl _).2 ⟨x, hx, rfl⟩, rfl⟩)
  have h := text_calm hpl (ins := ins) hB k hu (q : Int) ((used_mem hpl q).1 hq)
  have hA := play_acts hP
  obtain ⟨S0, f1, f2, f3⟩ := run_ext (netR ts L) (valsR ts L ins) sc []
  have hall : ∀ x ∈ runG (netR ts L) (valsR ts L ins) [] sc, x.2.a = x.1.a := fun x hx => by
    rw [f1, List.nil_append] at hx
    exact f3 x hx
  have hmap : (runG (netR ts L) (valsR ts L ins) [] sc).map Prod.fst = sc := by rw [f1, List.nil_append, f2]
  refine stepT_by (q : Int) k _ _ 0 ?_ (fun x hx => ?_) (Nat.zero_le _) (by omega)
  · have hp := hA.gap
    rw [← hmap, List.pairwise_map] at hp
    refine hp.imp_of_mem fun {x y} hx hy hxy => ?_
    rw [hall x hx, hall y hy]
    exact hxy.1
  · rw [hall x hx]
    exact hA.nn _ (by rw [← hmap]; exact List.mem_map.2 ⟨x, hx, rfl⟩)
theorem lat_between {b : BdF} (hf : 1 ≤ b.tmin ∧ b.tmin ≤ b.tmax ∧ 0 ≤ b.dmin ∧ b.dmin ≤ b.dmax) (hne : usedR ts L ≠ []) (k : Nat) :
    b.tmax + 2 * (k : Int) * (b.tmax + b.dmax) ≤ b.tmax + 2 * (dUp (waitM ts L) 3 : Int) * (b.tmax + b.dmax) + 2 * (k : Int) * ((dUp (waitM ts L) 3 : Int) + 1) * (b.tmax + b.dmax) ∧
    b.tmax + 2 * (dUp (waitM ts L) 3 : Int) * (b.tmax + b.dmax) + 2 * (k : Int) * ((dUp (waitM ts L) 3 : Int) + 1) * (b.tmax + b.dmax) ≤ b.tmax + 2 * (((usedR ts L).length : Int) - 1) * (b.tmax + b.dmax) + 2 * (k : Int) * ((usedR ts L).length : Int) * (b.tmax + b.dmax) := by
  have hd := dUp_used hlp hpl hne 3
  generalize dUp (waitM ts L) 3 = D at *
  generalize (usedR ts L).length = n at *
  obtain ⟨l, hl, hl0⟩ : ∃ l : Int, l = b.tmax + b.dmax ∧ 0 ≤ l := ⟨_, rfl, by omega⟩
  rw [← hl]
  have hD : (D : Int) + 1 ≤ (n : Int) := by omega
  have hD0 : (0 : Int) ≤ D := by omega
  have hk0 : (0 : Int) ≤ k := by omega
  have a1 : 0 ≤ 2 * (D : Int) * l := Int.mul_nonneg (by omega) hl0
  have a2 : 2 * (k : Int) * l ≤ 2 * (k : Int) * ((D : Int) + 1) * l := Int.mul_le_mul_of_nonneg_right (by
    have : 2 * (k : Int) * 1 ≤ 2 * (k : Int) * ((D : Int) + 1) := Int.mul_le_mul_of_nonneg_left (by omega) (by omega)
    omega) hl0
  have a3 : 2 * (D : Int) * l ≤ 2 * ((n : Int) - 1) * l := Int.mul_le_mul_of_nonneg_right (by omega) hl0
  have a4 : 2 * (k : Int) * ((D : Int) + 1) * l ≤ 2 * (k : Int) * (n : Int) * l := Int.mul_le_mul_of_nonneg_right (Int.mul_le_mul_of_nonneg_left hD (by omega)) hl0
  exact ⟨by omega, by omega⟩
end
end Go.Proofs.Ytmndgoapkmhglab
namespace Go.Proofs.Ytmndgoapkmhglab
open Go.RowKit
attribute [local go_sem ↓] Go.wp_at_zero Go.wp_at_succ

end Go.Proofs.Ytmndgoapkmhglab
namespace Go.Proofs.Ytmndgoapkmhglab
open Go.ChangeShapes Go.WideShapes Go.RowKit Go.Deep
theorem Try.cellsInts : Try.prog.cellsOf 38 = 1 := by kernel_rfl
theorem Try.cellsInt : Try.prog.cellsOf 3 = 1 := by kernel_rfl
theorem Try.bytesInts : Try.prog.bytesOf 38 = 24 := by kernel_rfl
theorem Try.bytesInt : Try.prog.bytesOf 3 = 8 := by kernel_rfl
theorem Try.laidOut : laidOutB Try.prog = true := by kernel_rfl
theorem plain_add (b o r : Nat) : (⟨b, o, none⟩ : Addr).add r = ⟨b, o + r, none⟩ := Addr.add_lit b o r
theorem wf_i64 {n : Int} (h : (Lit.int .i64 n).wf = true) : -9223372036854775808 ≤ n ∧ n ≤ 9223372036854775807 := by
  simp only [Lit.wf, Bool.and_eq_true, decide_eq_true_eq] at h
  exact h
theorem spot_none {w : World} {a : Addr} {v : Value} (h : w.cell? (a.add 0) = some v) : a.spot = none := by
  obtain ⟨b, o, sp⟩ := a
  simpa [Addr.add] using World.cell?_spot h
theorem weights_all {H : Type} {P : Program} {e : TypeId} {d : DataW H} : ∀ (l : List (DataW H)), d ∈ l → ∀ n ∈ d.weights P e, n ∈ DataW.weightsAll P e l := by
  intro l
  induction l with
  | nil => intro h; simp at h
  | cons x r ih =>
    intro h n hn
    simp only [DataW.weightsAll, List.mem_append]
    rcases List.mem_cons.1 h with rfl | h
    · exact .inl hn
    · exact .inr (ih h n hn)
set_option maxRecDepth 100000 in
theorem open_lists {H : Type} {enc : TypeId × Value → H} {W : World} {A0 : Option Addr} {len0 cap0 : Nat} {d : DataW H} {ps : List MemPlace} (h : DataW.Trod enc Try.prog W 0 (fun _ => true) true 31 (.slice A0 len0 cap0) d ps)
    (hw : ∀ n ∈ d.weights Try.prog 31, n ≤ reachBytes) :
    ∃ (ins : List (List Int)) (AS : Nat → Option Addr) (CS : Nat → Nat), len0 = ins.length ∧ ArgL W A0 cap0 ins AS CS ∧ ∀ l ∈ ins, ∀ x ∈ l, (Lit.int .i64 x).wf = true := by
  obtain ⟨fuel, hf⟩ := h
  have hrb : reachBytes = 140737488351232 := rfl
  rcases open_int_rows Try.underlying31 Try.underlying38 Try.underlying3 Try.cellsInts Try.cellsInt hf with ⟨hcs, hx⟩ | ⟨a, len, cap, A, L, C, Z, hcs, _, hl, hm, hx, hrows⟩
  · simp [Value.cells] at hcs
    obtain ⟨rfl, rfl, rfl⟩ := hcs
    exact ⟨[], fun _ => none, fun _ => 0, rfl, ⟨by simp, fun _ => rfl, fun hp => by simp at hp, fun r hr => by simp at hr, fun r hr => by simp at hr⟩, fun l hl => by simp at hl⟩
  · simp [Value.cells] at hcs
    obtain ⟨rfl, rfl, rfl⟩ := hcs
    simp only [Prod.mk.injEq] at hx
    obtain ⟨rfl, rfl⟩ := hx
    have hsz : (len0 + (cap0 - len0)) * 24 ≤ reachBytes := by
      have := hw ((len0 + (cap0 - len0)) * 24) (by simp [DataW.weights, Try.underlying31, Try.bytesInts])
      exact this
    have hrow : ∀ r, r < len0 → (A r ≠ none → C r * 8 ≤ reachBytes) := fun r hr hne => by
      obtain ⟨_, h1, _, h2, _, h3, _⟩ := hrows r (by omega)
      refine hw _ ?_
      simp only [DataW.weights, Try.underlying31, List.mem_cons, List.mem_append]
      refine .inr (.inl (weights_all (d := intRow .i64 (A r) (L r) (Z r)) _ (List.mem_map.2 ⟨r, List.mem_range.2 hr, rfl⟩) _ ?_))
      cases hA : A r with
      | none => exact absurd hA hne
      | some a' =>
        simp only [intRow, DataW.weights, Try.underlying38, List.mem_cons]
        refine .inl ?_
        rw [Try.bytesInt]
        simp [lits]
        omega
    have hLl : ∀ r, r < len0 → ((Z r).take (L r)).length = L r := fun r hr => by
      obtain ⟨_, h1, _, h2, _⟩ := hrows r (by omega)
      rw [List.length_take]; omega
    have hget : ∀ r, (hr : r < ((List.range len0).map fun r => (Z r).take (L r)).length) → ((List.range len0).map fun r => (Z r).take (L r))[r] = (Z r).take (L r) := fun r hr => by simp
    refine ⟨(List.range len0).map fun r => (Z r).take (L r), A, C, by simp, ⟨by simp; omega, fun h => (by cases h), fun hp => ?_, fun r hr => ?_, fun r hr => ?_⟩, fun l hl x hx => ?_⟩
    · simp at hp
      obtain ⟨b, o, sp⟩ := a
      have hs : sp = none := spot_none (hrows 0 (by omega)).1
      subst hs
      refine ⟨b, o, rfl, ?_, fun r hr => ?_⟩
      · have := World.block_lt_of_cell? _ _ (hrows 0 (by omega)).1
        simpa [Addr.add] using this
      · have hr' : r < len0 := by simpa using hr
        rw [hget r hr, hLl r hr', ← plain_add]
        exact (hrows r (by omega)).1
    · have hr' : r < len0 := by simpa using hr
      obtain ⟨_, h1, _, h2, _, h3, h4⟩ := hrows r (by omega)
      rw [hget r hr]
      have hCr : A r = none ∨ C r * 8 ≤ reachBytes := by
        by_cases hA : A r = none
        · exact .inl hA
        · exact .inr (hrow r hr' hA)
      refine ⟨⟨A r, C r, by rw [hLl r hr'], ?_, fun hp => ?_⟩, fun hA => ?_, ?_⟩
      · rw [hLl r hr']
        rcases hCr with hA | hC
        · have := h3 hA; omega
        · omega
      · rw [hLl r hr'] at hp
        cases hA : A r with
        | none => have := h3 hA; omega
        | some a' =>
          obtain ⟨_, hcell⟩ := h4 a' hA
          obtain ⟨b, o, sp⟩ := a'
          have hs : sp = none := spot_none (hcell 0 (by omega))
          subst hs
          refine ⟨b, o, rfl, ?_, fun c hc => ?_⟩
          · have := World.block_lt_of_cell? _ _ (hcell 0 (by omega))
            simpa [Addr.add] using this
          · rw [hLl r hr'] at hc
            rw [← plain_add, hcell c (by omega)]
            simp [List.getElem_take, List.getD_eq_getElem?_getD, List.getElem?_eq_getElem (show c < (Z r).length by omega)]
      · have := h3 hA
        rw [List.eq_nil_iff_length_eq_zero, hLl r hr']
        omega
      · rw [hLl r hr']
        rcases hCr with hA | hC
        · have := h3 hA; omega
        · omega
    · have hr' : r < len0 := by simpa using hr
      rw [hget r hr, hLl r hr']
      exact (hrows r (by omega)).2.1
    · obtain ⟨r, hr, rfl⟩ := List.mem_map.1 hl
      obtain ⟨_, _, _, _, h5, _⟩ := hrows r (by have := List.mem_range.1 hr; omega)
      exact h5 x (List.mem_of_mem_take hx)
end Go.Proofs.Ytmndgoapkmhglab
