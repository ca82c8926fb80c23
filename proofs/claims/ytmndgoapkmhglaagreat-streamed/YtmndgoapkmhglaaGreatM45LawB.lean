import Derived.ArgAppend
import Derived.Test.YtmndgoapkmhglaaGreatM17OrdB
import Derived.Test.YtmndgoapkmhglaaGreatM28RefF
import Derived.Test.YtmndgoapkmhglaaGreatM34RefN
import Derived.Test.YtmndgoapkmhglaaGreatM35RefU
import Derived.Test.YtmndgoapkmhglaaGreatM39TabA
/- what stands for itself, of lists and streams as they lie; what a program's Streams must hand over. -/
namespace Go.Proofs.YtmndgoapkmhglaaGreat
open Go.RowKit

theorem row_eq {xs ys : List Int} (hl : xs.length = ys.length) (h : ∀ j, (hx : j < xs.length) → (hy : j < ys.length) → xs[j] = ys[j]) : (xs == ys) = true := by
  rw [beq_iff_eq]
  exact List.ext_getElem hl h
theorem row_ne {xs ys : List Int} {j : Nat} (hx : j < xs.length) (hy : j < ys.length) (h : xs[j] ≠ ys[j]) : (xs == ys) = false := by
  rw [beq_eq_false_iff_ne]
  rintro rfl
  exact h rfl


/-- numbers as cells. -/
def iCells (l : List Int) : List Value := l.map fun x => Value.int .i64 x
theorem iCells_len (l : List Int) : (iCells l).length = l.length := by simp [iCells]
theorem iCells_get (l : List Int) (j : Nat) : (iCells l)[j]? = l[j]?.map fun x => Value.int .i64 x := by simp [iCells]

theorem Tryz.infoIntsE : (Tryz.prog.info? 34).map (fun i => (i.zero, i.size, i.bytes)) = some (some (.slice none 0 0), 1, 24) := by kernel_rfl

/-- an argument's lists, as they came in: each with its address (nil or not). -/
structure ArgL (w : World) (A : Option Addr) (C : Nat) (ins : List (List Int)) (AS : Nat → Option Addr) (CS : Nat → Nat) : Prop where
  few : ins.length ≤ 5864062014805
  nil : A = none → ins = []
  out : 0 < ins.length → ∃ b o, A = some ⟨b, o, none⟩ ∧ b < w.heap.size ∧ ∀ r, (h : r < ins.length) → w.cell? ⟨b, o + r, none⟩ = some (.slice (AS r) ins[r].length (CS r))
  row : ∀ r, (h : r < ins.length) → RowAt w (.slice (AS r) ins[r].length (CS r)) ins[r] ∧ (AS r = none → ins[r] = []) ∧ ins[r].length ≤ 17592186044416
  cap : ∀ r, (h : r < ins.length) → ins[r].length ≤ CS r

theorem ArgL.below {w w' : World} {A : Option Addr} {C : Nat} {ins : List (List Int)} {AS : Nat → Option Addr} {CS : Nat → Nat} (h : ArgL w A C ins AS CS) (hb : Below w.heap.size w w') : ArgL w' A C ins AS CS := by
  refine ⟨h.few, h.nil, fun hp => ?_, fun r hr => ⟨(h.row r hr).1.below hb, (h.row r hr).2⟩, h.cap⟩
  obtain ⟨b, o, h1, h2, h3⟩ := h.out hp
  exact ⟨b, o, h1, Nat.lt_of_lt_of_le h2 hb.size, fun r hr => (hb.cell (p := ⟨b, o + r, none⟩) h2).trans (h3 r hr)⟩
theorem ArgL.ls {w : World} {A : Option Addr} {C : Nat} {ins : List (List Int)} {AS : Nat → Option Addr} {CS : Nat → Nat} (h : ArgL w A C ins AS CS) : LsAt w (.slice A ins.length C) ins := by
  refine ⟨A, C, rfl, by have := h.few; omega, fun hp => ?_⟩
  obtain ⟨b, o, h1, h2, h3⟩ := h.out hp
  exact ⟨b, o, h1, h2, fun r hr => ⟨_, h3 r hr, (h.row r hr).1⟩⟩

/-- a row of n values. -/
def rowF (F : Nat → Nat → Int) (i n : Nat) : List Int := (List.range n).map (F i)
theorem rowF_len (F : Nat → Nat → Int) (i n : Nat) : (rowF F i n).length = n := by simp [rowF]

/-- rows that came out, each its owner's. -/
structure OwnRows (B : Nat) (w : World) (v : Value) (m n : Nat) (F : Nat → Nat → Int) (g : Nat) (RV : Nat → Value) : Prop where
  shape : ∃ (a : Option Addr) (cap : Nat), v = .slice a m cap ∧ (0 < m → a = some ⟨g, 0, none⟩)
  outer : ∀ i, i < m → w.cell? ⟨g, i, none⟩ = some (RV i)
  rows : ∀ i, i < m → w.ownsRow B 3 1 (RV i) n (iCells (rowF F i n))
  apart : ∀ i j, i < m → j < m → i ≠ j → ∀ b, (RV i).ownBlock = some b → (RV j).ownBlock ≠ some b
  ne : ∀ i, i < m → (RV i).ownBlock ≠ some g

/-- what the document's own answer to Streams is. -/
def strR (s : ByteArray) (n : Int) : Nat := if (textF s).1 ≠ 0 then (textF s).1 else if n < 0 ∨ 200 < n then 10 else 0
/-- rows that came out: each its own. -/
structure Outs (B : Nat) (w : World) (v : Value) (m n : Nat) (F : Nat → Nat → Int) : Prop where
  mat : ∃ (a : Option Addr) (g cap : Nat) (R : Nat → Nat), v = .slice a m cap ∧ (0 < m → a = some ⟨g, 0, none⟩) ∧ MatI w g m n R F ∧ (∀ i, i < m → B ≤ R i) ∧ B ≤ g

theorem Outs.own {B : Nat} {w : World} {v : Value} {m n : Nat} {F : Nat → Nat → Int} (h : Outs B w v m n F) (hn : n ≤ 1000) : ∃ g RV, OwnRows B w v m n F g RV := by
  obtain ⟨a, g, cap, R, h1, h2, h3, h4, h5⟩ := h.mat
  refine ⟨g, fun i => .slice (some ⟨R i, 0, none⟩) n n, ⟨a, cap, h1, h2⟩, h3.outer, fun i hi => ?_, fun i j hi hj hne b hb hb' => ?_, fun i hi hb => ?_⟩
  · obtain ⟨c, hc1, hc2, hc3⟩ := h3.rows i hi
    refine ⟨by rw [iCells_len, rowF_len]; omega, .inr ⟨R i, n, c, rfl, h4 i hi, hc1, Nat.le_refl _, by unfold maxLen; omega, by omega, ?_⟩⟩
    apply List.ext_getElem?
    intro j
    rw [List.getElem?_take, iCells_get]
    by_cases hj : j < n
    · rw [if_pos (by omega), Array.getElem?_toList, hc3 j hj]
      simp [rowF, hj]
    · rw [if_neg (by omega), List.getElem?_eq_none (by rw [rowF_len]; omega)]; rfl
  · simp only [Value.ownBlock, Option.some.injEq] at hb hb'
    exact hne (h3.inj i j hi hj (by omega))
  · simp only [Value.ownBlock, Option.some.injEq] at hb
    exact h3.ne i hi hb

/-- a row of the document's own answer, read. -/
theorem Outs.row {B : Nat} {w : World} {v : Value} {m n : Nat} {F : Nat → Nat → Int} (h : Outs B w v m n F) (hn : n ≤ 1000) : ∃ (a : Option Addr) (g cap : Nat) (R : Nat → Nat), v = .slice a m cap ∧ (0 < m → a = some ⟨g, 0, none⟩) ∧ (0 < m → B ≤ g ∧ g < w.heap.size) ∧ (∀ i, i < m → B ≤ R i ∧ R i < w.heap.size) ∧
    ∀ w', (∀ b, B ≤ b → b < w.heap.size → w'.heap[b]? = w.heap[b]?) → w.heap.size ≤ w'.heap.size → ∀ i, i < m → w'.cell? ⟨g, i, none⟩ = some (.slice (some ⟨R i, 0, none⟩) n n) ∧ RowAt w' (.slice (some ⟨R i, 0, none⟩) n n) (rowF F i n) := by
  obtain ⟨a, g, cap, R, h1, h2, h3, h4, h5⟩ := h.mat
  refine ⟨a, g, cap, R, h1, h2, fun hp => ⟨h5, h3.lt hp⟩, fun i hi => ⟨h4 i hi, World.rowIs.lt (h3.rows i hi)⟩, fun w' hk hs i hi => ⟨?_, _, _, by rw [rowF_len], by rw [rowF_len]; omega, fun hp => ⟨R i, 0, rfl, Nat.lt_of_lt_of_le (World.rowIs.lt (h3.rows i hi)) hs, fun c hc => ?_⟩⟩⟩
  · exact (World.cell?_of_block (w := w) (a := ⟨g, i, none⟩) (hk g h5 (h3.lt (by omega)))).trans (h3.outer i hi)
  · rw [rowF_len] at hc
    have h6 : w'.rowIs (R i) 3 n (fun j => .int .i64 (F i j)) := (h3.rows i hi).of_block (hk _ (h4 i hi) (World.rowIs.lt (h3.rows i hi)))
    rw [Nat.zero_add, h6.cell hc]
    simp [rowF]

theorem own_row {B : Nat} {w : World} {v : Value} {n : Nat} {xs : List Int} (h : w.ownsRow B 3 1 v n (iCells xs)) (hn : n ≤ 1000) (hl : xs.length = n) : RowAt w v xs := by
  rcases h.2 with ⟨rfl, h0⟩ | ⟨g, cap, cur, rfl, hb, hg, h1, h2, h3, h4⟩
  · exact ⟨none, 0, by rw [hl, h0], by omega, fun hp => by omega⟩
  · refine ⟨_, _, by rw [hl], by omega, fun hp => ⟨g, 0, rfl, (Array.getElem?_eq_some_iff.1 hg).1, fun c hc => ?_⟩⟩
    rw [Nat.zero_add, h.cellAt c (by omega), iCells_get, List.getElem?_eq_getElem hc]; rfl
theorem own_of {B : Nat} {w w' : World} {e : TypeId} {size n : Nat} {v : Value} {xs : List Value} (h : w.ownsRow B e size v n xs) (hk : ∀ b, v.ownBlock = some b → w'.heap[b]? = w.heap[b]?) : w'.ownsRow B e size v n xs := by
  refine ⟨h.1, ?_⟩
  rcases h.2 with h0 | ⟨g, cap, cur, rfl, hb, hg, h1⟩
  · exact .inl h0
  · exact .inr ⟨g, cap, cur, rfl, hb, (hk g rfl).trans hg, h1⟩

/-- what a program's Streams answers. -/
def StrQ (s : ByteArray) (ins : List (List Int)) (n : Int) (B : Nat) (w' : World) (v : Value) : Prop :=
  if strR s n = 0 then ∀ L, RGood s L → Right (toks s) L → ∃ g RV, OwnRows B w' v (eqL L).length n.toNat (sol (toks s) L ins) g RV else ∃ a cap, v = .slice a 0 cap


end Go.Proofs.YtmndgoapkmhglaaGreat

/- Plain mathematics: a right text, as the program holds it. -/
namespace Go.Proofs.YtmndgoapkmhglaaGreat

/-- a right text, as the program holds it. -/
theorem held_of {s : ByteArray} {p : PS} (_hs : s.size ≤ 1500) (hp : parseF s = .ok p) {L : List Dl} (hG : RGood s L) : p.decls = declsD (toks s) L 0 0 0 ∧ boundN p = (nodesD (toks s) L 0).map (bindF p.decls) ∧ Both2 (toks s) L p.decls (boundN p) := by
  obtain ⟨p', hp', h1, h2⟩ := hG.parse
  rw [hp] at hp'
  cases hp'
  have hb : boundN p = (nodesD (toks s) L 0).map (bindF p.decls) := by unfold boundN; rw [h2]
  refine ⟨h1, hb, ?_⟩
  rw [hb, h1]
  exact both2 (toks_F s) (toks_end s) L hG.sp hG.names

theorem links_held {s : ByteArray} {p : PS} (hs : s.size ≤ 1500) (hp : parseF s = .ok p) {L : List Dl} (hG : RGood s L) : linksF p.decls (boundN p) = routesR (toks s) L := by
  obtain ⟨h1, h2, hB⟩ := held_of hs hp hG
  exact links_eq (toks_F s) hB.N hB.sp hB.decl hB.dx (fun a d x hd hx hk => by rw [h1] at hd; have := declsD_num (toks s) L 0 0 0 a d x hd hx hk; rw [this, Nat.zero_add])

theorem text_le {s : ByteArray} (h : (textF s).1 = 0) : s.size ≤ 1500 := by
  by_cases hs : 1500 < s.size
  · unfold textF at h; rw [if_pos hs] at h; cases h
  · omega

end Go.Proofs.YtmndgoapkmhglaaGreat

/- order.Of: ready, and the walk. -/
namespace Go.Proofs.YtmndgoapkmhglaaGreat
open Go.RowKit
attribute [local go_sem ↓] Go.wp_at_zero Go.wp_at_succ

/-- a row of truths as it lies. -/
theorem ready_any (w : World) (g r n ch cd : Nat) (H D : Nat → Bool) (hg : w.rowIs g 4 n (fun j => .bool (H j))) (hr : w.rowIs r 4 n (fun j => .bool (D j))) (hn : n ≤ 1501) :
    Calls Tryz.prog 66 #[.slice (some ⟨g, 0, none⟩) n ch, .slice (some ⟨r, 0, none⟩) n cd] w fun e w' => e = .returned (.bool (decide (∀ j, j < n → H j = true → D j = true))) ∧ w = w' := by
  go_enter Tryz.func66, Tryz.ntmps66
  go_wp2
  go_loopw [9] (fun vi wr => ∃ i : Nat, i ≤ n ∧ vi = .int .i64 i ∧ w = wr ∧ ∀ j, j < i → H j = true → D j = true) (fun vi _ => n - (intOf vi).toNat)
  case atStart => exact ⟨0, Nat.zero_le _, rfl, rfl, fun j hj => by omega⟩
  case round =>
    obtain ⟨i, hi, rfl, rfl, hall⟩ := hrel
    by_cases hlt : i < n
    · have x1 := hg.cell hlt
      have x2 := hr.cell hlt
      have j1 : (0 : Int) ≤ (i : Int) := by omega
      have j2 : (i : Int) < (n : Int) := by omega
      have HALL := hide hall
      clear hall
      by_cases hh : H i = true
      · by_cases hd : D i = true
        · go_wp2
          go_roundw
          case rel => exact ⟨i + 1, by omega, by go_num, by first | rfl | trivial, fun j hj h => by rcases Nat.lt_succ_iff_lt_or_eq.1 hj with h' | rfl; exact HALL.out j h' h; exact hd⟩
          case measure => simp [intOf]; omega
        · have hd' : D i = false := by simpa using hd
          have HF : Hid (decide (∀ j, j < n → H j = true → D j = true) = false) := hide (by rw [decide_eq_false_iff_not]; exact fun h => hd (h i hlt hh))
          clear hd
          go_wp2
          go_ret
          exact ⟨by rw [HF.out]; rfl, rfl⟩
      · have hh' : H i = false := by simpa using hh
        have HNO := hide hh
        clear hh
        go_wp2
        go_roundw
        case rel => exact ⟨i + 1, by omega, by go_num, by first | rfl | trivial, fun j hj h => by rcases Nat.lt_succ_iff_lt_or_eq.1 hj with h' | rfl; exact HALL.out j h' h; exact absurd h HNO.out⟩
        case measure => simp [intOf]; omega
    · have HF : Hid (decide (∀ j, j < n → H j = true → D j = true) = true) := hide (by rw [decide_eq_true_iff]; exact fun j hj => hall j (by omega))
      clear hall
      go_wp2
      go_ret
      exact ⟨by rw [HF.out]; rfl, rfl⟩

end Go.Proofs.YtmndgoapkmhglaaGreat

/- Plain mathematics: a text that is found right, or right but for its places, has its parts. -/
namespace Go.Proofs.YtmndgoapkmhglaaGreat

theorem read_zero {ts : List Tk} {L : List Dl} (h : (readR ts L).1 = 0) : manyR ts L = none ∧ namesR ts L = none ∧ typesR ts L = none ∧ cycR ts L = none ∧ lpR ts L = none := by
  unfold readR at h
  cases h1 : manyR ts L with
  | some a => rw [h1] at h; cases h
  | none =>
    cases h2 : namesR ts L with
    | some a => rw [h1, h2] at h; cases h
    | none =>
      cases h3 : typesR ts L with
      | some a => rw [h1, h2, h3] at h; cases h
      | none =>
        cases h4 : cycR ts L with
        | some a => rw [h1, h2, h3, h4] at h; cases h
        | none =>
          cases h5 : lpR ts L with
          | some a => rw [h1, h2, h3, h4, h5] at h; cases h
          | none => exact ⟨rfl, rfl, rfl, rfl, rfl⟩

theorem text_small {s : ByteArray} (h : (textF s).1 ≠ 1) : s.size ≤ 1500 := by
  by_cases hs : 1500 < s.size
  · unfold textF at h; rw [if_pos hs] at h; exact absurd rfl h
  · omega

theorem rok_of {s : ByteArray} {L : List Dl} (hs : s.size ≤ 1500) (h : Spell (toks s) L 0) : ROk (toks s) L :=
  ⟨toks_F s, toks_end s, (toks_ok s hs).1, (toks_ok s hs).pos, h⟩

theorem good_text {s : ByteArray} (h : (textF s).1 = 0) : ∃ L, RGood s L ∧ Right (toks s) L ∧ ROk (toks s) L := by
  have hs := text_small (s := s) (by omega)
  rcases text_read s hs with ⟨k, _, ht, _⟩ | ⟨L, hsp, _, ht, hp⟩
  · rw [ht] at h; cases h
  · rw [ht] at h
    obtain ⟨h1, h2, h3, h4, h5⟩ := read_zero h
    exact ⟨L, ⟨h1, h2, h3, h4, h5, hsp, hp⟩, right_of (toks_F s) hsp h1 h2 h4, rok_of hs hsp⟩

end Go.Proofs.YtmndgoapkmhglaaGreat

namespace Go.Proofs.YtmndgoapkmhglaaGreat
open Go.RowKit
attribute [local go_sem ↓] Go.wp_at_zero Go.wp_at_succ

set_option maxHeartbeats 2000000 in
set_option maxRecDepth 100000 in
theorem rtypes_any (w : World) (q g cap : Nat) (ts : List Tk) (L : List Dl) (vE vA vI vQ : Value) (h : RProg w q g cap ts L vE vA vI vQ) (ho : ROk ts L) (hp : ∀ i, (tkAt ts i).pos ≤ 1500) :
    Calls Tryz.prog 44 #[.pointer (some ⟨q, 0, none⟩)] w fun e w' => e = .returned (optI (typesR ts L)) ∧ Below w.heap.size w w' := by
  obtain ⟨hm1, hm2, hm3⟩ := ho.many
  obtain ⟨av, cv, rfl, hsh⟩ := own_shape h.eqs
  have hlen := ho.len
  have HR := hide h
  have HO := hide ho
  have HSH := hide hsh
  have HWR := hide (fun n t i wt W => rwrong_any q g cap ts L vE vA vI (.slice av (eqL L).length cv) ho hp n t i wt W)
  clear h ho hsh hp
  go_enter Tryz.func44, Tryz.ntmps44
  go_wp2
  go_loopw [3] (fun vi wr => ∃ m : Nat, m ≤ (eqL L).length ∧ vi = .int .i64 m ∧ Below w.heap.size w wr ∧ ((eqL L).drop m).findSome? (fun x => wrongR ts L x.t (x.i + 5) (wB (x.kind == 2))) = typesR ts L) (fun vi _ => (eqL L).length - (intOf vi).toNat)
  case atStart => exact ⟨0, Nat.zero_le _, rfl, Below.refl _ _, rfl⟩
  case round =>
    obtain ⟨m, hm, rfl, hbel, hrec⟩ := hrel
    have HRP := hide (HR.out.below hbel)
    have c4 := HRP.out.c4
    by_cases hml : m < (eqL L).length
    · obtain ⟨gq, rfl, _, hgq2⟩ := HSH.out (by omega)
      obtain ⟨x, hx⟩ : ∃ x, x = (eqL L)[m]'hml := ⟨_, rfl⟩
      obtain ⟨hxm, hxk, hxs, hxl, _⟩ := HO.out.eq (x := x) (by rw [hx]; exact List.getElem_mem hml)
      obtain ⟨e1, e2, _⟩ := rdc_truth ts hxk
      obtain ⟨_, _, _, y3, _, y5⟩ := rd_later HR.out.eqs hbel hgq2 hml (rdc ts x) (by rw [hx])
      rw [e1] at y3
      rw [e2] at y5
      rw [List.drop_eq_getElem_cons hml, ← hx, List.findSome?_cons] at hrec
      have HCALL := hide (fun W hW => HWR.out x.t.size x.t (x.i + 5) (wB (x.kind == 2)) W (Nat.le_refl _) hW hxs hxl)
      have HV : Hid (∀ v, wrongR ts L x.t (x.i + 5) (wB (x.kind == 2)) = some v → typesR ts L = some v) := hide (fun v hv => by
        have h := hrec
        rw [hv] at h
        exact h.symm)
      have HN : Hid (wrongR ts L x.t (x.i + 5) (wB (x.kind == 2)) = none → ((eqL L).drop (m + 1)).findSome? (fun x => wrongR ts L x.t (x.i + 5) (wB (x.kind == 2))) = typesR ts L) := hide (fun hv => by
        have h := hrec
        rw [hv] at h
        exact h)
      generalize wrongR ts L x.t (x.i + 5) (wB (x.kind == 2)) = o at HCALL HV HN
      have j3 : (0 : Int) ≤ (m : Int) := by omega
      have j4 : (m : Int) < ((eqL L).length : Int) := by omega
      obtain ⟨bd, hbd⟩ : ∃ bd, bd = x.i + 5 := ⟨_, rfl⟩
      rw [← hbd] at y5 HCALL
      generalize (x.kind == 2) = tr at y3 HCALL
      clear hrec hx hxm hxk hxs hxl e1 e2 hbd
      cases tr
      all_goals
        simp only [wB] at HCALL
        go_wp2_with fail
        refine (HCALL.out _ HRP.out).mono ?_
        rintro e w3 ⟨rfl, hb3⟩
        have HB4 : Hid (Below w.heap.size w w3) := hide (hbel.trans (hb3.mono hbel.size))
        clear hb3
        cases o with
        | none =>
          have HN2 := hide (HN.out rfl)
          simp only [optI]
          clear HV HN HCALL
          go_wp2
          go_roundw
          case rel => exact ⟨m + 1, by omega, by go_num, HB4.out, HN2.out⟩
          case measure => simp [intOf]; omega
        | some v =>
          have HV2 := hide (HV.out v rfl)
          simp only [optI]
          have z1 : (0 : Int) ≤ (v : Int) := by omega
          clear HV HN HCALL
          go_wp2
          go_ret
          exact ⟨by rw [HV2.out]; rfl, HB4.out⟩
    · have em : m = (eqL L).length := by omega
      subst em
      rw [List.drop_length] at hrec
      have HRC : Hid (typesR ts L = none) := hide hrec.symm
      have z1 : ¬ ((eqL L).length : Int) < ((eqL L).length : Int) := by omega
      clear hrec
      go_wp2
      go_ret
      exact ⟨by rw [HRC.out]; rfl, hbel⟩

end Go.Proofs.YtmndgoapkmhglaaGreat

/- the statements' own helpers: same, full. -/
namespace Go.Proofs.YtmndgoapkmhglaaGreat
open Go.RowKit
attribute [local go_sem ↓] Go.wp_at_zero Go.wp_at_succ

set_option maxHeartbeats 1000000 in
theorem lsame_any (w : World) (va vb : Value) (xs ys : List Int) (ha : RowAt w va xs) (hb : RowAt w vb ys) :
    Calls Tryz.prog 9 #[va, vb] w fun e w' => e = .returned (.bool (xs == ys)) ∧ Below w.heap.size w w' := by
  obtain ⟨A, C, rfl, hm, hc⟩ := ha
  obtain ⟨A', C', rfl, hm', hc'⟩ := hb
  by_cases hl : xs.length = ys.length
  · have q1 : ((xs.length : Int) != (ys.length : Int)) = false := by rw [hl]; simp
    have HA := hide hc
    have HB := hide hc'
    have HL := hide hl
    clear hc hc' hl
    go_enter Tryz.func9, Tryz.ntmps9
    go_wp2
    go_loopw [5] (fun vi wr => ∃ m : Nat, m ≤ xs.length ∧ vi = .int .i64 m ∧ Below w.heap.size w wr ∧ ∀ j, j < m → (hx : j < xs.length) → (hy : j < ys.length) → xs[j] = ys[j]) (fun vi _ => xs.length - (intOf vi).toNat)
    case atStart => exact ⟨0, Nat.zero_le _, rfl, Below.refl _ _, fun j hj => by omega⟩
    case round =>
      obtain ⟨m, hm, rfl, hbx, hrec⟩ := hrel
      have HRC := hide hrec
      clear hrec
      by_cases hml : m < xs.length
      · obtain ⟨b, o, rfl, hb, hr⟩ := HA.out (by omega)
        obtain ⟨b', o', rfl, hb', hr'⟩ := HB.out (by have := HL.out; omega)
        have hmy : m < ys.length := by have := HL.out; omega
        have x1 := (hbx.cell (p := ⟨b, o + m, none⟩) hb).trans (hr m hml)
        have x2 := (hbx.cell (p := ⟨b', o' + m, none⟩) hb').trans (hr' m hmy)
        have j3 : (0 : Int) ≤ (m : Int) := by omega
        have j4 : (m : Int) < (xs.length : Int) := by omega
        have j5 : (m : Int) < (ys.length : Int) := by omega
        by_cases he : xs[m] = ys[m]
        · have HN : Hid (∀ j, j < m + 1 → (hx : j < xs.length) → (hy : j < ys.length) → xs[j] = ys[j]) := hide (fun j hj hx hy => by
            by_cases e : j = m
            · subst e; exact he
            · exact HRC.out j (by omega) hx hy)
          have q2 : (xs[m] != ys[m]) = false := by rw [he]; simp
          generalize xs[m] = u at x1 q2
          generalize ys[m] = v at x2 q2
          clear hr hr' he
          go_wp2_with fail
          go_quiet (fail)
          go_wp2
          go_roundw
          case rel => exact ⟨m + 1, by omega, by go_num, by first | exact hbx | exact below_drewN hbx _, HN.out⟩
          case measure => simp [intOf]; omega
        · have HN := hide (row_ne hml hmy he)
          have q2 : (xs[m] != ys[m]) = true := by rw [bne_iff_ne]; exact he
          generalize xs[m] = u at x1 q2
          generalize ys[m] = v at x2 q2
          clear hr hr' he
          go_wp2_with fail
          go_quiet (fail)
          go_wp2
          go_ret
          exact ⟨by rw [HN.out]; rfl, by first | exact hbx | exact below_drewN hbx _⟩
      · have em : m = xs.length := by omega
        subst em
        have HN := hide (row_eq HL.out (fun j hx hy => HRC.out j hx hx hy))
        have z1 : ¬ (xs.length : Int) < (xs.length : Int) := by omega
        clear HRC
        go_wp2
        go_ret
        exact ⟨by rw [HN.out]; rfl, hbx⟩
  · have q1 : ((xs.length : Int) != (ys.length : Int)) = true := by rw [bne_iff_ne]; omega
    have HN : Hid ((xs == ys) = false) := hide (by rw [beq_eq_false_iff_ne]; rintro rfl; exact hl rfl)
    clear hc hc' hl
    go_enter Tryz.func9, Tryz.ntmps9
    go_wp2
    go_ret
    exact ⟨by rw [HN.out]; rfl, Below.refl _ _⟩

set_option maxHeartbeats 1000000 in
theorem lfull_any (w : World) (va : Value) (xs : List Int) (mk : Int) (ha : RowAt w va xs) :
    Calls Tryz.prog 25 #[va, .int .i64 mk] w fun e w' => e = .returned (.bool (xs.all (· == mk))) ∧ Below w.heap.size w w' := by
  obtain ⟨A, C, rfl, hm, hc⟩ := ha
  have HA := hide hc
  clear hc
  go_enter Tryz.func25, Tryz.ntmps25
  go_wp2
  go_loopw [5] (fun vi wr => ∃ m : Nat, m ≤ xs.length ∧ vi = .int .i64 m ∧ Below w.heap.size w wr ∧ ∀ j, j < m → (hx : j < xs.length) → xs[j] = mk) (fun vi _ => xs.length - (intOf vi).toNat)
  case atStart => exact ⟨0, Nat.zero_le _, rfl, Below.refl _ _, fun j hj => by omega⟩
  case round =>
    obtain ⟨m, hm, rfl, hbx, hrec⟩ := hrel
    have HRC := hide hrec
    clear hrec
    by_cases hml : m < xs.length
    · obtain ⟨b, o, rfl, hb, hr⟩ := HA.out (by omega)
      have x1 := (hbx.cell (p := ⟨b, o + m, none⟩) hb).trans (hr m hml)
      have j3 : (0 : Int) ≤ (m : Int) := by omega
      have j4 : (m : Int) < (xs.length : Int) := by omega
      by_cases he : xs[m] = mk
      · have HN : Hid (∀ j, j < m + 1 → (hx : j < xs.length) → xs[j] = mk) := hide (fun j hj hx => by
          by_cases e : j = m
          · subst e; exact he
          · exact HRC.out j (by omega) hx)
        have q2 : (xs[m] != mk) = false := by rw [he]; simp
        generalize xs[m] = u at x1 q2
        clear hr he
        go_wp2
        go_roundw
        case rel => exact ⟨m + 1, by omega, by go_num, by first | exact hbx | exact below_drewN hbx _, HN.out⟩
        case measure => simp [intOf]; omega
      · have HN : Hid (xs.all (· == mk) = false) := hide (by rw [List.all_eq_false]; exact ⟨xs[m], List.getElem_mem hml, by simpa using he⟩)
        have q2 : (xs[m] != mk) = true := by rw [bne_iff_ne]; exact he
        generalize xs[m] = u at x1 q2
        clear hr he
        go_wp2
        go_ret
        exact ⟨by rw [HN.out]; rfl, by first | exact hbx | exact below_drewN hbx _⟩
    · have em : m = xs.length := by omega
      subst em
      have HN : Hid (xs.all (· == mk) = true) := hide (by
        rw [List.all_eq_true]
        intro x hx
        obtain ⟨j, hj, rfl⟩ := List.getElem_of_mem hx
        rw [HRC.out j hj hj]; simp)
      have z1 : ¬ (xs.length : Int) < (xs.length : Int) := by omega
      clear HRC
      go_wp2
      go_ret
      exact ⟨by rw [HN.out]; rfl, hbx⟩

end Go.Proofs.YtmndgoapkmhglaaGreat

/- the statements' own helpers: append onto a list that is kept. -/
namespace Go.Proofs.YtmndgoapkmhglaaGreat
open Go.RowKit

/-- a list whose cells are all one mark, in blocks of a kind. -/
def AllM (w : World) (K : Nat → Prop) (v : Value) (n : Nat) (mk : Int) : Prop :=
  ∃ (A : Option Addr) (C : Nat), v = .slice A n C ∧ n ≤ 35184372088832 ∧ (0 < n → ∃ b o, A = some ⟨b, o, none⟩ ∧ K b ∧ b < w.heap.size ∧ ∀ c, c < n → w.cell? ⟨b, o + c, none⟩ = some (.int .i64 mk))

theorem AllM.row {w : World} {K : Nat → Prop} {v : Value} {n : Nat} {mk : Int} (h : AllM w K v n mk) : RowAt w v (List.replicate n mk) := by
  obtain ⟨A, C, rfl, hm, hc⟩ := h
  refine ⟨A, C, by rw [List.length_replicate], by rw [List.length_replicate]; exact hm, fun hp => ?_⟩
  rw [List.length_replicate] at hp
  obtain ⟨b, o, h1, _, h3, h4⟩ := hc hp
  exact ⟨b, o, h1, h3, fun c hc => by rw [List.getElem_replicate]; exact h4 c (by simpa using hc)⟩
theorem AllM.keep {w w' : World} {K K' : Nat → Prop} {v : Value} {n : Nat} {mk : Int} (h : AllM w K v n mk) (hs : w.heap.size ≤ w'.heap.size) (hk : ∀ b, b < w.heap.size → K b → K' b)
    (hc : ∀ b, b < w.heap.size → K b → ∀ c, w.cell? ⟨b, c, none⟩ = some (.int .i64 mk) → w'.cell? ⟨b, c, none⟩ = some (.int .i64 mk)) : AllM w' K' v n mk := by
  obtain ⟨A, C, rfl, hm, h⟩ := h
  refine ⟨A, C, rfl, hm, fun hp => ?_⟩
  obtain ⟨b, o, h1, h2, h3, h4⟩ := h hp
  exact ⟨b, o, h1, hk b h3 h2, Nat.lt_of_lt_of_le h3 hs, fun c hcc => hc b h3 h2 _ (h4 c hcc)⟩
theorem AllM.below {w w' : World} {K : Nat → Prop} {v : Value} {n : Nat} {mk : Int} (h : AllM w K v n mk) (hb : Below w.heap.size w w') : AllM w' K v n mk :=
  h.keep hb.size (fun _ _ hk => hk) (fun b hb' _ c hc => (hb.cell (p := ⟨b, c, none⟩) hb').trans hc)

theorem grown_cell {w w' : World} {row : Option Nat} (h : w.grownBy w' row) {b c : Nat} (hb : b < w.heap.size) (hr : row ≠ some b) : w'.cell? ⟨b, c, none⟩ = w.cell? ⟨b, c, none⟩ :=
  World.cell?_of_block (w := w) (a := ⟨b, c, none⟩) (h.block b hb (Ne.symm hr))

theorem own_allM {w : World} {base : Nat} {e : TypeId} {v : Value} {n : Nat} {mk : Int} (hn : n ≤ 35184372088832) (h : w.ownsRow base e 1 v n (List.replicate n (.int .i64 mk))) (K : Nat → Prop) (hK : ∀ b, v.ownBlock = some b → K b) : AllM w K v n mk := by
  rcases h.2 with ⟨rfl, rfl⟩ | ⟨g, cap, cur, rfl, hb, hg, h1, h2, h3, h4⟩
  · exact ⟨none, 0, rfl, hn, fun hp => by omega⟩
  · refine ⟨some ⟨g, 0, none⟩, cap, rfl, hn, fun hp => ⟨g, 0, rfl, hK g rfl, (Array.getElem?_eq_some_iff.1 hg).1, fun c hc => ?_⟩⟩
    rw [h.cellAt (0 + c) (by omega), List.getElem?_replicate, if_pos (by omega)]

theorem setCells_block {b : Nat} : ∀ (vs : List Value) (o : Nat) (w : World) (cs : Array Value) (t : TypeId), w.heap[b]? = some (.cells cs t (0, 0)) →
    ∃ cs', (w.setCells b o vs).heap[b]? = some (.cells cs' t (0, 0)) ∧ cs'.size = cs.size ∧ cs'.toList.take o = cs.toList.take o ∧ (w.setCells b o vs).heap.size = w.heap.size ∧ (∀ k, k ≠ b → (w.setCells b o vs).heap[k]? = w.heap[k]?) ∧ (w.setCells b o vs).os = w.os ∧ (w.setCells b o vs).tape = w.tape ∧ (w.setCells b o vs).output = w.output := by
  intro vs
  induction vs with
  | nil => intro o w cs t h; exact ⟨cs, h, rfl, rfl, rfl, fun _ _ => rfl, rfl, rfl, rfl⟩
  | cons v r ih =>
    intro o w cs t h
    obtain ⟨cs', h1, h2, h3, h4, h5, h6, h7, h8⟩ := ih (o + 1) (w.setCell ⟨b, o, none⟩ v) (cs.setIfInBounds o v) t (heap_setCell_same w b o cs t v h)
    refine ⟨cs', h1, by simpa using h2, ?_, by rw [World.setCells, h4]; simp, fun k hk => (h5 k hk).trans (heap_setCell_other w ⟨b, o, none⟩ k v hk), h6, h7, h8⟩
    have e : cs'.toList.take o = (cs'.toList.take (o + 1)).take o := by rw [List.take_take, Nat.min_eq_left (by omega)]
    rw [e, h3, List.take_take, Nat.min_eq_left (by omega), Array.toList_setIfInBounds, List.take_set_of_le (by omega)]

/-- append of marks onto a list that is full of them, and stays. -/
theorem append_marks {P : Program} (w : World) {ops : Array Oper} {rest : List Oper} {o : Oper} {a : Act} {Q : Exit → Act → World → Prop}
    (hg : o.guard = none) (s x : Operand) (t : TypeId) (hop : o.op = Op.call { callee := Callee.builtin Builtin.append, args := #[s, x], argTypes := #[t, t] })
    (e : TypeId) (i : TypeInfo) (z : Value) (h1 : P.underlying t = some (.slice e)) (h2 : P.info? e = some i) (h3 : i.zero = some z) (h4 : i.size = 1) (h5 : i.bytes = 8) (h6 : z.cells.size = 1)
    (base n m : Nat) (mk : Int) (v : Value) (hs : a.eval s = v) (hown : w.ownsRow base e 1 v n (List.replicate n (.int .i64 mk)))
    (ad : Addr) (c : Nat) (hx : a.eval x = .slice (some ad) m c) (hc : ∀ j, j < m → w.cell? (ad.add j) = some (.int .i64 mk)) (hm : 0 < m) (hnm : n + m ≤ 1000000)
    (h : ∀ v' w', w'.ownsRow base e 1 v n (List.replicate n (.int .i64 mk)) → w.grownBy w' v.ownBlock → (∀ b c, w.cell? ⟨b, c, none⟩ = some (.int .i64 mk) → w'.cell? ⟨b, c, none⟩ = some (.int .i64 mk)) →
      AllM w' (fun b => v.ownBlock = some b ∨ w.heap.size ≤ b) v' (n + m) mk → (∃ A C, v' = .slice A (n + m) C) → wpList P ops Q rest (a.put o.dst v') w') :
    wpList P ops Q (o :: rest) a w := by
  have news : ∀ j u, (List.replicate m (Value.int .i64 mk))[j]? = some u → w.cell? (ad.add j) = some u := fun j u hj => by
    rw [List.getElem?_replicate] at hj
    split at hj
    · cases hj; exact hc j (by assumption)
    · cases hj
  have one : ∀ u ∈ List.replicate m (Value.int .i64 mk), u.oneCell' = true := fun u hu => by rw [(List.mem_replicate.1 hu).2]; rfl
  have rep : List.replicate n (Value.int .i64 mk) ++ List.replicate m (.int .i64 mk) = List.replicate (n + m) (.int .i64 mk) := List.replicate_append_replicate
  have big : n + m ≤ maxLen := by unfold maxLen; omega
  have grow : ∀ v' w', w'.ownsRow w.heap.size e 1 v' (n + m) (List.replicate n (.int .i64 mk) ++ List.replicate m (.int .i64 mk)) → w.grownBy w' none → wpList P ops Q rest (a.put o.dst v') w' := fun v' w' hown' hgr => by
    rw [rep] at hown'
    obtain ⟨A, C, hv', _⟩ := own_shape hown'
    refine h v' w' (hown.kept hgr ?_) ⟨hgr.os, hgr.tape, hgr.output, hgr.size, fun k hk _ => hgr.block k hk (by simp)⟩ (fun b c hcell => ?_) (own_allM (by omega) hown' _ (fun b hb => .inr (hown'.lt b hb).1)) ⟨A, C, hv'⟩
    · cases v.ownBlock with
      | none => exact .inl rfl
      | some k => exact .inr (by simp)
    · rw [grown_cell hgr (World.block_lt_of_cell? _ _ hcell) (by simp)]; exact hcell
  rcases hown.2 with ⟨rfl, rfl⟩ | ⟨g, cap, cur, rfl, hb, hgc, hnc, hcm, hcs, htake⟩
  · exact wpList_append_grows w hg s x t hop e i z 1 8 h1 h2 h3 h4 h5 h6 (by omega) none 0 0 [] hs (fun _ => ⟨rfl, rfl⟩) rfl (fun b hb => by cases hb) ad m c (List.replicate m (.int .i64 mk)) hx (by simp) news one (by omega) big (by omega) (fun v' w' ho hgr => grow v' w' (by simpa using ho) hgr)
  · refine wpList_append_arg w hg s x t hop e i z 1 8 h1 h2 h3 h4 h5 h6 (by omega) g 0 n cap (List.replicate n (.int .i64 mk)) hs (by simp) (fun j u hj => ?_) ad m c (List.replicate m (.int .i64 mk)) hx (by simp) news one ?_ big (by omega) ?_ (fun _ v' w' ho hgr => grow v' w' ho hgr)
    · rw [Nat.zero_add, hown.cellAt j (by have := (List.getElem?_eq_some_iff.1 hj).1; simpa using this)]; exact hj
    · intro hr j hj
      rw [List.length_replicate] at hj
      refine ⟨?_, hown.frozenAt _⟩
      rw [cell_of_row w g _ _ _ _ hgc, Array.getElem?_eq_getElem (by omega)]
      rfl
    · intro hr
      obtain ⟨cs', k1, k2, k3, k4, k5, k6, k7, k8⟩ := setCells_block (List.replicate m (Value.int .i64 mk)) (0 + n * 1) w cur e hgc
      have hin : ∀ j, j < m → (w.setCells g (0 + n * 1) (List.replicate m (Value.int .i64 mk))).cell? ⟨g, 0 + n * 1 + j, none⟩ = some (.int .i64 mk) := fun j hj => by
        rw [World.cell?_setCells_in g _ _ w (fun j hj => by rw [List.length_replicate] at hj; rw [cell_of_row w g _ _ _ _ hgc, Array.getElem?_eq_getElem (by omega)]; rfl) j (by simpa using hj), List.getElem_replicate]
      have keep : ∀ b c, w.cell? ⟨b, c, none⟩ = some (.int .i64 mk) → (w.setCells g (0 + n * 1) (List.replicate m (Value.int .i64 mk))).cell? ⟨b, c, none⟩ = some (.int .i64 mk) := fun b c hcell => by
        by_cases hh : b = g ∧ 0 + n * 1 ≤ c ∧ c < 0 + n * 1 + m
        · obtain ⟨rfl, hc1, hc2⟩ := hh
          have := hin (c - (0 + n * 1)) (by omega)
          rwa [show 0 + n * 1 + (c - (0 + n * 1)) = c by omega] at this
        · rw [World.cell?_setCells_out g _ _ w ⟨b, c, none⟩ (fun hb' _ => by
            have hb'' : b = g := hb'
            show c < 0 + n * 1 ∨ 0 + n * 1 + (List.replicate m (Value.int .i64 mk)).length ≤ c
            rw [List.length_replicate]; omega)]
          exact hcell
      refine h _ _ ⟨by simp, .inr ⟨g, cap, cs', rfl, hb, k1, hnc, hcm, by rw [k2]; exact hcs, ?_⟩⟩ ⟨k6, k7, k8, by rw [k4]; exact Nat.le_refl _, fun k _ hk => k5 k (fun e => hk (by rw [e]; rfl))⟩ keep ?_ ⟨_, _, rfl⟩
      · rw [Nat.zero_add] at k3
        rw [k3]; exact htake
      · refine ⟨some ⟨g, 0, none⟩, cap, rfl, by omega, fun hp => ⟨g, 0, rfl, .inl rfl, by rw [k4]; exact (Array.getElem?_eq_some_iff.1 hgc).1, fun c hc' => ?_⟩⟩
        by_cases hcn : c < n
        · refine keep g (0 + c) ?_
          rw [hown.cellAt (0 + c) (by omega), List.getElem?_replicate, if_pos (by omega)]
        · have := hin (c - n) (by omega)
          rwa [show 0 + n * 1 + (c - n) = 0 + c by omega] at this

theorem marks_block (w : World) (cs : Array Value) (t : TypeId) (m : Nat) (mk : Int) (h : cs.toList = List.replicate m (.int .i64 mk)) : ∀ j, j < m → (w.alloc (.cells cs t)).cell? ((⟨w.heap.size, 0, none⟩ : Addr).add j) = some (.int .i64 mk) := by
  intro j hj
  refine World.news_of_block (cs := cs) (t := t) (fr := (0, 0)) (heap_alloc_new w _) j _ ?_
  rw [h, List.getElem?_replicate, if_pos hj]

theorem grown_trans {w w1 w2 : World} {row : Option Nat} (h1 : w.grownBy w1 row) (h2 : w1.grownBy w2 row) : w.grownBy w2 row :=
  ⟨h2.os.trans h1.os, h2.tape.trans h1.tape, h2.output.trans h1.output, Nat.le_trans h1.size h2.size, fun k hk hne => (h2.block k (Nat.lt_of_lt_of_le hk h1.size) hne).trans (h1.block k hk hne)⟩
theorem grown_alloc (w : World) (o : Obj) (row : Option Nat) : w.grownBy (w.alloc o) row := ⟨rfl, rfl, rfl, by simp, fun k hk _ => Below.heap_alloc _ _ _ hk⟩
theorem grown_drew {w w1 : World} {row : Option Nat} (h : w.grownBy w1 row) : w.grownBy w1.drew row := ⟨h.os, h.tape, h.output, h.size, h.block⟩
/-- a store into a new block. -/
theorem grown_set {w w1 : World} {row : Option Nat} (h : w.grownBy w1 row) {p : Addr} (hp : w.heap.size ≤ p.block) (u : Value) : w.grownBy (w1.setCell p u) row :=
  ⟨h.os, h.tape, h.output, by simpa using h.size, fun k hk hne => (Below.heap_setCell _ _ _ _ (by omega)).trans (h.block k hk hne)⟩

end Go.Proofs.YtmndgoapkmhglaaGreat
