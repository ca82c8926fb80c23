import Derived.Test.YtmndgoapkmhglaaA29GoodT
import Derived.Test.YtmndgoapkmhglaaA30RefN
namespace Go.Proofs.Ytmndgoapkmhglaa
open Go.RowKit
attribute [local go_sem ↓] Go.wp_at_zero Go.wp_at_succ

theorem any_range {p : Nat → Bool} (n k : Nat) (h : k < n) : (List.range' k (n - k)).any p = (p k || (List.range' (k + 1) (n - (k + 1))).any p) := by
  rw [show n - k = (n - (k + 1)) + 1 by omega, List.range'_succ, List.any_cons]

set_option maxHeartbeats 1000000 in
theorem rdelayed_any (w : World) (q g cap : Nat) (ts : List Tk) (L : List Dl) (vE vA vI vQ : Value) (h : RProg w q g cap ts L vE vA vI vQ) (ho : ROk ts L) (fr j : Nat) (hfj : fr ≤ j) (hj : j < ts.length) :
    Calls Try.prog 143 #[.pointer (some ⟨q, 0, none⟩), .int .i64 (fr : Int), .int .i64 (j : Int)] w fun e w' => e = .returned (.bool (delayedR ts fr j)) ∧ Below w.heap.size w w' := by
  have hlen := ho.len
  obtain ⟨gE, capE, rfl, _, hgE⟩ := h.ends.form (by omega)
  have HR := hide h
  have HO := hide ho
  clear h ho
  go_enter Try.func143, Try.ntmps143
  go_wp2
  go_loopw [7] (fun f wr => ∃ k : Nat, k ≤ j ∧ f = .int .i64 k ∧ Below w.heap.size w wr ∧ ((List.range' k (j - k)).any fun f => lAt ts f == kFby && decide (j < behindF ts (f + 1))) = delayedR ts fr j) (fun f _ => j - (intOf f).toNat)
  case atStart => exact ⟨fr, hfj, rfl, Below.refl _ _, rfl⟩
  case round =>
    obtain ⟨k, hk, rfl, hbel, hrec⟩ := hrel
    have c0 := (HR.out.below hbel).c0
    have c1 := (HR.out.below hbel).c1
    by_cases hlt : k < j
    · obtain ⟨a, ha⟩ : ∃ a, a = rtok (tkAt ts k) := ⟨_, rfl⟩
      obtain ⟨x0, x1, x2, x3⟩ := HR.out.toks.cells hbel (show k < ts.length by omega) a ha
      have hkw := (HO.out.F k).kw kFby (by decide)
      rw [← ha] at hkw
      have r1 := end_later HR.out.ends hbel hgE (show k + 1 < ts.length by omega)
      have j1 : (0 : Int) ≤ (k : Int) := by omega
      have j2 : (k : Int) < (ts.length : Int) := by omega
      have j3 : (0 : Int) ≤ (k : Int) + 1 := by omega
      have j4 : (k : Int) + 1 < (ts.length : Int) := by omega
      have j5 : (k : Int) < (j : Int) := by omega
      have hbl := behindF_le ts (k + 1) (by omega)
      rw [any_range _ _ hlt] at hrec
      generalize behindF ts (k + 1) = b at r1 hrec hbl
      by_cases hf : a.l = kFby
      · have q1 := str_yes (t := a.word) hf
        simp only [kFby] at q1
        have hl : (lAt ts k == kFby) = true := by rw [beq_iff_eq]; exact hkw.1 hf
        rw [hl, Bool.true_and] at hrec
        by_cases hb : j < b
        · have q2 : (j : Int) < (b : Int) := by omega
          rw [decide_eq_true hb, Bool.true_or] at hrec
          have HRC := hide hrec
          clear hrec hl hf hb hkw ha
          go_wp2
          go_ret
          exact ⟨by rw [← HRC.out]; rfl, by first | exact hbel | exact below_drewN hbel _⟩
        · have q2 : ¬ (j : Int) < (b : Int) := by omega
          rw [decide_eq_false hb, Bool.false_or] at hrec
          have HRC := hide hrec
          clear hrec hl hf hb hkw ha
          go_wp2
          go_roundw
          case rel => exact ⟨k + 1, by omega, by go_num, by first | exact hbel | exact below_drewN hbel _, HRC.out⟩
          case measure => simp [intOf]; omega
      · have q1 := str_no (t := a.word) hf
        simp only [kFby] at q1
        have hl : (lAt ts k == kFby) = false := by rw [beq_eq_false_iff_ne]; exact fun e => hf (hkw.2 e)
        rw [hl, Bool.false_and, Bool.false_or] at hrec
        have HRC := hide hrec
        clear hrec hl hf hkw ha
        go_wp2
        go_roundw
        case rel => exact ⟨k + 1, by omega, by go_num, by first | exact hbel | exact below_drewN hbel _, HRC.out⟩
        case measure => simp [intOf]; omega
    · have e0 : j - k = 0 := by omega
      rw [e0] at hrec
      have HRC := hide hrec
      have z1 : ¬ (k : Int) < (j : Int) := by omega
      clear hrec e0
      go_wp2
      go_ret
      exact ⟨by rw [← HRC.out]; rfl, hbel⟩

end Go.Proofs.Ytmndgoapkmhglaa

namespace Go.Proofs.Ytmndgoapkmhglaa
open Go.RowKit
attribute [local go_sem ↓] Go.wp_at_zero Go.wp_at_succ

/-- a declaration laid into a box. -/
theorem dec_step (d : RDc) (w : World) {wr : World} (hb : Below (w.alloc (.cells #[.string d.name, .int .i64 (d.tok : Int), .bool d.input, .bool d.truth, .int .i64 (d.place : Int), .int .i64 (d.body : Int)] 138)).heap.size (w.alloc (.cells #[.string d.name, .int .i64 (d.tok : Int), .bool d.input, .bool d.truth, .int .i64 (d.place : Int), .int .i64 (d.body : Int)] 138)) wr) :
    wr.cell? ⟨w.heap.size, 5, none⟩ = some (.int .i64 (d.body : Int)) ∧ wr.cell? ⟨w.heap.size, 4, none⟩ = some (.int .i64 (d.place : Int)) ∧ Below w.heap.size w wr := by
  have hN := (hb.block w.heap.size (by simp)).trans (heap_alloc_new w _)
  refine ⟨?_, ?_, ((Below.refl _ _).alloc (Nat.le_refl _) _).trans (hb.mono (by simp))⟩
  · rw [cell_of_row wr _ 5 _ _ _ hN]; rfl
  · rw [cell_of_row wr _ 4 _ _ _ hN]; rfl

set_option maxHeartbeats 1000000 in
theorem rhangs_any (w : World) (q g cap : Nat) (ts : List Tk) (L : List Dl) (vE vA vI vQ : Value) (h : RProg w q g cap ts L vE vA vI vQ) (ho : ROk ts L) (x : Dl) (hx : x ∈ eqL L) (name : ByteArray) :
    Calls Try.prog 115 #[.pointer (some ⟨q, 0, none⟩), (rdc ts x).val, .string name] w fun e w' => e = .returned (.bool (hangsR ts x name.data.toList)) ∧ Below w.heap.size w w' := by
  have hlen := ho.len
  have hpos := ho.pos
  obtain ⟨gE, capE, rfl, _, hgE⟩ := h.ends.form (by omega)
  obtain ⟨hxm, hxk, hxs, hxl, _⟩ := ho.eq hx
  have hbd : (rdc ts x).body = x.i + 5 := by unfold rdc; rw [if_neg hxk]
  have hbe : behindF ts (x.i + 5) = x.i + 5 + x.t.len := behind_sp ho.F x.t (x.i + 5) hxs (by omega)
  have HR := hide h
  have HO := hide ho
  generalize rdc ts x = d at hbd
  obtain ⟨b, hb⟩ : ∃ b, b = x.i + 5 := ⟨_, rfl⟩
  obtain ⟨e, he⟩ : ∃ e, e = b + x.t.len := ⟨_, rfl⟩
  rw [← hb] at hbe hbd
  rw [← he] at hbe
  have HBE := hide hbe
  have HHG : Hid (((List.range' b (e - b)).any fun j => isNm ts j && (lAt ts j == name.data.toList && !delayedR ts b j)) = hangsR ts x name.data.toList) := hide (by unfold hangsR; rw [← hb, he, Nat.add_sub_cancel_left])
  have hel : e < ts.length := by omega
  have hble : b ≤ e := by omega
  have HB := hide (fun wr hb => dec_step d w (wr := wr) hb)
  rw [hbd] at HB
  clear hbe he hb h ho hxs hxm hxk hx
  obtain ⟨W0, hW0⟩ : ∃ W0, W0 = w.alloc (.cells #[.string d.name, .int .i64 (d.tok : Int), .bool d.input, .bool d.truth, .int .i64 (d.place : Int), .int .i64 (b : Int)] 138) := ⟨_, rfl⟩
  rw [← hW0] at HB
  obtain ⟨t0, _, t2⟩ := HB.out W0 (Below.refl _ _)
  have r0 := end_later HR.out.ends t2 hgE (show b < ts.length by omega)
  have c1 := (HR.out.below t2).c1
  rw [HBE.out] at r0
  have j1 : (0 : Int) ≤ (b : Int) := by omega
  have j2 : (b : Int) < (ts.length : Int) := by omega
  show Calls Try.prog 115 #[.pointer (some ⟨q, 0, none⟩), .agg #[.string d.name, .int .i64 (d.tok : Int), .bool d.input, .bool d.truth, .int .i64 (d.place : Int), .int .i64 (d.body : Int)], .string name] w _
  rw [hbd]
  have HW0 := hide hW0
  clear hbd hW0
  go_enter Try.func115, Try.ntmps115
  go_wp2
  rw [← HW0.out]
  go_loopw [7] (fun f wr => ∃ k : Nat, b ≤ k ∧ k ≤ e ∧ f = .int .i64 k ∧ Below W0.heap.size W0 wr ∧ ((List.range' k (e - k)).any fun j => isNm ts j && (lAt ts j == name.data.toList && !delayedR ts b j)) = hangsR ts x name.data.toList) (fun f _ => e - (intOf f).toNat)
  case atStart => exact ⟨b, Nat.le_refl _, hble, rfl, Below.refl _ _, HHG.out⟩
  case round =>
    clear t0 c1 r0
    obtain ⟨k, hk0, hk, rfl, hbel, hrec⟩ := hrel
    obtain ⟨t0, _, hbw⟩ := HB.out wr hbel
    have hrp := HR.out.below hbw
    have c0 := hrp.c0
    have c1 := hrp.c1
    have r0 := end_later HR.out.ends hbw hgE (show b < ts.length by omega)
    rw [HBE.out] at r0
    by_cases hlt : k < e
    · have j5 : (k : Int) < (e : Int) := by omega
      have j3 : (0 : Int) ≤ (k : Int) := by omega
      have j4 : (k : Int) < (ts.length : Int) := by omega
      rw [any_range _ _ hlt] at hrec
      have HRC := hide hrec
      have HRP := hide hrp
      clear hrec hrp
      go_wp2_with fail
      go_quiet (fail)
      go_wp2_with fail
      have hdr : Below wr.heap.size wr (wr.drewN nq) := below_drewN (Below.refl _ _) _
      refine (rdelayed_any _ q g cap ts L _ _ _ _ (HRP.out.below hdr) HO.out b k hk0 (by omega)).mono ?_
      rintro e1 w2 ⟨rfl, hb2⟩
      have hbx : Below wr.heap.size wr w2 := hdr.trans (hb2.mono hdr.size)
      have hbel2 : Below W0.heap.size W0 w2 := hbel.trans (hbx.mono hbel.size)
      have hbw2 : Below w.heap.size w w2 := hbw.trans (hbx.mono hbw.size)
      clear hdr hb2 hbx hbel hbw c0 c1 r0 t0
      have c0 := (HR.out.below hbw2).c0
      obtain ⟨a, ha⟩ : ∃ a, a = rtok (tkAt ts k) := ⟨_, rfl⟩
      obtain ⟨x0, x1, x2, x3⟩ := HR.out.toks.cells hbw2 (show k < ts.length by omega) a ha
      have hc := c97 (tkAt ts k)
      rw [← ha] at hc
      have hrec := HRC.out
      generalize delayedR ts b k = lt at hrec ⊢
      by_cases hnm : (tkAt ts k).kind = 1
      · have q1 : ((a.c : Int) == 97) = true := by
          rw [show (97 : Int) = ((97 : Nat) : Int) from rfl, beq_cast, hc, hnm]; rfl
        have hw : a.word = (tkAt ts k).text := by rw [ha]; unfold rtok; simp [hnm]
        obtain ⟨ee, qE⟩ : ∃ ee, (a.word.toList == name.toList) = ee := ⟨_, rfl⟩
        have eE : (lAt ts k == name.data.toList) = ee := by
          rw [← qE, ByteArray.toList_eq, ByteArray.toList_eq, hw]; rfl
        rw [eE, show isNm ts k = true by unfold isNm; rw [hnm]; rfl, Bool.true_and] at hrec
        have HRX := hide hrec
        have HB2 := hide (And.intro hbel2 hbw2)
        clear hrec hc hnm ha hw eE HRC
        cases ee
        · have HR2 : Hid (((List.range' (k + 1) (e - (k + 1))).any fun j => isNm ts j && (lAt ts j == name.data.toList && !delayedR ts b j)) = hangsR ts x name.data.toList) := hide (by rw [← HRX.out]; simp)
          clear HRX
          go_wp2
          go_roundw
          case rel => exact ⟨k + 1, by omega, by omega, by go_num, by first | exact HB2.out.1 | exact below_drewN HB2.out.1 _, HR2.out⟩
          case measure => simp [intOf]; omega
        · cases lt
          · have HR2 : Hid (hangsR ts x name.data.toList = true) := hide (by rw [← HRX.out]; simp)
            clear HRX
            go_wp2
            go_ret
            exact ⟨by rw [HR2.out]; rfl, by first | exact HB2.out.2 | exact below_drewN HB2.out.2 _⟩
          · have HR2 : Hid (((List.range' (k + 1) (e - (k + 1))).any fun j => isNm ts j && (lAt ts j == name.data.toList && !delayedR ts b j)) = hangsR ts x name.data.toList) := hide (by rw [← HRX.out]; simp)
            clear HRX
            go_wp2
            go_roundw
            case rel => exact ⟨k + 1, by omega, by omega, by go_num, by first | exact HB2.out.1 | exact below_drewN HB2.out.1 _, HR2.out⟩
            case measure => simp [intOf]; omega
      · have q1 : ((a.c : Int) == 97) = false := by
          rw [show (97 : Int) = ((97 : Nat) : Int) from rfl, beq_cast, hc]; exact beq_eq_false_iff_ne.2 hnm
        have hno : isNm ts k = false := by unfold isNm; exact beq_eq_false_iff_ne.2 hnm
        have HR2 : Hid (((List.range' (k + 1) (e - (k + 1))).any fun j => isNm ts j && (lAt ts j == name.data.toList && !delayedR ts b j)) = hangsR ts x name.data.toList) := hide (by rw [← hrec, hno]; simp)
        have HB2 := hide (And.intro hbel2 hbw2)
        clear hrec hc hnm ha hno HRC
        go_wp2
        go_roundw
        case rel => exact ⟨k + 1, by omega, by omega, by go_num, by first | exact HB2.out.1 | exact below_drewN HB2.out.1 _, HR2.out⟩
        case measure => simp [intOf]; omega
    · have ek : e - k = 0 := by omega
      rw [ek] at hrec
      have HRC := hide hrec
      have z1 : ¬ (k : Int) < (e : Int) := by omega
      have HBW := hide hbw
      clear hrec ek hrp
      go_wp2_with fail
      go_quiet (fail)
      go_wp2
      go_ret
      exact ⟨by rw [← HRC.out]; rfl, below_drewN HBW.out _⟩

end Go.Proofs.Ytmndgoapkmhglaa

/- Plain mathematics: a right text as the program holds it: what its nodes mean, and what hangs on what. -/
namespace Go.Proofs.Ytmndgoapkmhglaa

def dlAt (ns : List Nd) (j : Nat) : Bool := ((ns[j]?).map Nd.delayed).getD false

/-- what the nodes of a program mean. -/
structure Meant (ds : List Dc) (ns : List Nd) (ins : List (List Int)) (NV : Nat → Nat → Int) : Prop where
  cover : ∀ i, i < ns.length → ∃ (a : Nat) (d : Dc), ds[a]? = some d ∧ d.kind ≠ 0 ∧ d.root ≤ i ∧ i < d.fin
  val : ∀ (i : Nat) (n : Nd), ns[i]? = some n → ∀ k, NV k i = valF ds ins n k (NV k) (NV (k - 1))
  kids : ∀ (a : Nat) (d : Dc), ds[a]? = some d → d.kind ≠ 0 → ∀ (i : Nat) (n : Nd), ns[i]? = some n → d.root ≤ i → i < d.fin → ∀ c ∈ needs n, i < c ∧ c < d.fin ∧ dlAt ns c = n.delayed
  root : ∀ (a : Nat) (d : Dc), ds[a]? = some d → d.kind ≠ 0 → d.root < ns.length ∧ dlAt ns d.root = false
  segs : ∀ (a : Nat) (d : Dc), ds[a]? = some d → d.kind ≠ 0 → d.root < d.fin ∧ d.fin ≤ ns.length
  decl : ∀ n ∈ ns, n.kind = 2 → 0 ≤ n.decl ∧ n.decl < (ds.length : Int)
  hang : ∀ (a : Nat) (d : Dc), ds[a]? = some d → d.kind ≠ 0 → ∀ (i : Nat) (n : Nd), ns[i]? = some n → d.root ≤ i → i < d.fin → n.kind = 2 → n.delayed = false → kindAt ds n.decl ≠ 0 → markAll ds ns 0 ds noM a n.decl.toNat = true

/-- no circle. -/
structure Ranked (ds : List Dc) (H : Mx) (rank : Nat → Nat) : Prop where
  less : ∀ a b, H a b = true → rank b < rank a ∧ ∃ d, ds[b]? = some d ∧ d.kind ≠ 0
  lt : ∀ (a : Nat) (d : Dc), ds[a]? = some d → d.kind ≠ 0 → rank a < ds.length

/-- an order in which the equations can be worked out. -/
structure OrdOk (ds : List Dc) (H : Mx) (T : List Nat) : Prop where
  eqn : ∀ t ∈ T, ∃ d, ds[t]? = some d ∧ d.kind ≠ 0
  topo : ∀ (j t : Nat), T[j]? = some t → ∀ b, H t b = true → b ∈ T.take j
  all : ∀ (a : Nat) (d : Dc), ds[a]? = some d → d.kind ≠ 0 → a ∈ T
  len : T.length ≤ 300

def valsD (ts : List Tk) (V : List UInt8 → Nat → Int) (k : Nat) : List Dl → List Int
  | [] => []
  | x :: r => if x.kind = 0 then valsD ts V k r else flatV ts V k x.t (x.i + 5) ++ valsD ts V k r

structure DY (ts : List Tk) (f : Nd → Nd) (ns : List Nd) (V : List UInt8 → Nat → Int) (VL : Nat → List Int) (d : Dc) (x : Dl) : Prop where
  kind : d.kind = x.kind
  name : d.name = nameD ts x
  zero : x.kind = 0 → d.root = 0 ∧ d.fin = 0
  fin : x.kind ≠ 0 → d.fin = d.root + x.t.size
  nodes : x.kind ≠ 0 → AllAt (fun j n => ns[j]? = some (f n)) d.root (flat ts x.t (x.i + 5) 0 d.root)
  vals : x.kind ≠ 0 → ∀ k, AllAt (fun j v => (VL k).getD j 0 = v) d.root (flatV ts V k x.t (x.i + 5))

theorem allAt_mid {α : Type} (A l B : List α) : AllAt (fun j x => (A ++ (l ++ B))[j]? = some x) A.length l := by
  rw [allAt_get]
  intro m x hm
  have h := (List.getElem?_eq_some_iff.1 hm).1
  rw [List.getElem?_append_right (by omega), Nat.add_sub_cancel_left, List.getElem?_append_left h]
  exact hm

theorem allAt_map {α β : Type} {P : Nat → β → Prop} (f : α → β) : ∀ (l : List α) (o : Nat), AllAt P o (l.map f) → AllAt (fun j x => P j (f x)) o l := by
  intro l
  induction l with
  | nil => intro o _; trivial
  | cons x l ih => intro o h; exact ⟨h.1, ih _ h.2⟩

theorem dy_all (ts : List Tk) (f : Nd → Nd) (V : List UInt8 → Nat → Int) : ∀ (L : List Dl) (off a b : Nat) (N1 : List Nd) (W1 : Nat → List Int), N1.length = off → (∀ k, (W1 k).length = off) →
    All2 (DY ts f (N1 ++ (nodesD ts L off).map f) V (fun k => W1 k ++ valsD ts V k L)) (declsD ts L off a b) L := by
  intro L
  induction L with
  | nil => intro off a b N1 W1 _ _; trivial
  | cons x r ih =>
    intro off a b N1 W1 hN hW
    simp only [declsD, nodesD, valsD]
    by_cases hk : x.kind = 0
    · simp only [if_pos hk]
      exact ⟨⟨hk.symm, rfl, fun _ => ⟨rfl, rfl⟩, fun h => absurd hk h, fun h => absurd hk h, fun h => absurd hk h⟩, ih off (a + 1) b N1 W1 hN hW⟩
    · simp only [if_neg hk]
      refine ⟨⟨rfl, rfl, fun h => absurd h hk, fun _ => rfl, fun _ => ?_, fun _ k => ?_⟩, ?_⟩
      · rw [List.map_append]
        show AllAt _ off _
        rw [← hN]
        exact allAt_map f _ _ (allAt_mid N1 _ _)
      · show AllAt _ off _
        rw [← hW k]
        refine AllAt.mono (fun j v h => ?_) _ _ (allAt_mid (W1 k) (flatV ts V k x.t (x.i + 5)) (valsD ts V k r))
        rw [List.getD_eq_getElem?_getD, h]; rfl
      · have := ih (off + x.t.size) a (b + 1) (N1 ++ (flat ts x.t (x.i + 5) 0 off).map f) (fun k => W1 k ++ flatV ts V k x.t (x.i + 5)) (by simp [flat_len, hN]) (fun k => by simp [flatV_len, hW k])
        rw [List.append_assoc, ← List.map_append] at this
        simpa only [List.append_assoc] using this

theorem decls_num (ts : List Tk) : ∀ (L : List Dl) (off a b k : Nat) (d : Dc) (x : Dl), (declsD ts L off a b)[k]? = some d → L[k]? = some x →
    (x.kind = 0 → ∃ m, d.number = a + m ∧ (inL L)[m]? = some x) ∧ (x.kind ≠ 0 → ∃ m, d.number = b + m ∧ (eqL L)[m]? = some x) := by
  intro L
  induction L with
  | nil => intro off a b k d x _ h; simp at h
  | cons y r ih =>
    intro off a b k d x h1 h2
    simp only [declsD] at h1
    by_cases hy : y.kind = 0
    · rw [if_pos hy] at h1
      have e1 : inL (y :: r) = y :: inL r := by simp [inL, hy]
      have e2 : eqL (y :: r) = eqL r := by simp [eqL, hy]
      rw [e1, e2]
      cases k with
      | zero =>
        simp only [List.getElem?_cons_zero, Option.some.injEq] at h1 h2
        subst h1 h2
        exact ⟨fun _ => ⟨0, rfl, rfl⟩, fun h => absurd hy h⟩
      | succ k =>
        rw [List.getElem?_cons_succ] at h1 h2
        obtain ⟨g1, g2⟩ := ih _ _ _ k d x h1 h2
        refine ⟨fun h => ?_, g2⟩
        obtain ⟨m, hm, hg⟩ := g1 h
        exact ⟨m + 1, by omega, by rw [List.getElem?_cons_succ]; exact hg⟩
    · rw [if_neg hy] at h1
      have e1 : inL (y :: r) = inL r := by simp [inL, hy]
      have e2 : eqL (y :: r) = y :: eqL r := by simp [eqL, hy]
      rw [e1, e2]
      cases k with
      | zero =>
        simp only [List.getElem?_cons_zero, Option.some.injEq] at h1 h2
        subst h1 h2
        exact ⟨fun h => absurd h hy, fun _ => ⟨0, rfl, rfl⟩⟩
      | succ k =>
        rw [List.getElem?_cons_succ] at h1 h2
        obtain ⟨g1, g2⟩ := ih _ _ _ k d x h1 h2
        refine ⟨g1, fun h => ?_⟩
        obtain ⟨m, hm, hg⟩ := g2 h
        exact ⟨m + 1, by omega, by rw [List.getElem?_cons_succ]; exact hg⟩

theorem Right.one {ts : List Tk} {L : List Dl} (H : Right ts L) {a b : Nat} {x y : Dl} (hx : L[a]? = some x) (hy : L[b]? = some y) (he : (nameD ts x).data.toList = (nameD ts y).data.toList) : a = b := by
  have hi := H.own x (List.mem_of_getElem? hx) y (List.mem_of_getElem? hy) he
  obtain ⟨h1, rfl⟩ := List.getElem?_eq_some_iff.1 hx
  obtain ⟨h2, rfl⟩ := List.getElem?_eq_some_iff.1 hy
  have hp := H.pw
  rw [List.pairwise_iff_getElem] at hp
  rcases Nat.lt_trichotomy a b with h | h | h
  · have := hp a b h1 h2 h; have := L[a].len_pos; omega
  · exact h
  · have := hp b a h2 h1 h; have := L[b].len_pos; omega
theorem Right.sameIn {ts : List Tk} {L : List Dl} (H : Right ts L) {i j : Nat} {x y : Dl} (hx : (inL L)[i]? = some x) (hy : (inL L)[j]? = some y) (he : (nameD ts x).data.toList = (nameD ts y).data.toList) : i = j := by
  have mx : x ∈ L := (List.mem_filter.1 (List.mem_of_getElem? hx)).1
  have my : y ∈ L := (List.mem_filter.1 (List.mem_of_getElem? hy)).1
  have hi := H.own x mx y my he
  obtain ⟨h1, rfl⟩ := List.getElem?_eq_some_iff.1 hx
  obtain ⟨h2, rfl⟩ := List.getElem?_eq_some_iff.1 hy
  have hp : (inL L).Pairwise (fun x y => x.i + x.len ≤ y.i) := H.pw.filter _
  rw [List.pairwise_iff_getElem] at hp
  rcases Nat.lt_trichotomy i j with h | h | h
  · have := hp i j h1 h2 h; have := (inL L)[i].len_pos; omega
  · exact h
  · have := hp j i h2 h1 h; have := (inL L)[j].len_pos; omega

/-- what a name finds. -/
theorem val_in {ts : List Tk} {L : List Dl} (H : Right ts L) {ins : List (List Int)} {R : Nat → Nat → Int} {m : Nat} {x : Dl} (hx : (inL L)[m]? = some x) (n : Nat) : valV ts L ins R (nameD ts x).data.toList n = elemF ins m n := by
  obtain ⟨j, hj⟩ := ix_some (p := nmIs ts (nameD ts x).data.toList) (List.mem_of_getElem? hx) (by unfold nmIs; simp)
  have hj' : inIx ts L (nameD ts x).data.toList = some j := hj
  obtain ⟨g1, g2, _⟩ := List.findIdx?_eq_some_iff_getElem.1 hj
  have := H.sameIn (List.getElem?_eq_getElem g1) hx (by simpa [nmIs] using g2)
  subst this
  unfold valV
  rw [hj']
theorem val_eq {ts : List Tk} {L : List Dl} (H : Right ts L) {ins : List (List Int)} {R : Nat → Nat → Int} {m : Nat} {x : Dl} (hx : (eqL L)[m]? = some x) (n : Nat) : valV ts L ins R (nameD ts x).data.toList n = R m n := by
  obtain ⟨j, hj⟩ := ix_some (p := nmIs ts (nameD ts x).data.toList) (List.mem_of_getElem? hx) (by unfold nmIs; simp)
  have hj' : eqIx ts L (nameD ts x).data.toList = some j := hj
  obtain ⟨z, hz, hn⟩ := eqIx_some hj'
  have := H.same hz hx hn
  subst this
  have hi : inIx ts L (nameD ts x).data.toList = none := by
    cases hi : inIx ts L (nameD ts x).data.toList with
    | none => rfl
    | some i =>
      exfalso
      obtain ⟨g1, g2, _⟩ := List.findIdx?_eq_some_iff_getElem.1 hi
      have g3 : (nameD ts (inL L)[i]).data.toList = (nameD ts x).data.toList := by simpa [nmIs] using g2
      have m1 := List.mem_filter.1 (List.getElem_mem g1)
      have m2 := List.mem_filter.1 (List.mem_of_getElem? hx)
      obtain ⟨a, ha, ea⟩ := List.getElem_of_mem m1.1
      obtain ⟨b, hb, eb⟩ := List.getElem_of_mem m2.1
      have hab := H.one (List.getElem?_eq_getElem ha) (List.getElem?_eq_getElem hb) (by rw [ea, eb]; exact g3)
      subst hab
      rw [ea] at eb
      have k1 : (inL L)[i].kind = 0 := by simpa using m1.2
      have k2 : x.kind ≠ 0 := by simpa using m2.2
      exact k2 (by rw [← eb]; exact k1)
  unfold valV
  rw [hi, hj']

/-- what both readers' parts are to each other, of a right text. -/
structure Both2 (ts : List Tk) (L : List Dl) (ds : List Dc) (ns : List Nd) : Prop where
  N : NamesOk ts L ds
  sp : ∀ x ∈ L, x.kind ≠ 0 → Sp ts x.t (x.i + 5) ∧ x.i + 5 + x.t.len ≤ ts.length
  decl : ∀ x ∈ L, x.kind ≠ 0 → ∀ y ∈ nmD ts x.t (x.i + 5) false, 0 ≤ findF ds (tkAt ts y.1).text
  dx : All2 (DX ts (bindF ds) ns) ds L

theorem both2 {ts : List Tk} (hF : ∀ i, TkF (tkAt ts i)) (hE : ∀ i, (tkAt ts i).kind = 0 → ts.length ≤ i + 1) (L : List Dl) (hL : Spell ts L 0) (hn : namesR ts L = none) :
    Both2 ts L (declsD ts L 0 0 0) ((nodesD ts L 0).map (bindF (declsD ts L 0 0 0))) := by
  obtain ⟨ds, hds⟩ : ∃ ds, ds = declsD ts L 0 0 0 := ⟨_, rfl⟩
  obtain ⟨ns, hns⟩ : ∃ ns, ns = (nodesD ts L 0).map (bindF ds) := ⟨_, rfl⟩
  rw [← hds, ← hns]
  have hnm : ds.map Dc.name = L.map (nameD ts) := by rw [hds]; exact declsD_names ts L 0 0 0
  have hnames : badNameF ds ns 0 ds = namesR ts L := by
    have := names_eq hF hE L hL ds hnm L [] 0 0 0 0 [] [] rfl hL (by omega) (by rw [List.nil_append]; exact hds) rfl rfl
    rw [List.nil_append, ← hns, ← hds] at this
    exact this
  have hdx : All2 (DX ts (bindF ds) ns) ds L := by
    have := dx_all ts (bindF ds) L 0 0 0 [] rfl
    rw [List.nil_append, ← hns, ← hds] at this
    exact this
  rw [hn] at hnames
  have hN : NamesOk ts L ds := ⟨fun j hj => by have := badName_own ds 0 hnames j hj; rw [this, Nat.zero_add], dx_two hdx⟩
  have hsp : ∀ x ∈ L, x.kind ≠ 0 → Sp ts x.t (x.i + 5) ∧ x.i + 5 + x.t.len ≤ ts.length := by
    intro x hx hk
    obtain ⟨_, h2, h3⟩ := spell_mem _ _ hL x hx
    have hlen : x.len = x.t.len + 6 := by unfold Dl.len; rw [if_neg hk]
    refine ⟨?_, by omega⟩
    rcases h3 with ⟨h, _⟩ | ⟨_, _, _, _, _, h, _⟩
    · exact absurd h hk
    · exact h
  refine ⟨hN, hsp, ?_, hdx⟩
  intro x hx hk y hy
  obtain ⟨k, hk2, rfl⟩ := List.getElem_of_mem hx
  rcases hdx.getOpt k with ⟨_, h2⟩ | ⟨d, z, h1, h2, h3⟩
  · rw [List.getElem?_eq_getElem hk2] at h2; cases h2
  · rw [List.getElem?_eq_getElem hk2] at h2
    cases h2
    have hnone := badName_none ds 0 hnames d (List.mem_of_getElem? h1)
    obtain ⟨o, ho⟩ := h3.some hk
    have hmem : bindF ds (nmNd ts y) ∈ seg ns d.root d.fin := by
      rw [ho]
      have : bindF ds (nmNd ts y) ∈ (((flat ts (L[k]'hk2).t ((L[k]'hk2).i + 5) 0 o).map (bindF ds)).filter fun n => n.kind == 2) := by
        rw [bind_filter, flat_names hF _ _ _ _ (hsp _ hx hk).1]
        exact List.mem_map.2 ⟨_, List.mem_map.2 ⟨y, hy, rfl⟩, rfl⟩
      exact (List.mem_filter.1 this).1
    have := badNode_none _ hnone _ hmem (by rw [bind_nm]; rfl)
    rw [bind_nm] at this
    exact this

theorem seg_get {ns : List Nd} {a b i : Nat} (h1 : a ≤ i) (h2 : i < b) : (seg ns a b)[i - a]? = ns[i]? := by
  unfold seg
  rw [List.getElem?_take, if_pos (by omega), List.getElem?_drop, Nat.add_sub_cancel' h1]

theorem mark_of {ds : List Dc} {ns : List Nd} {a i : Nat} {d : Dc} {n : Nd} (hd : ds[a]? = some d) (hn : ns[i]? = some n) (h1 : d.root ≤ i) (h2 : i < d.fin) (hk : n.kind = 2) (hl : n.delayed = false) (hq : kindAt ds n.decl ≠ 0) : markAll ds ns 0 ds noM a n.decl.toNat = true := by
  rw [markAll_eq, Nat.sub_zero, hd, Option.any_some]
  have : ((seg ns d.root d.fin).any fun m => m.kind == 2 && (!m.delayed && (kindAt ds m.decl != 0 && m.decl.toNat == n.decl.toNat))) = true := by
    rw [List.any_eq_true]
    refine ⟨n, List.mem_of_getElem? ((seg_get h1 h2).trans hn), ?_⟩
    simp [hk, hl, hq]
  rw [this]; simp

theorem ranked_of {ts : List Tk} {L : List Dl} (H : Right ts L) {ds : List Dc} {ns : List Nd} (hB : Both2 ts L ds ns) : Ranked ds (markAll ds ns 0 ds noM) (fun a => rk ts L (cntE L a)) := by
  have hisE : ∀ (a : Nat) (d : Dc), ds[a]? = some d → d.kind ≠ 0 → isE L a = true := fun a d hd hk => by
    rcases hB.dx.getOpt a with ⟨h1, _⟩ | ⟨d', x, h1, h2, h3⟩
    · rw [h1] at hd; cases hd
    · rw [hd] at h1; cases h1
      unfold isE; rw [h2]; simp [← h3.kind, hk]
  have hlt : ∀ a, isE L a = true → cntE L a < (eqL L).length := fun a ha => by
    have h1 := cntE_get L a ha
    cases h2 : L[a]? with
    | none => unfold isE at ha; rw [h2] at ha; simp at ha
    | some x => rw [h2] at h1; exact (List.getElem?_eq_some_iff.1 h1).1
  constructor
  · intro a b h
    have ha : isE L a = true := by
      cases ha : isE L a with
      | true => rfl
      | false => rw [mark_none hB.dx a b ha] at h; cases h
    have hb : ∃ d, ds[b]? = some d ∧ d.kind ≠ 0 := by
      rw [markAll_eq, Nat.sub_zero] at h
      simp only [noM, Bool.false_or, Bool.and_eq_true] at h
      cases hd : ds[a]? with
      | none => rw [hd] at h; simp at h
      | some d =>
        rw [hd, Option.any_some, List.any_eq_true] at h
        obtain ⟨n, _, hn⟩ := h.2
        simp only [Bool.and_eq_true, bne_iff_ne, beq_iff_eq] at hn
        obtain ⟨_, _, h3, h4⟩ := hn
        unfold kindAt at h3
        rw [h4, List.getD_eq_getElem?_getD] at h3
        cases hb : ds[b]? with
        | none => rw [hb] at h3; exact absurd rfl h3
        | some e => rw [hb] at h3; exact ⟨e, rfl, h3⟩
    obtain ⟨d, hd, hk⟩ := hb
    refine ⟨?_, d, hd, hk⟩
    have hb := hisE b d hd hk
    rw [mark_rel H.F hB.N hB.sp hB.decl hB.dx a b ha hb] at h
    exact rk_less H.cyc (hlt b hb) h
  · intro a d hd hk
    have h1 := hlt a (hisE a d hd hk)
    have h2 := rk_lt H.cyc h1
    have h3 : (eqL L).length ≤ L.length := List.length_filter_le _ _
    have h4 : L.length = ds.length := hB.dx.len
    show rk ts L (cntE L a) < ds.length
    omega

set_option maxHeartbeats 1000000 in
theorem meant_of {ts : List Tk} {L : List Dl} (H : Right ts L) (hT : typesR ts L = none) (ins : List (List Int)) {ds : List Dc} {ns : List Nd} (hds : ds = declsD ts L 0 0 0) (hns : ns = (nodesD ts L 0).map (bindF ds)) (hB : Both2 ts L ds ns)
    (hcov : ∀ i, i < ns.length → ∃ d ∈ ds, d.root ≤ i ∧ i < d.fin) (hsg : ∀ d ∈ ds, (d.root = 0 ∧ d.fin = 0 ∧ d.kind = 0) ∨ (d.root < d.fin ∧ d.fin ≤ ns.length)) (hdr : ∀ n ∈ ns, n.kind = 2 → 0 ≤ n.decl ∧ n.decl < (ds.length : Int)) :
    ∃ NV, Meant ds ns ins NV ∧ ∀ (j : Nat) (d : Dc) (k : Nat), (eqsF ds)[j]? = some d → NV k d.root = sol ts L ins j k := by
  have hY := dy_all ts (bindF ds) (valV ts L ins (sol ts L ins)) L 0 0 0 [] (fun _ => []) rfl (fun _ => rfl)
  simp only [List.nil_append] at hY
  rw [← hds, ← hns] at hY
  have hat : ∀ (a : Nat) (d : Dc), ds[a]? = some d → ∃ x, L[a]? = some x ∧ DY ts (bindF ds) ns (valV ts L ins (sol ts L ins)) (fun k => valsD ts (valV ts L ins (sol ts L ins)) k L) d x := fun a d hd => by
    rcases hY.getOpt a with ⟨h1, _⟩ | ⟨d', x, h1, h2, h3⟩
    · rw [h1] at hd; cases hd
    · rw [hd] at h1; cases h1; exact ⟨x, h2, h3⟩
  have hnum : ∀ (a : Nat) (d : Dc) (x : Dl), ds[a]? = some d → L[a]? = some x → (x.kind = 0 → ∃ m, d.number = m ∧ (inL L)[m]? = some x) ∧ (x.kind ≠ 0 → ∃ m, d.number = m ∧ (eqL L)[m]? = some x) := fun a d x h1 h2 => by
    rw [hds] at h1
    have := decls_num ts L 0 0 0 a d x h1 h2
    simpa only [Nat.zero_add] using this
  have hmemE : ∀ (a : Nat) (x : Dl), L[a]? = some x → x.kind ≠ 0 → x ∈ eqL L := fun a x hx hk => List.mem_filter.2 ⟨List.mem_of_getElem? hx, by simpa using hk⟩
  -- the value at the root of an equation
  have hroot : ∀ (a : Nat) (d : Dc) (x : Dl) (m k : Nat), ds[a]? = some d → L[a]? = some x → x.kind ≠ 0 → (eqL L)[m]? = some x → (valsD ts (valV ts L ins (sol ts L ins)) k L).getD d.root 0 = sol ts L ins m k := fun a d x m k h1 h2 hk hm => by
    obtain ⟨x', h3, h4⟩ := hat a d h1
    rw [h2] at h3; cases h3
    obtain ⟨hm1, hm2⟩ := List.getElem?_eq_some_iff.1 hm
    rw [flatV_head (h4.vals hk k), sol_eq H.toEqs m k hm1, hm2]
  refine ⟨fun k i => (valsD ts (valV ts L ins (sol ts L ins)) k L).getD i 0, ⟨?_, ?_, ?_, ?_, ?_, hdr, ?_⟩, ?_⟩
  · intro i hi
    obtain ⟨d, hd, h1, h2⟩ := hcov i hi
    obtain ⟨a, ha, rfl⟩ := List.getElem_of_mem hd
    obtain ⟨x, hx, hy⟩ := hat a _ (List.getElem?_eq_getElem ha)
    refine ⟨a, _, List.getElem?_eq_getElem ha, fun e => ?_, h1, h2⟩
    have := hy.zero (by rw [← hy.kind]; exact e)
    omega
  · intro i n hn k
    have hi := (List.getElem?_eq_some_iff.1 hn).1
    obtain ⟨d, hd, h1, h2⟩ := hcov i hi
    obtain ⟨a, ha, rfl⟩ := List.getElem_of_mem hd
    obtain ⟨x, hx, hy⟩ := hat a _ (List.getElem?_eq_getElem ha)
    have hk : x.kind ≠ 0 := fun e => by have := hy.zero e; omega
    have hf := hy.fin hk
    have hxe := hmemE a x hx hk
    obtain ⟨hs, hl⟩ := H.sp x hxe
    have hw : wrongR ts L x.t (x.i + 5) (wB (x.kind == 2)) = none := by
      have := hT
      unfold typesR at this
      rw [List.findSome?_eq_none_iff] at this
      exact this x hxe
    have hX := hy.vals hk
    have hlt : i - ds[a].root < (flat ts x.t (x.i + 5) 0 ds[a].root).length := by
      rw [flat_len]
      have h1' := h1
      have h2' := h2
      rw [hf] at h2'
      generalize ds[a].root = rr at *
      omega
    have key := flat_val H.F (L := L) (ds := ds) (ins := ins) (V := valV ts L ins (sol ts L ins)) (k := k) (X := fun i => (valsD ts (valV ts L ins (sol ts L ins)) k L).getD i 0) (Y := fun i => (valsD ts (valV ts L ins (sol ts L ins)) (k - 1) L).getD i 0) (val_bit H (fun j n x hx hk => sol_bit H hT j n x hx hk)) x.t (x.i + 5) 0 ds[a].root (wB (x.kind == 2)) hs hl hw ?_ (hX k) (fun _ => hX (k - 1))
    · rw [allAt_get] at key
      obtain ⟨n', hn'⟩ : ∃ n', (flat ts x.t (x.i + 5) 0 ds[a].root)[i - ds[a].root]? = some n' := ⟨_, List.getElem?_eq_getElem hlt⟩
      have h3 := (allAt_get _ _).1 (hy.nodes hk) _ _ hn'
      rw [Nat.add_sub_cancel' h1, hn] at h3
      cases h3
      have := key _ _ hn'
      rw [Nat.add_sub_cancel' h1] at this
      exact this
    · intro j hj
      have hjl := nms_lt x.t _ j hj
      obtain ⟨z, hz, he⟩ := H.decl j (by omega) (nms_nm x.t _ j hj)
      have hfd : 0 ≤ findF ds (tkAt ts j).text := by
        rw [nms_nmD ts x.t _ false] at hj
        obtain ⟨y, hy, rfl⟩ := List.mem_map.1 hj
        exact hB.decl x (List.mem_of_getElem? hx) hk y hy
      obtain ⟨b, hb, rfl⟩ := List.getElem_of_mem hz
      have hbd : b < ds.length := by have := hB.dx.len; omega
      obtain ⟨z', hz', hyb⟩ := hat b _ (List.getElem?_eq_getElem hbd)
      rw [List.getElem?_eq_getElem hb] at hz'
      cases hz'
      have hfb : findF ds (tkAt ts j).text = (b : Int) := by
        have h5 := hB.N.own b hbd
        rw [findF_name ds (b := (tkAt ts j).text) (by rw [hyb.name]; exact he)] at h5
        exact h5
      have hgd : ds.getD b ⟨0, 0, ⟨#[]⟩, 0, 0, 0, 0⟩ = ds[b] := by rw [List.getD_eq_getElem?_getD, List.getElem?_eq_getElem hbd]; rfl
      unfold nameF kindAt numAt rootAt
      rw [hfb]
      simp only [Int.toNat_natCast]
      rw [hgd, hyb.kind]
      have hnb := hnum b ds[b] L[b] (List.getElem?_eq_getElem hbd) (List.getElem?_eq_getElem hb)
      by_cases hkb : L[b].kind = 0
      · rw [if_pos hkb]
        obtain ⟨m, hm, hg⟩ := hnb.1 hkb
        rw [← he, val_in H hg, hm]
      · rw [if_neg hkb]
        obtain ⟨m, hm, hg⟩ := hnb.2 hkb
        rw [← he, val_eq H hg]
        exact (hroot b _ _ m k (List.getElem?_eq_getElem hbd) (List.getElem?_eq_getElem hb) hkb hg).symm
  · intro a d hd hk i n hn h1 h2 c hc
    obtain ⟨x, hx, hy⟩ := hat a d hd
    have hkx : x.kind ≠ 0 := by rw [← hy.kind]; exact hk
    have hf := hy.fin hkx
    have hD : AllAt (fun j n => dlAt ns j = n.delayed) d.root (flat ts x.t (x.i + 5) 0 d.root) := by
      refine AllAt.mono (fun j m h => ?_) _ _ (hy.nodes hkx)
      unfold dlAt
      rw [h]
      show (bindF ds m).delayed = _
      unfold bindF; split <;> rfl
    have key := flat_kids x.t (x.i + 5) 0 d.root d.fin (by omega) hD
    obtain ⟨n', hn'⟩ : ∃ n', (flat ts x.t (x.i + 5) 0 d.root)[i - d.root]? = some n' := ⟨_, List.getElem?_eq_getElem (by rw [flat_len]; omega)⟩
    have h3 := (allAt_get _ _).1 (hy.nodes hkx) _ _ hn'
    rw [Nat.add_sub_cancel' h1, hn] at h3
    cases h3
    have e1 : needs (bindF ds n') = needs n' := by
      obtain ⟨k1, k2, k3, k4⟩ := bindF_keep ds n'
      unfold needs; rw [k1, k2, k3, k4]
    have e2 : (bindF ds n').delayed = n'.delayed := by unfold bindF; split <;> rfl
    rw [e1] at hc
    rw [e2]
    have := (allAt_get _ _).1 key _ _ hn' c hc
    rw [Nat.add_sub_cancel' h1] at this
    exact this
  · intro a d hd hk
    obtain ⟨x, hx, hy⟩ := hat a d hd
    have hkx : x.kind ≠ 0 := by rw [← hy.kind]; exact hk
    obtain ⟨n, l, e, hn⟩ := flat_head x.t (x.i + 5) 0 d.root (ts := ts)
    have h := hy.nodes hkx
    rw [e] at h
    have h1 := h.1
    refine ⟨(List.getElem?_eq_some_iff.1 h1).1, ?_⟩
    unfold dlAt
    rw [h1]
    show (bindF ds n).delayed = false
    have : (bindF ds n).delayed = n.delayed := by unfold bindF; split <;> rfl
    rw [this, hn]; rfl
  · intro a d hd hk
    rcases hsg d (List.mem_of_getElem? hd) with ⟨_, _, h⟩ | h
    · exact absurd h hk
    · exact h
  · intro a d hd _ i n hn h1 h2 hk hl hq
    exact mark_of hd hn h1 h2 hk hl hq
  · intro j d k hj
    have hmem := List.mem_of_getElem? hj
    have hE : All2 (DY ts (bindF ds) ns (valV ts L ins (sol ts L ins)) (fun k => valsD ts (valV ts L ins (sol ts L ins)) k L)) (eqsF ds) (eqL L) := All2.filter (fun d x h => by rw [h.kind]) hY
    rcases hE.getOpt j with ⟨h1, _⟩ | ⟨d', x, h1, h2, h3⟩
    · rw [h1] at hj; cases hj
    · rw [hj] at h1; cases h1
      obtain ⟨hm1, hm2⟩ := List.getElem?_eq_some_iff.1 h2
      have hk : x.kind ≠ 0 := by simpa using (List.mem_filter.1 (List.mem_of_getElem? h2)).2
      show (valsD ts (valV ts L ins (sol ts L ins)) k L).getD d.root 0 = _
      rw [flatV_head (h3.vals hk k), sol_eq H.toEqs j k hm1, hm2]

end Go.Proofs.Ytmndgoapkmhglaa
