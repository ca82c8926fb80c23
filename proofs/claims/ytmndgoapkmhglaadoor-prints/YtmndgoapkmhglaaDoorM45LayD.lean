import Derived.Lib.AppendStr
import Derived.Laws.IdiomStrings
import Derived.Test.YtmndgoapkmhglaaDoorM15Bytes
import Derived.Test.YtmndgoapkmhglaaDoorM44LayB
namespace Go.Proofs.YtmndgoapkmhglaaDoor
open Go.RowKit
attribute [local go_sem ↓] Go.wp_at_zero Go.wp_at_succ
attribute [local go_sem] Tryd.fieldTok0 Tryd.fieldTok1 Tryd.fieldTok2

theorem strCells_b (l : List UInt8) : Lib.strCells ⟨l.toArray⟩ = bCells l := by simp [Lib.strCells, bCells]

theorem step_append_str {P : Program} (w : World) {ops : Array Oper} {o : Oper} {a : Act} {K : Act → World → Prop} {Q : Exit → Act → World → Prop} {E : Prop} (hgd : o.guard = none) (sl x : Operand) (t u : TypeId)
    (ho : o.op = .call { callee := .builtin .append, args := #[sl, x], argTypes := #[t, u] })
    (base : Nat) (e : TypeId) (i : TypeInfo) (ht : P.underlying t = some (.slice e)) (hu : P.underlying u = some .string) (hi : P.info? e = some i) (hz : i.zero = some (.int .u8 0))
    (hsize : i.size = 1) (hby : i.bytes = 1)
    (v : Value) (n : Nat) (xs : List Value) (hs : a.eval sl = v) (hown : w.ownsRow base e 1 v n xs) (s : ByteArray) (hx : a.eval x = .string s)
    (h63 : n + s.size ≤ maxLen) (hbytes : n + s.size ≤ 140737488355328) (hbase : base ≤ w.heap.size)
    (h : ∀ v' w', w'.ownsRow base e 1 v' (n + s.size) (xs ++ Lib.strCells s) → w.grownBy w' v.ownBlock → K (a.put o.dst v') w') :
    if Region.wanted o (yielded ops a.tmps) = true then Oper.wp P o a w K Q else E := by
  have hw : Region.wanted o (yielded ops a.tmps) = true := by simp [Region.wanted, hgd]
  rw [if_pos hw]
  obtain ⟨v', w', hr, h2, h3, _⟩ := Lib.run_append_own_string (P := P) w base t u o.type e i ht hu hi hz hsize hby v n xs hown s h63 hbytes hbase
  unfold Oper.wp execOp
  simp only [ho, resolve, invoke, builtin, Sem.run_bind, Sem.run_pure, Result.andThen_ok, List.map_toArray, List.map_cons, List.map_nil, hs, hx, hr]
  exact h v' w' h2 h3

theorem convert_own {P : Program} {w : World} {base src dst e : Nat} {v : Value} {l : List UInt8} (hs : P.underlying src = some (.slice e)) (he : P.underlying e = some (.int .u8)) (hd : P.underlying dst = some .string) (h : w.ownsRow base e 1 v l.length (bCells l)) :
    (convert src dst v).run P w = .ok (.string ⟨l.toArray⟩) w := by
  rcases h.2 with ⟨rfl, hn⟩ | ⟨g, cap, cur, rfl, _⟩
  · have hl : l = [] := List.eq_nil_of_length_eq_zero hn
    subst hl
    rw [run_convert_bytes_string w src dst e none 0 0 hs he hd]
    rfl
  · exact run_convert_bytes_back w src dst e ⟨g, 0, none⟩ cap l hs he hd (fun j hj => h.cells (g := g) rfl j _ (by simp [bCells, hj]))

/-- no token is longer than the text. -/
theorem tok_size (s : ByteArray) (i : Nat) : (tkAt (toks s) i).text.size ≤ s.size := by
  have key : ∀ f k, ∀ t ∈ toksFrom s f k, t.text.size ≤ s.size := by
    intro f
    induction f with
    | zero => intro k t ht; simp [toksFrom] at ht
    | succ f ih =>
      intro k t ht
      simp only [toksFrom] at ht
      split at ht
      · split at ht
        · exact ih _ t ht
        · rcases List.mem_cons.1 ht with rfl | ht
          · show (s.extract k (endOf s k)).size ≤ s.size
            rw [ByteArray.size_extract]; omega
          · exact ih _ t ht
      · simp at ht
  by_cases hi : i < (toks s).length
  · have hm := tkAt_mem hi
    generalize tkAt (toks s) i = t at hm ⊢
    unfold toks at hm
    rcases List.mem_append.1 hm with h | h
    · exact key _ _ _ h
    · simp at h; rw [h]; exact Nat.zero_le _
  · have : tkAt (toks s) i = tkEnd := by unfold tkAt; rw [List.getD_eq_getElem?_getD, List.getElem?_eq_none (by omega)]; rfl
    rw [this]; exact Nat.zero_le _

theorem trim_len : ∀ l : List UInt8, (trimL l).length ≤ l.length := by
  intro l
  induction l with
  | nil => exact Nat.le_refl _
  | cons c r ih =>
    cases r with
    | nil => exact Nat.le_refl _
    | cons d r =>
      unfold trimL
      split
      · exact Nat.le_trans ih (by simp)
      · exact Nat.le_refl _
theorem bare_len (t : Tk) : (bareL t).length ≤ t.text.size := by
  unfold bareL
  have hlen : t.l.length = t.text.size := Array.length_toList
  split
  · have := trim_len t.l; omega
  · omega
theorem gap_len (a b : List UInt8) : (gapL a b).length ≤ 1 := by
  unfold gapL; split
  · simp
  split <;> simp
theorem out_len (s : ByteArray) (hs : s.size ≤ 1500) : ∀ k, (outN (toks s) k).length ≤ k * 1501 := by
  intro k
  induction k with
  | zero => simp [outN]
  | succ k ih =>
    have h1 := bare_len (tkAt (toks s) k)
    have h2 := tok_size s k
    have h3 := gap_len (tkAt (toks s) (k - 1)).l (tkAt (toks s) k).l
    unfold outN pieceL
    rw [List.length_append, List.length_append]
    split
    · simp; omega
    · omega

set_option maxHeartbeats 2000000 in
set_option maxRecDepth 100000 in
theorem out_any (s : ByteArray) (w : World) (hs : s.size ≤ 1500) :
    Calls Tryd.prog 8 #[.string s] w fun e w' => e = .returned (.string (outF s)) ∧ Below w.heap.size w w' := by
  obtain ⟨i0, hi0, hz0, hz1, hz2⟩ := info_parts Tryd.infoU8
  have ht := toks_ok s hs
  have hTl := ht.1
  go_enter Tryd.func8, Tryd.ntmps8
  go_wp2_with fail
  refine (tokens_any s _ hs).mono ?_
  rintro e w1 ⟨vt, rfl, hown, hb1⟩
  have hsz1 := hb1.size
  obtain ⟨g, cap, rfl, _, hg⟩ := hown.form (by have := ht.pos; omega)
  have HOWN := hide hown
  have HT := hide ht
  have HB1 := hide hb1
  clear hown ht hb1
  go_wp2_with fail
  go_loopw [3, 11] (fun v i wr => ∃ k : Nat, k ≤ (toks s).length ∧ i = .int .i64 k ∧ wr.ownsRow w1.heap.size 5 1 v (outN (toks s) k).length (bCells (outN (toks s) k)) ∧ Below w1.heap.size w1 wr) (fun _ i _ => (toks s).length - (intOf i).toNat)
  case atStart => exact ⟨0, Nat.zero_le _, rfl, World.ownsRow_nil _ _ _ _, Below.refl _ _⟩
  case round =>
    obtain ⟨k, hk, rfl, hown, hbel⟩ := hrel
    by_cases hlt : k < (toks s).length
    · obtain ⟨t0, t1, t2⟩ := tkAt_cells HOWN.out hlt
      have x0 := (hbel.cell (p := ⟨g, k * 3, none⟩) hg).trans t0
      have x1 := (hbel.cell (p := ⟨g, k * 3 + 1, none⟩) hg).trans t1
      have x2 := (hbel.cell (p := ⟨g, k * 3 + 2, none⟩) hg).trans t2
      have htz := Nat.le_trans (tok_size s k) hs
      have hol := out_len s hs k
      have hbs := hbel.size
      have j1 : (0 : Int) ≤ (k : Int) := by omega
      have j2 : (k : Int) < ((toks s).length : Int) := by omega
      clear t0 t1 t2
      by_cases hk0 : k = 0
      · have q1 : ¬ (0 : Int) < (k : Int) := by omega
        have HO : Hid (outN (toks s) (k + 1) = outN (toks s) k ++ bareL (tkAt (toks s) k)) := hide (by rw [outN, pieceL, if_pos hk0]; rfl)
        obtain ⟨L, hL⟩ : ∃ L, L = outN (toks s) k := ⟨_, rfl⟩
        rw [← hL] at hown hol
        have HL := hide hL
        clear hk0 hL
        go_wp2_with fail
        refine (laybare_any (tkAt (toks s) k) _ htz).mono ?_
        rintro e w2 ⟨rfl, hb2⟩
        have hB2 : Below w1.heap.size w1 w2 := (hbel.alloc hbel.size _).trans (hb2.mono (by simp; omega))
        have hO2 := bel_own (hown.alloc _) hb2
        have hbl := bare_len (tkAt (toks s) k)
        have hbs2 := hB2.size
        have hz := size_mk (bareL (tkAt (toks s) k))
        clear hb2
        go_wp2_with (at_builtin; refine Lib.wpList_append_own_string w2 rfl _ _ _ _ rfl w1.heap.size 5 i0 Tryd.underlying53 Tryd.underlying9 hi0 hz0 hz1 hz2 _ L.length (bCells L) rfl hO2 ⟨(bareL (tkAt (toks s) k)).toArray⟩ rfl (by unfold maxLen; omega) (by omega) hbs2 ?_; intro v3 w3 hown3 hgrow hv3)
        go_roundw
        case rel =>
          refine ⟨k + 1, by omega, by go_num, ?_, hB2.grown hgrow hbs2 (fun j hj => ownBlock_ge hown j hj)⟩
          rw [HO.out, ← HL.out, bCells_app, List.length_append]
          rw [strCells_b, size_mk] at hown3
          exact hown3
        case measure => simp [intOf]; omega
      · have q1 : (0 : Int) < (k : Int) := by omega
        obtain ⟨m, hm⟩ : ∃ m, k = m + 1 := ⟨k - 1, by omega⟩
        obtain ⟨_, _, t2'⟩ := tkAt_cells HOWN.out (i := m) (by omega)
        have x2' := (hbel.cell (p := ⟨g, m * 3 + 2, none⟩) hg).trans t2'
        have i5 : IntKind.i64.wrap ((k : Int) - 1) = (m : Int) := by rw [wrapI _ (by omega) (by omega)]; omega
        have j3 : (0 : Int) ≤ (m : Int) := by omega
        have j4 : (m : Int) < ((toks s).length : Int) := by omega
        have HO : Hid (outN (toks s) (k + 1) = (outN (toks s) k ++ gapL (tkAt (toks s) m).text.data.toList (tkAt (toks s) k).text.data.toList) ++ bareL (tkAt (toks s) k)) := hide (by rw [outN, pieceL, if_neg hk0, List.append_assoc, show k - 1 = m by omega]; rfl)
        obtain ⟨L, hL⟩ : ∃ L, L = outN (toks s) k := ⟨_, rfl⟩
        rw [← hL] at hown hol
        have HL := hide hL
        have hgl := gap_len (tkAt (toks s) m).text.data.toList (tkAt (toks s) k).text.data.toList
        have hgs := size_mk (gapL (tkAt (toks s) m).text.data.toList (tkAt (toks s) k).text.data.toList)
        have hg' : g < wr.heap.size := by omega
        have y2 : (wr.alloc (.cells #[.int .i64 ((tkAt (toks s) k).kind : Int), .int .i64 ((tkAt (toks s) k).pos : Int), .string (tkAt (toks s) k).text] 57)).cell? ⟨g, m * 3 + 2, none⟩ = some (.string (tkAt (toks s) m).text) := (World.cell?_alloc_past _ _ _ hg').trans x2'
        have y3 : (wr.alloc (.cells #[.int .i64 ((tkAt (toks s) k).kind : Int), .int .i64 ((tkAt (toks s) k).pos : Int), .string (tkAt (toks s) k).text] 57)).cell? ⟨wr.heap.size, 2, none⟩ = some (.string (tkAt (toks s) k).text) := (World.cell?_alloc_at _ _ _ _ rfl).trans rfl
        obtain ⟨v, hv⟩ : ∃ v, v = u3 := ⟨_, rfl⟩
        have ne1 : some g ≠ u3.ownBlock := fun e => by have := (hown.lt _ e.symm).1; omega
        have ne2 : some wr.heap.size ≠ u3.ownBlock := fun e => by have := (hown.lt _ e.symm).2; omega
        clear hk0 hL t2' hm hv v
        go_wp2_with fail
        go_region_held3 (fun w' => w'.cell? ⟨g, m * 3 + 2, none⟩ = some (.string (tkAt (toks s) m).text) ∧ w'.cell? ⟨wr.heap.size, 2, none⟩ = some (.string (tkAt (toks s) k).text)) (first | go_keep | exact ⟨z1, z2⟩)
          (first
           | (go_at_call 15; refine (gap_any _ _ _).mono ?_; rintro e2 w2 ⟨rfl, hw2⟩; subst hw2)
           | (refine step_append_str _ (by rfl) _ _ _ _ (by rfl) w1.heap.size 5 i0 Tryd.underlying53 Tryd.underlying9 hi0 hz0 hz1 hz2 _ L.length (bCells L) (by rfl) ((hown.alloc _).drew) ⟨(gapL (tkAt (toks s) m).text.data.toList (tkAt (toks s) k).text.data.toList).toArray⟩ (by rfl) (by unfold maxLen; omega) (by omega) (by simp; omega) ?_; intro v3 w3 hown3 hgrow; have z1 := hgrow.cell y2 ne1; have z2 := hgrow.cell y3 ne2))
        have z0 := hgrow.cell (a := ⟨wr.heap.size, 0, none⟩) ((World.cell?_alloc_at _ _ _ _ rfl).trans rfl) ne2
        have z00 := hgrow.cell (a := ⟨wr.heap.size, 1, none⟩) ((World.cell?_alloc_at _ _ _ _ rfl).trans rfl) ne2
        have hB3 : Below w1.heap.size w1 w3 := ((hbel.alloc hbel.size _).drew).grown hgrow (by simp; omega) (fun j hj => ownBlock_ge hown j hj)
        have hsz3 := hgrow.size
        rw [strCells_b, hgs, ← List.length_append, ← bCells_app] at hown3
        have hll : (L ++ gapL (tkAt (toks s) m).text.data.toList (tkAt (toks s) k).text.data.toList).length ≤ L.length + 1 := by rw [List.length_append]; omega
        obtain ⟨L2, hL2⟩ : ∃ L2, L2 = L ++ gapL (tkAt (toks s) m).text.data.toList (tkAt (toks s) k).text.data.toList := ⟨_, rfl⟩
        rw [← hL2] at hown3 hll
        have HL2 := hide hL2
        have hbs3 := hB3.size
        clear hgrow x0 x1 x2 x2' y2 y3 hL2 hgs hgl
        go_wp2_with fail
        refine (laybare_any (tkAt (toks s) k) _ htz).mono ?_
        rintro e w4 ⟨rfl, hb4⟩
        have hB4 : Below w1.heap.size w1 w4 := hB3.trans (hb4.mono hbs3)
        have hO4 := bel_own hown3 hb4
        have hbl := bare_len (tkAt (toks s) k)
        have hbs4 := hB4.size
        have hz := size_mk (bareL (tkAt (toks s) k))
        clear hb4
        go_wp2_with (at_builtin; refine Lib.wpList_append_own_string w4 rfl _ _ _ _ rfl w1.heap.size 5 i0 Tryd.underlying53 Tryd.underlying9 hi0 hz0 hz1 hz2 _ L2.length (bCells L2) rfl hO4 ⟨(bareL (tkAt (toks s) k)).toArray⟩ rfl (by unfold maxLen; omega) (by omega) hbs4 ?_; intro v5 w5 hown5 hgrow hv5)
        go_roundw
        case rel =>
          refine ⟨k + 1, by omega, by go_num, ?_, hB4.grown hgrow hbs4 (fun j hj => ownBlock_ge hO4 j hj)⟩
          rw [HO.out, ← HL.out, ← HL2.out, bCells_app, List.length_append]
          rw [strCells_b, size_mk] at hown5
          exact hown5
        case measure => simp [intOf]; omega
    · have ek : k = (toks s).length := by omega
      have hcv := convert_own (P := Tryd.prog) (src := 53) (dst := 9) Tryd.underlying53 Tryd.underlying5 Tryd.underlying9 hown
      have HE := hide ek
      clear ek
      go_wp2
      go_ret
      refine ⟨?_, HB1.out.trans (hbel.mono hsz1)⟩
      rw [HE.out]
      rfl

end Go.Proofs.YtmndgoapkmhglaaDoor

namespace Go.Proofs.YtmndgoapkmhglaaDoor
open Go.RowKit
attribute [local go_sem ↓] Go.wp_at_zero Go.wp_at_succ

/-- what Print lays out. -/
def printF (s : ByteArray) : ByteArray := if (textF s).1 = 0 then outF s else ⟨#[]⟩

theorem text_short {s : ByteArray} (h : (textF s).1 = 0) : s.size ≤ 1500 := by
  by_cases hs : 1500 < s.size
  · exfalso; unfold textF at h; rw [if_pos hs] at h; cases h
  · omega

set_option maxHeartbeats 1000000 in
set_option maxRecDepth 100000 in
theorem print_any (s : ByteArray) (w : World) (hs : s.size ≤ maxLen) :
    Calls Tryd.prog 4 #[.string s] w fun e w' => e = .returned (.tuple #[.string (printF s), .int .i64 ((textF s).1 : Int)]) ∧ Below w.heap.size w w' := by
  go_enter Tryd.func4, Tryd.ntmps4
  go_wp2_with fail
  refine (text_any s w hs (fun h p hp => good_parse s h p hp)).mono ?_
  rintro e w1 ⟨⟨vd, vn, rfl, hr⟩, hb1⟩
  have hv : (∃ a n c, vd = .slice a n c) ∧ (∃ a n c, vn = .slice a n c) := by
    rcases hr with ⟨_, rfl, rfl⟩ | ⟨_, p, _, h1, h2, _⟩
    · exact ⟨⟨_, _, _, rfl⟩, ⟨_, _, _, rfl⟩⟩
    · exact ⟨h1, h2⟩
  obtain ⟨⟨a1, n1, c1, rfl⟩, ⟨a2, n2, c2, rfl⟩⟩ := hv
  clear hr hs
  by_cases he : (textF s).1 = 0
  · have q1 : (((textF s).1 : Int) != 0) = false := by rw [he]; rfl
    have HP : Hid (printF s = outF s) := hide (by unfold printF; rw [if_pos he])
    have HE := hide he
    have hs' := text_short he
    clear he
    go_wp2_with fail
    refine (out_any s _ hs').mono ?_
    rintro e w2 ⟨rfl, hb2⟩
    go_wp2_with fail
    go_ret2
    exact ⟨by rw [HP.out, HE.out]; rfl, (hb1.alloc hb1.size _).trans (hb2.mono (by have := hb1.size; simp; omega))⟩
  · have q1 : (((textF s).1 : Int) != 0) = true := by rw [bne_iff_ne]; omega
    have HP : Hid (printF s = ⟨#[]⟩) := hide (by unfold printF; rw [if_neg he])
    clear he
    go_wp2_with fail
    go_ret2
    exact ⟨by rw [HP.out]; rfl, hb1.alloc hb1.size _⟩

end Go.Proofs.YtmndgoapkmhglaaDoor
