import Derived.Test.Ytmndgoapkmhglabo02BoxC
import Derived.Test.Ytmndgoapkmhglabo17ParN
namespace Go.Proofs.Ytmndgoapkmhglab
open Go.RowKit
attribute [local go_sem ↓] Go.wp_at_zero Go.wp_at_succ
attribute [local go_sem] Try.fieldTok0 Try.fieldTok1 Try.fieldTok2
theorem par_start {w : World} {X : Nat → Prop} {ts : List Tk} {vt : Value} {B : Nat} (h : w.ownsRow B 150 3 vt ts.length (tkCells ts)) (hX : ∀ k, X k → k < B) (hB : B ≤ w.heap.size) :
    Par (w.alloc (.cells #[vt, .int .i64 0, .int .i64 0, .int .i64 0, .slice none 0 0, .slice none 0 0] 148)) X w.heap.size ts pZero := by
  have hlt := h.lt
  refine ⟨vt, .slice none 0 0, .slice none 0 0, heap_alloc_new w _, (own_zero h).alloc _, World.ownsRow_nil _ _ _ _, World.ownsRow_nil _ _ _ _, ?_, by simp [Value.ownBlock], by simp [Value.ownBlock], by simp [Value.ownBlock], by simp [Value.ownBlock], by simp [Value.ownBlock], ?_, ?_, by simp [Value.ownBlock], by simp [Value.ownBlock], ?_⟩
  · intro e; have := (hlt _ e).2; omega
  · intro k hk; have := hX k hk; simp; omega
  · intro hk; have := hX _ hk; omega
  · intro g hg hk; have := (hlt g hg).1; have := hX g hk; omega
def ParseRes (w w' : World) (e : Ending) (s : ByteArray) : Except Nat PS → Prop
  | .ok p => ∃ vd vn, e = .returned (.tuple #[.agg #[vd, vn], .int .i64 0, .bool true]) ∧ w'.ownsRow w.heap.size 126 7 vd p.decls.length (dcCells p.decls) ∧
      w'.ownsRow w.heap.size 171 11 vn p.nodes.length (ndCells (p.nodes.map (bindF p.decls))) ∧ (∀ g, vd.ownBlock = some g → vn.ownBlock ≠ some g)
  | .error k => e = .returned (.tuple #[.agg #[.slice none 0 0, .slice none 0 0], .int .i64 ((tkAt (toks s) k).pos : Int), .bool false])
theorem own_base {w : World} {B e size n : Nat} {v : Value} {xs : List Value} (h : w.ownsRow 0 e size v n xs) (hb : ∀ g, v.ownBlock = some g → B ≤ g) : w.ownsRow B e size v n xs := by
  refine ⟨h.1, ?_⟩
  rcases h.2 with h0 | ⟨g, cap, cur, hv, _, hr⟩
  · exact .inl h0
  · exact .inr ⟨g, cap, cur, hv, hb g (by rw [hv]; rfl), hr⟩
set_option maxHeartbeats 1000000 in
set_option maxRecDepth 100000 in
theorem parse_any (s : ByteArray) (w : World) (hs : s.size ≤ 1500) :
    Calls Try.prog 53 #[.string s] w fun e w' => ParseRes w w' e s (parseF s) ∧ Below w.heap.size w w' := by
  have ht := toks_ok s hs
  have hdg := toks_dig s
  go_enter Try.func53, Try.ntmps53
  go_wp2_with fail
  refine (tokens_any s _ hs).mono ?_
  rintro e w1 ⟨vt, rfl, hown, hb1⟩
  have hR1 := (hb1.block w.heap.size (by simp)).trans (heap_alloc_new w _)
  have hB1 : Below w.heap.size w w1 := ((Below.refl _ _).alloc (Nat.le_refl _) _).trans (hb1.mono (by simp))
  have hsz1 : w.heap.size + 1 ≤ w1.heap.size := by have := hb1.size; simpa using this
  have hP0 := par_start (X := fun k => k < w.heap.size + 1) hown (by simp) (by simpa using hsz1)
  obtain ⟨g, cap, rfl, _, _⟩ := hown.form (by have := ht.pos; omega)
  have HT := hide ht
  have HDG := hide hdg
  have HP0 := hide hP0
  clear hown hb1 ht hdg hP0
  go_wp2_with fail
  go_loopg [9] (toks s).length (fun m _ wr => ∃ p, Par wr (fun k => k < w.heap.size + 1) w1.heap.size (toks s) p ∧ p.Wf (toks s) ∧ p.depth = 0 ∧ Fr (fun k => k < w.heap.size + 1) w1 wr ∧ (toks s).length - p.next ≤ m ∧ declsF (toks s) m p = parseF s)
  case atStart => exact ⟨pZero, HP0.out, pZero_wf HT.out, rfl, Fr.of_below ((Below.refl _ _).alloc (Nat.le_refl _) _) (fun k hk => by omega), by simp, rfl⟩
  case round =>
    obtain ⟨p, hpr, hwf, hd0, hfr, hm, hdec⟩ := hrel
    have HD0 := hide hd0
    have HDEC := hide hdec
    have hnx := hwf.next
    clear hd0 hdec
    go_wp2_with fail
    refine (here_any _ _ _ (toks s) p hpr hnx HT.out.1).mono ?_
    rintro e w2 ⟨rfl, hb2⟩
    have hP2 := hpr.below hb2
    have hF2 := hfr.trans (hpr.fr hb2)
    clear hpr hb2 hfr
    by_cases hk : (p.hd (toks s)).kind = 0
    · have q1 : (((p.hd (toks s)).kind : Int) != 0) = false := by rw [hk]; rfl
      have HR : Hid (parseF s = .ok p) := hide (by
        rw [← HDEC.out]
        cases gk with
        | zero => omega
        | succ m => unfold declsF; rw [if_pos hk])
      clear hk
      go_wp2_with fail
      refine (bind_any _ _ _ p hP2 (by have := hwf.nodes; have := HT.out.1; omega) (by have := hwf.decls; have := HT.out.1; omega)).mono ?_
      rintro e w3 ⟨rfl, hp3, hf3⟩
      have hF3 := hF2.trans hf3
      clear hP2 hf3 hF2
      obtain ⟨vt3, vd3, vn3, hv3⟩ := hp3
      obtain ⟨ad, cd, rfl, _⟩ := own_shape hv3.decls
      obtain ⟨an, cn, rfl, _⟩ := own_shape hv3.nodes
      have hln : ({ p with nodes := p.nodes.map (bindF p.decls) } : PS).nodes.length = p.nodes.length := by simp
      have hld : ({ p with nodes := p.nodes.map (bindF p.decls) } : PS).decls.length = p.decls.length := rfl
      have c4 := hv3.cell.2.2.2.2.1
      have c5 := hv3.cell.2.2.2.2.2
      have hR3 := (hF3.block w.heap.size (by omega)).trans hR1
      have r0 : w3.cell? ⟨w.heap.size, 0, none⟩ = some (.slice none 0 0) := by rw [cell_of_row w3 _ 0 _ _ _ hR3]; rfl
      have r1 : w3.cell? ⟨w.heap.size, 1, none⟩ = some (.slice none 0 0) := by rw [cell_of_row w3 _ 1 _ _ _ hR3]; rfl
      have rF : ∀ i, w3.frozen? ⟨w.heap.size, i, none⟩ = false := fun i => frozen_of_row w3 _ i _ _ hR3
      have HV := hide hv3
      have HF3 := hide hF3
      rw [hln] at c5
      rw [hld] at c4
      clear hv3 hF3 hR3
      go_wp2
      refine bodyPost_ret (v := .tuple #[.agg #[.slice ad p.decls.length cd, .slice an p.nodes.length cn], .int .i64 0, .bool true]) (by simp [results, Try.results53, go_sem, *]) rfl ?_
      refine ⟨?_, ?_⟩
      · rw [HR.out]
        have hg : ∀ {e size n : Nat} {v : Value} {xs : List Value}, w3.ownsRow 0 e size v n xs → (∀ g, v.ownBlock = some g → ¬ g < w.heap.size + 1) →
            ((w3.setCell ⟨w.heap.size, 0, none⟩ (.slice ad p.decls.length cd)).setCell ⟨w.heap.size, 1, none⟩ (.slice an p.nodes.length cn)).ownsRow w.heap.size e size v n xs := by
          intro e size n v xs ho hx
          have k1 : w3.grownBy (w3.setCell ⟨w.heap.size, 0, none⟩ (.slice ad p.decls.length cd)) (some w.heap.size) := ⟨rfl, rfl, rfl, by simp, fun k _ hk => heap_setCell_other _ ⟨w.heap.size, 0, none⟩ k _ (fun e => hk (by simp [e]))⟩
          have k2 : (w3.setCell ⟨w.heap.size, 0, none⟩ (.slice ad p.decls.length cd)).grownBy ((w3.setCell ⟨w.heap.size, 0, none⟩ (.slice ad p.decls.length cd)).setCell ⟨w.heap.size, 1, none⟩ (.slice an p.nodes.length cn)) (some w.heap.size) := ⟨rfl, rfl, rfl, by simp, fun k _ hk => heap_setCell_other _ ⟨w.heap.size, 1, none⟩ k _ (fun e => hk (by simp [e]))⟩
          have hne : v.ownBlock ≠ some w.heap.size := fun e => hx _ e (by omega)
          exact own_base ((ho.kept k1 (.inr hne)).kept k2 (.inr hne)) (fun g hg => by have := hx g hg; omega)
        refine ⟨_, _, rfl, hg HV.out.decls HV.out.xd, ?_, ?_⟩
        · have := hg HV.out.nodes HV.out.xn
          rw [hln] at this
          exact this
        · have := HV.out.dn
          rw [hln] at this
          exact this
      · exact ((hB1.trans ((HF3.out.mono (Y := fun k => k < w.heap.size) (fun k hk => by show k < _; omega)).to_below)).setCell (Nat.le_refl _) _).setCell (Nat.le_refl _) _
    · have q1 : (((p.hd (toks s)).kind : Int) != 0) = true := by rw [bne_iff_ne]; omega
      have HKD := hide hk
      clear hk
      go_wp2_with fail
      refine (declaration_any HT.out HDG.out _ _ _ p hP2 hwf HD0.out).mono ?_
      rintro e w3 ⟨hr, hf3⟩
      have hF3 := hF2.trans hf3
      clear hP2 hf3 hF2
      cases hy : declarationF (toks s) p with
      | error k =>
        rw [hy] at hr
        obtain ⟨rfl, p', hp', hk1, hk2, _⟩ := hr
        have HR : Hid (parseF s = .error k) := hide (by
          rw [← HDEC.out]
          cases gk with
          | zero => omega
          | succ m => unfold declsF; rw [if_neg HKD.out, hy])
        have hn' : p'.next < (toks s).length := by omega
        have HK1 := hide hk1
        clear hy hk1
        go_wp2_with fail
        refine (here_any _ _ _ (toks s) p' hp' hn' HT.out.1).mono ?_
        rintro e w4 ⟨rfl, hb4⟩
        have hF4 := hF3.trans (hp'.fr hb4)
        have hR4 := (hF4.block w.heap.size (by omega)).trans hR1
        have r0 : w4.cell? ⟨w.heap.size, 0, none⟩ = some (.slice none 0 0) := by rw [cell_of_row w4 _ 0 _ _ _ hR4]; rfl
        have r1 : w4.cell? ⟨w.heap.size, 1, none⟩ = some (.slice none 0 0) := by rw [cell_of_row w4 _ 1 _ _ _ hR4]; rfl
        have rF : ∀ i, w4.frozen? ⟨w.heap.size, i, none⟩ = false := fun i => frozen_of_row w4 _ i _ _ hR4
        have HF4 := hide hF4
        clear hF3 hF4 hb4 hp' hR4
        go_wp2
        refine bodyPost_ret (v := .tuple #[.agg #[.slice none 0 0, .slice none 0 0], .int .i64 ((p'.hd (toks s)).pos : Int), .bool false]) (by simp [results, Try.results53, go_sem, *]) rfl ?_
        refine ⟨?_, ?_⟩
        · rw [HR.out]
          show _ = _
          rw [← HK1.out]
          rfl
        · exact ((hB1.trans ((HF4.out.mono (Y := fun k => k < w.heap.size) (fun k hk => by show k < _; omega)).to_below)).setCell (Nat.le_refl _) _).setCell (Nat.le_refl _) _
      | ok p' =>
        rw [hy] at hr
        obtain ⟨rfl, hp'⟩ := hr
        have hds := declaration_step HT.out hwf HD0.out hy
        have HY := hide hy
        clear hy
        go_wp2_with fail
        go_roundg (gk - 1)
        case measure => omega
        case rel =>
          refine ⟨p', hp', hds.wf, by rw [hds.depth]; exact HD0.out, hF3, by have := hds.lt; omega, ?_⟩
          rw [← HDEC.out]
          cases gk with
          | zero => omega
          | succ m => simp only [declsF, Nat.add_sub_cancel]; rw [if_neg HKD.out, HY.out]
structure ProgAt (w : World) (q : Nat) (ds : List Dc) (ns : List Nd) (vd vn : Value) : Prop where
  lt : q < w.heap.size
  c0 : w.cell? ⟨q, 0, none⟩ = some vd
  c1 : w.cell? ⟨q, 1, none⟩ = some vn
  decls : w.ownsRow 0 126 7 vd ds.length (dcCells ds)
  nodes : w.ownsRow 0 171 11 vn ns.length (ndCells ns)
theorem ProgAt.below {w w' : World} {q : Nat} {ds : List Dc} {ns : List Nd} {vd vn : Value} (h : ProgAt w q ds ns vd vn) (hb : Below w.heap.size w w') : ProgAt w' q ds ns vd vn :=
  ⟨Nat.lt_of_lt_of_le h.lt hb.size, (hb.cell h.lt).trans h.c0, (hb.cell h.lt).trans h.c1, bel_own h.decls hb, bel_own h.nodes hb⟩
def optVal (o : Option Nat) : Value := .tuple #[.int .i64 ((o.getD 0 : Nat) : Int), .bool o.isSome]
theorem opt_some {o : Option Nat} {a : Nat} (h : o = some a) : Ending.returned (.tuple #[.int .i64 (a : Int), .bool true]) = .returned (optVal o) := by rw [h]; rfl
theorem opt_none {o : Option Nat} (h : o = none) : Ending.returned (.tuple #[.int .i64 0, .bool false]) = .returned (optVal o) := by rw [h]; rfl
theorem drop_at {α : Type} (l : List α) (k : Nat) (h : k < l.length) : l.drop k = (l[k]'h) :: l.drop (k + 1) := List.drop_eq_getElem_cons h
theorem dc_later {w wr : World} {g cap : Nat} {l : List Dc} (h : w.ownsRow 0 126 7 (.slice (some ⟨g, 0, none⟩) l.length cap) l.length (dcCells l)) (hb : Below w.heap.size w wr) (hg : g < w.heap.size) {k : Nat} (hk : k < l.length) (a : Dc) (ha : a = l[k]'hk) :
    wr.cell? ⟨g, k * 7, none⟩ = some (.int .i64 (a.kind : Int)) ∧ wr.cell? ⟨g, k * 7 + 1, none⟩ = some (.int .i64 (a.number : Int)) ∧ wr.cell? ⟨g, k * 7 + 2, none⟩ = some (.string a.name) ∧ wr.cell? ⟨g, k * 7 + 3, none⟩ = some (.int .i64 (a.pos : Int)) ∧
    wr.cell? ⟨g, k * 7 + 4, none⟩ = some (.int .i64 (a.place : Int)) ∧ wr.cell? ⟨g, k * 7 + 5, none⟩ = some (.int .i64 (a.root : Int)) ∧ wr.cell? ⟨g, k * 7 + 6, none⟩ = some (.int .i64 (a.fin : Int)) := by
  have hcs := dcAt_cells h hk
  rw [← ha] at hcs
  have hcr : ∀ j, j < 7 → wr.cell? ⟨g, k * 7 + j, none⟩ = a.cells[j]? := fun j hj => (hb.cell (p := ⟨g, k * 7 + j, none⟩) hg).trans (hcs j hj)
  exact ⟨hcr 0 (by omega), hcr 1 (by omega), hcr 2 (by omega), hcr 3 (by omega), hcr 4 (by omega), hcr 5 (by omega), hcr 6 (by omega)⟩
theorem nd_later {w wr : World} {g cap : Nat} {l : List Nd} (h : w.ownsRow 0 171 11 (.slice (some ⟨g, 0, none⟩) l.length cap) l.length (ndCells l)) (hb : Below w.heap.size w wr) (hg : g < w.heap.size) {k : Nat} (hk : k < l.length) (a : Nd) (ha : a = l[k]'hk) :
    wr.cell? ⟨g, k * 11, none⟩ = some (.int .i64 (a.kind : Int)) ∧ wr.cell? ⟨g, k * 11 + 1, none⟩ = some (.int .i64 (a.pos : Int)) ∧ wr.cell? ⟨g, k * 11 + 2, none⟩ = some (.int .i64 (a.value : Int)) ∧ wr.cell? ⟨g, k * 11 + 3, none⟩ = some (.string a.name) ∧
    wr.cell? ⟨g, k * 11 + 4, none⟩ = some (.int .i64 a.decl) ∧ wr.cell? ⟨g, k * 11 + 5, none⟩ = some (.int .i64 (a.op : Int)) ∧ wr.cell? ⟨g, k * 11 + 6, none⟩ = some (.int .i64 (a.a : Int)) ∧ wr.cell? ⟨g, k * 11 + 7, none⟩ = some (.int .i64 (a.b : Int)) ∧
    wr.cell? ⟨g, k * 11 + 8, none⟩ = some (.int .i64 (a.c : Int)) ∧ wr.cell? ⟨g, k * 11 + 9, none⟩ = some (.bool a.delayed) ∧ wr.cell? ⟨g, k * 11 + 10, none⟩ = some (.bool a.behind) := by
  have hcs := ndAt_cells h hk
  rw [← ha] at hcs
  have hcr : ∀ j, j < 11 → wr.cell? ⟨g, k * 11 + j, none⟩ = a.cells[j]? := fun j hj => (hb.cell (p := ⟨g, k * 11 + j, none⟩) hg).trans (hcs j hj)
  exact ⟨hcr 0 (by omega), hcr 1 (by omega), hcr 2 (by omega), hcr 3 (by omega), hcr 4 (by omega), hcr 5 (by omega), hcr 6 (by omega), hcr 7 (by omega), hcr 8 (by omega), hcr 9 (by omega), hcr 10 (by omega)⟩
set_option maxHeartbeats 1000000 in
set_option maxRecDepth 100000 in
theorem tooMany_any (w : World) (q : Nat) (ds : List Dc) (ns : List Nd) (vd vn : Value) (h : ProgAt w q ds ns vd vn) (hdl : ds.length ≤ 1501) :
    Calls Try.prog 82 #[.pointer (some ⟨q, 0, none⟩)] w fun e w' => e = .returned (optVal (tooManyF ds)) ∧ Below w.heap.size w w' := by
  have c0 := h.c0
  obtain ⟨av, cap, rfl, hsh⟩ := own_shape h.decls
  have HO := hide h.decls
  have HSH := hide hsh
  clear h hsh
  go_enter Try.func82, Try.ntmps82
  go_wp2
  go_loopw [12] (fun i wr => ∃ k : Nat, k ≤ ds.length ∧ i = .int .i64 k ∧ Below w.heap.size w wr ∧ tooManyF (ds.drop k) = tooManyF ds) (fun i _ => ds.length - (intOf i).toNat)
  case atStart => exact ⟨0, Nat.zero_le _, rfl, Below.refl _ _, rfl⟩
  case round =>
    obtain ⟨k, hk, rfl, hbel, hrec⟩ := hrel
    by_cases hlt : k < ds.length
    · obtain ⟨g, rfl, _, hg2⟩ := HSH.out (by omega)
      rw [drop_at ds k hlt] at hrec
      obtain ⟨a, ha⟩ : ∃ a, a = ds[k]'hlt := ⟨_, rfl⟩
      rw [← ha] at hrec
      obtain ⟨x0, x1, x2, x3, x4, x5, x6⟩ := dc_later HO.out hbel hg2 hlt a ha
      have j1 : (0 : Int) ≤ (k : Int) := by omega
      have j2 : (k : Int) < (ds.length : Int) := by omega
      simp only [tooManyF] at hrec
      have HREC := hide hrec
      clear ha hrec c0
      by_cases hkd : a.kind = 0
      · have q0 : ((a.kind : Int) == 0) = true := by rw [hkd]; rfl
        have HM : Hid (most a = 4) := hide (by unfold most; rw [if_pos hkd])
        clear hkd
        by_cases hn : 4 ≤ a.number
        · have q1 : (4 : Int) ≤ (a.number : Int) := by omega
          go_wp2
          go_ret2
          exact ⟨opt_some (by rw [← HREC.out, HM.out, if_pos hn]), hbel.alloc hbel.size _⟩
        · have q1 : ¬ (4 : Int) ≤ (a.number : Int) := by omega
          go_wp2
          go_roundw
          case rel => exact ⟨k + 1, by omega, by go_num, hbel.alloc hbel.size _, by rw [← HREC.out, HM.out, if_neg hn]⟩
          case measure => simp [intOf]; omega
      · have q0 : ((a.kind : Int) == 0) = false := by rw [beq_eq_false_iff_ne]; omega
        have HM : Hid (most a = 12) := hide (by unfold most; rw [if_neg hkd])
        clear hkd
        by_cases hn : 12 ≤ a.number
        · have q1 : (12 : Int) ≤ (a.number : Int) := by omega
          go_wp2
          go_ret2
          exact ⟨opt_some (by rw [← HREC.out, HM.out, if_pos hn]), hbel.alloc hbel.size _⟩
        · have q1 : ¬ (12 : Int) ≤ (a.number : Int) := by omega
          go_wp2
          go_roundw
          case rel => exact ⟨k + 1, by omega, by go_num, hbel.alloc hbel.size _, by rw [← HREC.out, HM.out, if_neg hn]⟩
          case measure => simp [intOf]; omega
    · have HF : Hid (tooManyF ds = none) := hide (by rw [← hrec, List.drop_of_length_le (by omega)]; rfl)
      clear hrec
      go_wp2
      go_ret2
      exact ⟨opt_none HF.out, hbel⟩
set_option maxHeartbeats 400000 in
theorem takesTruths_any (op : Nat) (w : World) : Calls Try.prog 112 #[.int .i64 (op : Int)] w fun e w' => e = .returned (.bool (takesT op)) ∧ w = w' := by
  by_cases h1 : op = 11
  · have HF : Hid (takesT op = true) := hide (by rw [h1]; rfl)
    have q1 : ((op : Int) == 11) = true := by rw [h1]; rfl
    clear h1
    go_enter Try.func112, Try.ntmps112
    go_wp2
    go_ret
    exact ⟨by rw [HF.out]; rfl, rfl⟩
  · have q1 : ((op : Int) == 11) = false := by rw [beq_eq_false_iff_ne]; omega
    by_cases h2 : op = 12
    · have HF : Hid (takesT op = true) := hide (by rw [h2]; rfl)
      have q2 : ((op : Int) == 12) = true := by rw [h2]; rfl
      clear h1 h2
      go_enter Try.func112, Try.ntmps112
      go_wp2
      go_ret
      exact ⟨by rw [HF.out]; rfl, rfl⟩
    · have HF : Hid (takesT op = false) := hide (by simp [takesT, h1, h2])
      have q2 : ((op : Int) == 12) = false := by rw [beq_eq_false_iff_ne]; omega
      clear h1 h2
      go_enter Try.func112, Try.ntmps112
      go_wp2
      go_ret
      exact ⟨by rw [HF.out]; rfl, rfl⟩
set_option maxHeartbeats 400000 in
theorem makesTruth_any (op : Nat) (w : World) : Calls Try.prog 132 #[.int .i64 (op : Int)] w fun e w' => e = .returned (.bool (makesT op)) ∧ w = w' := by
  by_cases h1 : op = 9
  · have HF : Hid (makesT op = true) := hide (by rw [h1]; rfl)
    have q1 : ((op : Int) == 9) = true := by rw [h1]; rfl
    clear h1
    go_enter Try.func132, Try.ntmps132
    go_wp2
    go_ret
    exact ⟨by rw [HF.out]; rfl, rfl⟩
  · have q1 : ((op : Int) == 9) = false := by rw [beq_eq_false_iff_ne]; omega
    by_cases h2 : op = 10
    · have HF : Hid (makesT op = true) := hide (by rw [h2]; rfl)
      have q2 : ((op : Int) == 10) = true := by rw [h2]; rfl
      clear h1 h2
      go_enter Try.func132, Try.ntmps132
      go_wp2
      go_ret
      exact ⟨by rw [HF.out]; rfl, rfl⟩
    · have HF : Hid (makesT op = takesT op) := hide (by simp [makesT, h1, h2])
      have q2 : ((op : Int) == 10) = false := by rw [beq_eq_false_iff_ne]; omega
      clear h1 h2
      go_enter Try.func132, Try.ntmps132
      go_wp2_with (go_at_call 112; refine (takesTruths_any _ _).mono ?_; rintro e w' ⟨rfl, rfl⟩)
      go_ret
      exact ⟨by rw [HF.out]; rfl, rfl⟩
end Go.Proofs.Ytmndgoapkmhglab
