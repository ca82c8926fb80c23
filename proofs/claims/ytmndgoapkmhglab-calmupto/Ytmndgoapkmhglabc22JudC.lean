import Derived.Test.Ytmndgoapkmhglabc05Bytes
import Derived.Test.Ytmndgoapkmhglabc21ParN
namespace Go.Proofs.Ytmndgoapkmhglab
open Go.RowKit
attribute [local go_sem ↓] Go.wp_at_zero Go.wp_at_succ
attribute [local go_sem] Try.fieldTok0 Try.fieldTok1 Try.fieldTok2
theorem par_start {w : World} {X : Nat → Prop} {ts : List Tk} {vt : Value} {B : Nat} (h : w.ownsRow B 150 3 vt ts.length (tkCells ts)) (hX : ∀ k, X k → k < B) (hB : B ≤ w.heap.size) :
    Par (w.alloc (.cells #[vt, .int .i64 0, .int .i64 0, .int .i64 0, .slice none 0 0, .slice none 0 0] 148)) X w.heap.size ts pZero := by
  have hlt := h.lt
  refine ⟨vt, .slice none 0 0, .slice none 0 0, heap_alloc_new w _, (own_zero h).alloc _, World.ownsRow_nil _ _ _ _, World.ownsRow_nil _ _ _ _, ?_, by simp [Value.ownBlock], by simp [Value.ownBlock], by simp [Value.ownBlock], by simp [Value.ownBlock], by simp [Value.ownBlock], ?_, ?_, by simp [Value.ownBlock], by simp [Value.ownBlock], ?_⟩
  · intro e; have := (hlt _ e).2; omega
  · intro k hk; have := hX k hk; simp; omega
  · intro hk; have := hX _ hk; omega
  · intro g hg hk; have := (hlt g hg).1; have := hX g hk; omega
def ParseRes (w w' : World) (e : Ending) (s : ByteArray) : Except Nat PS → Prop
  | .ok p => ∃ vd vn, e = .returned (.tuple #[.agg #[vd, vn], .int .i64 0, .bool true]) ∧ w'.ownsRow w.heap.size 126 7 vd p.decls.length (dcCells p.decls) ∧
      w'.ownsRow w.heap.size 171 11 vn p.nodes.length (ndCells (p.nodes.map (bindF p.decls))) ∧ (∀ g, vd.ownBlock = some g → vn.ownBlock ≠ some g)
  | .error k => e = .returned (.tuple #[.agg #[.slice none 0 0, .slice none 0 0], .int .i64 ((tkAt (toks s) k).pos : Int), .bool false])
theorem own_base {w : World} {B e size n : Nat} {v : Value} {xs : List Value} (h : w.ownsRow 0 e size v n xs) (hb : ∀ g, v.ownBlock = some g → B ≤ g) : w.ownsRow B e size v n xs := by
  refine ⟨h.1, ?_⟩
  rcases h.2 with h0 | ⟨g, cap, cur, hv, _, hr⟩
  · exact .inl h0
  · exact .inr ⟨g, cap, cur, hv, hb g (by rw [hv]; rfl), hr⟩
set_option maxHeartbeats 1000000 in
set_option maxRecDepth 100000 in
theorem parse_any (s : ByteArray) (w : World) (hs : s.size ≤ 1500) :
    Calls Try.prog 53 #[.string s] w fun e w' => ParseRes w w' e s (parseF s) ∧ Below w.heap.size w w' := by
  have ht := toks_ok s hs
  have hdg := toks_dig s
  go_enter Try.func53, Try.ntmps53
  go_wp2_with fail
  refine (tokens_any s _ hs).mono ?_
  rintro e w1 ⟨vt, rfl, hown, hb1⟩
  have hR1 := (hb1.block w.heap.size (by simp)).trans (heap_alloc_new w _)
  have hB1 : Below w.heap.size w w1 := ((Below.refl _ _).alloc (Nat.le_refl _) _).trans (hb1.mono (by simp))
  have hsz1 : w.heap.size + 1 ≤ w1.heap.size := by have := hb1.size; simpa using this
  have hP0 := par_start (X := fun k => k < w.heap.size + 1) hown (by simp) (by simpa using hsz1)
  obtain ⟨g, cap, rfl, _, _⟩ := hown.form (by have := ht.pos; omega)
  have HT := hide ht
  have HDG := hide hdg
  have HP0 := hide hP0
  clear hown hb1 ht hdg hP0
  go_wp2_with fail
  go_loopg [9] (toks s).length (fun m _ wr => ∃ p, Par wr (fun k => k < w.heap.size + 1) w1.heap.size (toks s) p ∧ p.Wf (toks s) ∧ p.depth = 0 ∧ Fr (fun k => k < w.heap.size + 1) w1 wr ∧ (toks s).length - p.next ≤ m ∧ declsF (toks s) m p = parseF s)
  case atStart => exact ⟨pZero, HP0.out, pZero_wf HT.out, rfl, Fr.of_below ((Below.refl _ _).alloc (Nat.le_refl _) _) (fun k hk => by omega), by simp, rfl⟩
  case round =>
    obtain ⟨p, hpr, hwf, hd0, hfr, hm, hdec⟩ := hrel
    have HD0 := hide hd0
    have HDEC := hide hdec
    have hnx := hwf.next
    clear hd0 hdec
    go_wp2_with fail
    refine (here_any _ _ _ (toks s) p hpr hnx HT.out.1).mono ?_
    rintro e w2 ⟨rfl, hb2⟩
    have hP2 := hpr.below hb2
    have hF2 := hfr.trans (hpr.fr hb2)
    clear hpr hb2 hfr
    by_cases hk : (p.hd (toks s)).kind = 0
    · have q1 : (((p.hd (toks s)).kind : Int) != 0) = false := by rw [hk]; rfl
      have HR : Hid (parseF s = .ok p) := hide (by
        rw [← HDEC.out]
        cases gk with
        | zero => omega
        | succ m => unfold declsF; rw [if_pos hk])
      clear hk
      go_wp2_with fail
      refine (bind_any _ _ _ p hP2 (by have := hwf.nodes; have := HT.out.1; omega) (by have := hwf.decls; have := HT.out.1; omega)).mono ?_
      rintro e w3 ⟨rfl, hp3, hf3⟩
      have hF3 := hF2.trans hf3
      clear hP2 hf3 hF2
      obtain ⟨vt3, vd3, vn3, hv3⟩ := hp3
      obtain ⟨ad, cd, rfl, _⟩ := own_shape hv3.decls
      obtain ⟨an, cn, rfl, _⟩ := own_shape hv3.nodes
      have hln : ({ p with nodes := p.nodes.map (bindF p.decls) } : PS).nodes.length = p.nodes.length := by simp
      have hld : ({ p with nodes := p.nodes.map (bindF p.decls) } : PS).decls.length = p.decls.length := rfl
      have c4 := hv3.cell.2.2.2.2.1
      have c5 := hv3.cell.2.2.2.2.2
      have hR3 := (hF3.block w.heap.size (by omega)).trans hR1
      have r0 : w3.cell? ⟨w.heap.size, 0, none⟩ = some (.slice none 0 0) := by rw [cell_of_row w3 _ 0 _ _ _ hR3]; rfl
      have r1 : w3.cell? ⟨w.heap.size, 1, none⟩ = some (.slice none 0 0) := by rw [cell_of_row w3 _ 1 _ _ _ hR3]; rfl
      have rF : ∀ i, w3.frozen? ⟨w.heap.size, i, none⟩ = false := fun i => frozen_of_row w3 _ i _ _ hR3
      have HV := hide hv3
      have HF3 := hide hF3
      rw [hln] at c5
      rw [hld] at c4
      clear hv3 hF3 hR3
      go_wp2
      refine bodyPost_ret (v := .tuple #[.agg #[.slice ad p.decls.length cd, .slice an p.nodes.length cn], .int .i64 0, .bool true]) (by simp [results, Try.results53, go_sem, *]) rfl ?_
      refine ⟨?_, ?_⟩
      · rw [HR.out]
        have hg : ∀ {e size n : Nat} {v : Value} {xs : List Value}, w3.ownsRow 0 e size v n xs → (∀ g, v.ownBlock = some g → ¬ g < w.heap.size + 1) →
            ((w3.setCell ⟨w.heap.size, 0, none⟩ (.slice ad p.decls.length cd)).setCell ⟨w.heap.size, 1, none⟩ (.slice an p.nodes.length cn)).ownsRow w.heap.size e size v n xs := by
          intro e size n v xs ho hx
          have k1 : w3.grownBy (w3.setCell ⟨w.heap.size, 0, none⟩ (.slice ad p.decls.length cd)) (some w.heap.size) := ⟨rfl, rfl, rfl, by simp, fun k _ hk => heap_setCell_other _ ⟨w.heap.size, 0, none⟩ k _ (fun e => hk (by simp [e]))⟩
          have k2 : (w3.setCell ⟨w.heap.size, 0, none⟩ (.slice ad p.decls.length cd)).grownBy ((w3.setCell ⟨w.heap.size, 0, none⟩ (.slice ad p.decls.length cd)).setCell ⟨w.heap.size, 1, none⟩ (.slice an p.nodes.length cn)) (some w.heap.size) := ⟨rfl, rfl, rfl, by simp, fun k _ hk => heap_setCell_other _ ⟨w.heap.size, 1, none⟩ k _ (fun e => hk (by simp [e]))⟩
          have hne : v.ownBlock ≠ some w.heap.size := fun e => hx _ e (by omega)
          exact own_base ((ho.kept k1 (.inr hne)).kept k2 (.inr hne)) (fun g hg => by have := hx g hg; omega)
        refine ⟨_, _, rfl, hg HV.out.decls HV.out.xd, ?_, ?_⟩
        · have := hg HV.out.nodes HV.out.xn
          rw [hln] at this
          exact this
        · have := HV.out.dn
          rw [hln] at this
          exact this
      · exact ((hB1.trans ((HF3.out.mono (Y := fun k => k < w.heap.size) (fun k hk => by show k < _; omega)).to_below)).setCell (Nat.le_refl _) _).setCell (Nat.le_refl _) _
    · have q1 : (((p.hd (toks s)).kind : Int) != 0) = true := by rw [bne_iff_ne]; omega
      have HKD := hide hk
      clear hk
      go_wp2_with fail
      refine (declaration_any HT.out HDG.out _ _ _ p hP2 hwf HD0.out).mono ?_
      rintro e w3 ⟨hr, hf3⟩
      have hF3 := hF2.trans hf3
      clear hP2 hf3 hF2
      cases hy : declarationF (toks s) p with
      | error k =>
        rw [hy] at hr
        obtain ⟨rfl, p', hp', hk1, hk2, _⟩ := hr
        have HR : Hid (parseF s = .error k) := hide (by
          rw [← HDEC.out]
          cases gk with
          | zero => omega
          | succ m => unfold declsF; rw [if_neg HKD.out, hy])
        have hn' : p'.next < (toks s).length := by omega
        have HK1 := hide hk1
        clear hy hk1
        go_wp2_with fail
        refine (here_any _ _ _ (toks s) p' hp' hn' HT.out.1).mono ?_
        rintro e w4 ⟨rfl, hb4⟩
        have hF4 := hF3.trans (hp'.fr hb4)
        have hR4 := (hF4.block w.heap.size (by omega)).trans hR1
        have r0 : w4.cell? ⟨w.heap.size, 0, none⟩ = some (.slice none 0 0) := by rw [cell_of_row w4 _ 0 _ _ _ hR4]; rfl
        have r1 : w4.cell? ⟨w.heap.size, 1, none⟩ = some (.slice none 0 0) := by rw [cell_of_row w4 _ 1 _ _ _ hR4]; rfl
        have rF : ∀ i, w4.frozen? ⟨w.heap.size, i, none⟩ = false := fun i => frozen_of_row w4 _ i _ _ hR4
        have HF4 := hide hF4
        clear hF3 hF4 hb4 hp' hR4
        go_wp2
        refine bodyPost_ret (v := .tuple #[.agg #[.slice none 0 0, .slice none 0 0], .int .i64 ((p'.hd (toks s)).pos : Int), .bool false]) (by simp [results, Try.results53, go_sem, *]) rfl ?_
        refine ⟨?_, ?_⟩
        · rw [HR.out]
          show _ = _
          rw [← HK1.out]
          rfl
        · exact ((hB1.trans ((HF4.out.mono (Y := fun k => k < w.heap.size) (fun k hk => by show k < _; omega)).to_below)).setCell (Nat.le_refl _) _).setCell (Nat.le_refl _) _
      | ok p' =>
        rw [hy] at hr
        obtain ⟨rfl, hp'⟩ := hr
        have hds := declaration_step HT.out hwf HD0.out hy
        have HY := hide hy
        clear hy
        go_wp2_with fail
        go_roundg (gk - 1)
        case measure => omega
        case rel =>
          refine ⟨p', hp', hds.wf, by rw [hds.depth]; exact HD0.out, hF3, by have := hds.lt; omega, ?_⟩
          rw [← HDEC.out]
          cases gk with
          | zero => omega
          | succ m => simp only [declsF, Nat.add_sub_cancel]; rw [if_neg HKD.out, HY.out]
structure ProgAt (w : World) (q : Nat) (ds : List Dc) (ns : List Nd) (vd vn : Value) : Prop where
  lt : q < w.heap.size
  c0 : w.cell? ⟨q, 0, none⟩ = some vd
  c1 : w.cell? ⟨q, 1, none⟩ = some vn
  decls : w.ownsRow 0 126 7 vd ds.length (dcCells ds)
  nodes : w.ownsRow 0 171 11 vn ns.length (ndCells ns)
theorem ProgAt.below {w w' : World} {q : Nat} {ds : List Dc} {ns : List Nd} {vd vn : Value} (h : ProgAt w q ds ns vd vn) (hb : Below w.heap.size w w') : ProgAt w' q ds ns vd vn :=
  ⟨Nat.lt_of_lt_of_le h.lt hb.size, (hb.cell h.lt).trans h.c0, (hb.cell h.lt).trans h.c1, bel_own h.decls hb, bel_own h.nodes hb⟩
def optVal (o : Option Nat) : Value := .tuple #[.int .i64 ((o.getD 0 : Nat) : Int), .bool o.isSome]
theorem opt_some {o : Option Nat} {a : Nat} (h : o = some a) : Ending.returned (.tuple #[.int .i64 (a : Int), .bool true]) = .returned (optVal o) := by rw [h]; rfl
theorem opt_none {o : Option Nat} (h : o = none) : Ending.returned (.tuple #[.int .i64 0, .bool false]) = .returned (optVal o) := by rw [h]; rfl
theorem drop_at {α : Type} (l : List α) (k : Nat) (h : k < l.length) : l.drop k = (l[k]'h) :: l.drop (k + 1) := List.drop_eq_getElem_cons h
theorem dc_later {w wr : World} {g cap : Nat} {l : List Dc} (h : w.ownsRow 0 126 7 (.slice (some ⟨g, 0, none⟩) l.length cap) l.length (dcCells l)) (hb : Below w.heap.size w wr) (hg : g < w.heap.size) {k : Nat} (hk : k < l.length) (a : Dc) (ha : a = l[k]'hk) :
    wr.cell? ⟨g, k * 7, none⟩ = some (.int .i64 (a.kind : Int)) ∧ wr.cell? ⟨g, k * 7 + 1, none⟩ = some (.int .i64 (a.number : Int)) ∧ wr.cell? ⟨g, k * 7 + 2, none⟩ = some (.string a.name) ∧ wr.cell? ⟨g, k * 7 + 3, none⟩ = some (.int .i64 (a.pos : Int)) ∧
    wr.cell? ⟨g, k * 7 + 4, none⟩ = some (.int .i64 (a.place : Int)) ∧ wr.cell? ⟨g, k * 7 + 5, none⟩ = some (.int .i64 (a.root : Int)) ∧ wr.cell? ⟨g, k * 7 + 6, none⟩ = some (.int .i64 (a.fin : Int)) := by
  have hcs := dcAt_cells h hk
  rw [← ha] at hcs
  have hcr : ∀ j, j < 7 → wr.cell? ⟨g, k * 7 + j, none⟩ = a.cells[j]? := fun j hj => (hb.cell (p := ⟨g, k * 7 + j, none⟩) hg).trans (hcs j hj)
  exact ⟨hcr 0 (by omega), hcr 1 (by omega), hcr 2 (by omega), hcr 3 (by omega), hcr 4 (by omega), hcr 5 (by omega), hcr 6 (by omega)⟩
theorem nd_later {w wr : World} {g cap : Nat} {l : List Nd} (h : w.ownsRow 0 171 11 (.slice (some ⟨g, 0, none⟩) l.length cap) l.length (ndCells l)) (hb : Below w.heap.size w wr) (hg : g < w.heap.size) {k : Nat} (hk : k < l.length) (a : Nd) (ha : a = l[k]'hk) :
    wr.cell? ⟨g, k * 11, none⟩ = some (.int .i64 (a.kind : Int)) ∧ wr.cell? ⟨g, k * 11 + 1, none⟩ = some (.int .i64 (a.pos : Int)) ∧ wr.cell? ⟨g, k * 11 + 2, none⟩ = some (.int .i64 (a.value : Int)) ∧ wr.cell? ⟨g, k * 11 + 3, none⟩ = some (.string a.name) ∧
    wr.cell? ⟨g, k * 11 + 4, none⟩ = some (.int .i64 a.decl) ∧ wr.cell? ⟨g, k * 11 + 5, none⟩ = some (.int .i64 (a.op : Int)) ∧ wr.cell? ⟨g, k * 11 + 6, none⟩ = some (.int .i64 (a.a : Int)) ∧ wr.cell? ⟨g, k * 11 + 7, none⟩ = some (.int .i64 (a.b : Int)) ∧
    wr.cell? ⟨g, k * 11 + 8, none⟩ = some (.int .i64 (a.c : Int)) ∧ wr.cell? ⟨g, k * 11 + 9, none⟩ = some (.bool a.delayed) ∧ wr.cell? ⟨g, k * 11 + 10, none⟩ = some (.bool a.behind) := by
  have hcs := ndAt_cells h hk
  rw [← ha] at hcs
  have hcr : ∀ j, j < 11 → wr.cell? ⟨g, k * 11 + j, none⟩ = a.cells[j]? := fun j hj => (hb.cell (p := ⟨g, k * 11 + j, none⟩) hg).trans (hcs j hj)
  exact ⟨hcr 0 (by omega), hcr 1 (by omega), hcr 2 (by omega), hcr 3 (by omega), hcr 4 (by omega), hcr 5 (by omega), hcr 6 (by omega), hcr 7 (by omega), hcr 8 (by omega), hcr 9 (by omega), hcr 10 (by omega)⟩
set_option maxHeartbeats 1000000 in
set_option maxRecDepth 100000 in
theorem tooMany_any (w : World) (q : Nat) (ds : List Dc) (ns : List Nd) (vd vn : Value) (h : ProgAt w q ds ns vd vn) (hdl : ds.length ≤ 1501) :
    Calls Try.prog 82 #[.pointer (some ⟨q, 0, none⟩)] w fun e w' => e = .returned (optVal (tooManyF ds)) ∧ Below w.heap.size w w' := by
  have c0 := h.c0
  obtain ⟨av, cap, rfl, hsh⟩ := own_shape h.decls
  have HO := hide h.decls
  have HSH := hide hsh
  clear h hsh
  go_enter Try.func82, Try.ntmps82
  go_wp2
  go_loopw [12] (fun i wr => ∃ k : Nat, k ≤ ds.length ∧ i = .int .i64 k ∧ Below w.heap.size w wr ∧ tooManyF (ds.drop k) = tooManyF ds) (fun i _ => ds.length - (intOf i).toNat)
  case atStart => exact ⟨0, Nat.zero_le _, rfl, Below.refl _ _, rfl⟩
  case round =>
    obtain ⟨k, hk, rfl, hbel, hrec⟩ := hrel
    by_cases hlt : k < ds.length
    · obtain ⟨g, rfl, _, hg2⟩ := HSH.out (by omega)
      rw [drop_at ds k hlt] at hrec
      obtain ⟨a, ha⟩ : ∃ a, a = ds[k]'hlt := ⟨_, rfl⟩
      rw [← ha] at hrec
      obtain ⟨x0, x1, x2, x3, x4, x5, x6⟩ := dc_later HO.out hbel hg2 hlt a ha
      have j1 : (0 : Int) ≤ (k : Int) := by omega
      have j2 : (k : Int) < (ds.length : Int) := by omega
      simp only [tooManyF] at hrec
      have HREC := hide hrec
      clear ha hrec c0
      by_cases hkd : a.kind = 0
      · have q0 : ((a.kind : Int) == 0) = true := by rw [hkd]; rfl
        have HM : Hid (most a = 4) := hide (by unfold most; rw [if_pos hkd])
        clear hkd
        by_cases hn : 4 ≤ a.number
        · have q1 : (4 : Int) ≤ (a.number : Int) := by omega
          go_wp2
          go_ret2
          exact ⟨opt_some (by rw [← HREC.out, HM.out, if_pos hn]), hbel.alloc hbel.size _⟩
        · have q1 : ¬ (4 : Int) ≤ (a.number : Int) := by omega
          go_wp2
          go_roundw
          case rel => exact ⟨k + 1, by omega, by go_num, hbel.alloc hbel.size _, by rw [← HREC.out, HM.out, if_neg hn]⟩
          case measure => simp [intOf]; omega
      · have q0 : ((a.kind : Int) == 0) = false := by rw [beq_eq_false_iff_ne]; omega
        have HM : Hid (most a = 12) := hide (by unfold most; rw [if_neg hkd])
        clear hkd
        by_cases hn : 12 ≤ a.number
        · have q1 : (12 : Int) ≤ (a.number : Int) := by omega
          go_wp2
          go_ret2
          exact ⟨opt_some (by rw [← HREC.out, HM.out, if_pos hn]), hbel.alloc hbel.size _⟩
        · have q1 : ¬ (12 : Int) ≤ (a.number : Int) := by omega
          go_wp2
          go_roundw
          case rel => exact ⟨k + 1, by omega, by go_num, hbel.alloc hbel.size _, by rw [← HREC.out, HM.out, if_neg hn]⟩
          case measure => simp [intOf]; omega
    · have HF : Hid (tooManyF ds = none) := hide (by rw [← hrec, List.drop_of_length_le (by omega)]; rfl)
      clear hrec
      go_wp2
      go_ret2
      exact ⟨opt_none HF.out, hbel⟩
set_option maxHeartbeats 400000 in
theorem takesTruths_any (op : Nat) (w : World) : Calls Try.prog 112 #[.int .i64 (op : Int)] w fun e w' => e = .returned (.bool (takesT op)) ∧ w = w' := by
  by_cases h1 : op = 11
  · have HF : Hid (takesT op = true) := hide (by rw [h1]; rfl)
    have q1 : ((op : Int) == 11) = true := by rw [h1]; rfl
    clear h1
    go_enter Try.func112, Try.ntmps112
    go_wp2
    go_ret
    exact ⟨by rw [HF.out]; rfl, rfl⟩
  · have q1 : ((op : Int) == 11) = false := by rw [beq_eq_false_iff_ne]; omega
    by_cases h2 : op = 12
    · have HF : Hid (takesT op = true) := hide (by rw [h2]; rfl)
      have q2 : ((op : Int) == 12) = true := by rw [h2]; rfl
      clear h1 h2
      go_enter Try.func112, Try.ntmps112
      go_wp2
      go_ret
      exact ⟨by rw [HF.out]; rfl, rfl⟩
    · have HF : Hid (takesT op = false) := hide (by simp [takesT, h1, h2])
      have q2 : ((op : Int) == 12) = false := by rw [beq_eq_false_iff_ne]; omega
      clear h1 h2
      go_enter Try.func112, Try.ntmps112
      go_wp2
      go_ret
      exact ⟨by rw [HF.out]; rfl, rfl⟩
set_option maxHeartbeats 400000 in
theorem makesTruth_any (op : Nat) (w : World) : Calls Try.prog 132 #[.int .i64 (op : Int)] w fun e w' => e = .returned (.bool (makesT op)) ∧ w = w' := by
  by_cases h1 : op = 9
  · have HF : Hid (makesT op = true) := hide (by rw [h1]; rfl)
    have q1 : ((op : Int) == 9) = true := by rw [h1]; rfl
    clear h1
    go_enter Try.func132, Try.ntmps132
    go_wp2
    go_ret
    exact ⟨by rw [HF.out]; rfl, rfl⟩
  · have q1 : ((op : Int) == 9) = false := by rw [beq_eq_false_iff_ne]; omega
    by_cases h2 : op = 10
    · have HF : Hid (makesT op = true) := hide (by rw [h2]; rfl)
      have q2 : ((op : Int) == 10) = true := by rw [h2]; rfl
      clear h1 h2
      go_enter Try.func132, Try.ntmps132
      go_wp2
      go_ret
      exact ⟨by rw [HF.out]; rfl, rfl⟩
    · have HF : Hid (makesT op = takesT op) := hide (by simp [makesT, h1, h2])
      have q2 : ((op : Int) == 10) = false := by rw [beq_eq_false_iff_ne]; omega
      clear h1 h2
      go_enter Try.func132, Try.ntmps132
      go_wp2_with (go_at_call 112; refine (takesTruths_any _ _).mono ?_; rintro e w' ⟨rfl, rfl⟩)
      go_ret
      exact ⟨by rw [HF.out]; rfl, rfl⟩
end Go.Proofs.Ytmndgoapkmhglab
namespace Go.Proofs.Ytmndgoapkmhglab
open Go.RowKit
attribute [local go_sem ↓] Go.wp_at_zero Go.wp_at_succ
set_option maxHeartbeats 1000000 in
set_option maxRecDepth 100000 in
theorem fits_any (w : World) (q : Nat) (ds : List Dc) (ns : List Nd) (vd vn : Value) (h : ProgAt w q ds ns vd vn) (n : Nd) (truth : Bool) (hk : n.kind ≤ 6) (hd : n.kind = 2 → 0 ≤ n.decl ∧ n.decl < (ds.length : Int)) :
    Calls Try.prog 111 #[.pointer (some ⟨q, 0, none⟩), n.val, .bool truth] w fun e w' => e = .returned (.bool (fitsF ds n truth)) ∧ Below w.heap.size w w' := by
  have hc : n.kind = 0 ∨ n.kind = 1 ∨ n.kind = 2 ∨ n.kind = 3 ∨ n.kind = 4 ∨ n.kind = 5 ∨ n.kind = 6 := by omega
  clear hk
  rcases hc with hk | hk | hk | hk | hk | hk | hk
  · have HF : Hid (fitsF ds n truth = !truth) := hide (by unfold fitsF; rw [if_pos hk])
    have q0 : ((n.kind : Int) == 0) = true := by rw [hk]; rfl
    clear hk hd h
    go_enter Try.func111, Try.ntmps111
    go_wp2
    go_ret
    exact ⟨by rw [HF.out]; rfl, (Below.refl _ _).alloc (Nat.le_refl _) _⟩
  · have HF : Hid (fitsF ds n truth = truth) := hide (by unfold fitsF; rw [if_neg (by omega), if_pos (.inl hk)])
    have q0 : ((n.kind : Int) == 0) = false := by rw [hk]; rfl
    have q1 : ((n.kind : Int) == 1) = true := by rw [hk]; rfl
    clear hk hd h
    go_enter Try.func111, Try.ntmps111
    go_wp2
    go_ret
    exact ⟨by rw [HF.out]; rfl, (Below.refl _ _).alloc (Nat.le_refl _) _⟩
  · obtain ⟨hd1, hd2⟩ := hd hk
    obtain ⟨d, hdd⟩ : ∃ d : Nat, n.decl = (d : Int) := ⟨n.decl.toNat, by omega⟩
    have hdl : d < ds.length := by omega
    obtain ⟨a, ha⟩ : ∃ a, a = ds[d]'hdl := ⟨_, rfl⟩
    have hka : kindAt ds n.decl = a.kind := by unfold kindAt; rw [hdd, ha]; simp [hdl]
    have HF : Hid (fitsF ds n truth = (truth == (a.kind == 2))) := hide (by unfold fitsF; rw [if_neg (by omega), if_neg (by omega), if_pos hk, hka])
    have q0 : ((n.kind : Int) == 0) = false := by rw [hk]; rfl
    have q1 : ((n.kind : Int) == 1) = false := by rw [hk]; rfl
    have q3 : ((n.kind : Int) == 3) = false := by rw [hk]; rfl
    have q2 : ((n.kind : Int) == 2) = true := by rw [hk]; rfl
    have c0 : ∀ o, (w.alloc o).cell? ⟨q, 0, none⟩ = some vd := fun o => (World.cell?_alloc_past _ _ _ h.lt).trans h.c0
    obtain ⟨av, cap, rfl, hsh⟩ := own_shape h.decls
    obtain ⟨g, rfl, _, hg2⟩ := hsh (by omega)
    have x0 : ∀ o, (w.alloc o).cell? ⟨g, d * 7, none⟩ = some (.int .i64 (a.kind : Int)) := fun o => (dc_later h.decls ((Below.refl _ _).alloc (Nat.le_refl _) o) hg2 hdl a ha).1
    have j1 : (0 : Int) ≤ (d : Int) := by omega
    have j2 : (d : Int) < (ds.length : Int) := by omega
    obtain ⟨nk, np, nv, nn, nde, no, na, nb, nc, ndl, nbh⟩ := n
    simp only at hdd hk q0 q1 q2 q3
    subst hdd
    have hkk : ((a.kind : Int) == 2) = (a.kind == 2) := by
      by_cases e : a.kind = 2
      · rw [e]; rfl
      · have e1 : ((a.kind : Int) == 2) = false := by rw [beq_eq_false_iff_ne]; omega
        have e2 : (a.kind == 2) = false := by simpa using e
        rw [e1, e2]
    clear hk hd h hd1 hd2 ha hka hsh
    go_enter Try.func111, Try.ntmps111
    go_wp2_with fail
    go_quiet (fail)
    go_wp2
    go_ret
    exact ⟨by rw [HF.out]; rfl, below_drewN ((Below.refl _ _).alloc (Nat.le_refl _) _) _⟩
  · have HF : Hid (fitsF ds n truth = truth) := hide (by unfold fitsF; rw [if_neg (by omega), if_pos (.inr hk)])
    have q0 : ((n.kind : Int) == 0) = false := by rw [hk]; rfl
    have q1 : ((n.kind : Int) == 1) = false := by rw [hk]; rfl
    have q3 : ((n.kind : Int) == 3) = true := by rw [hk]; rfl
    clear hk hd h
    go_enter Try.func111, Try.ntmps111
    go_wp2
    go_ret
    exact ⟨by rw [HF.out]; rfl, (Below.refl _ _).alloc (Nat.le_refl _) _⟩
  · have HF : Hid (fitsF ds n truth = true) := hide (by unfold fitsF; rw [if_neg (by omega), if_neg (by omega), if_neg (by omega), if_neg (by omega)])
    have q0 : ((n.kind : Int) == 0) = false := by rw [hk]; rfl
    have q1 : ((n.kind : Int) == 1) = false := by rw [hk]; rfl
    have q3 : ((n.kind : Int) == 3) = false := by rw [hk]; rfl
    have q2 : ((n.kind : Int) == 2) = false := by rw [hk]; rfl
    have q6 : ((n.kind : Int) == 6) = false := by rw [hk]; rfl
    clear hk hd h
    go_enter Try.func111, Try.ntmps111
    go_wp2
    go_ret
    exact ⟨by rw [HF.out]; rfl, (Below.refl _ _).alloc (Nat.le_refl _) _⟩
  · have HF : Hid (fitsF ds n truth = true) := hide (by unfold fitsF; rw [if_neg (by omega), if_neg (by omega), if_neg (by omega), if_neg (by omega)])
    have q0 : ((n.kind : Int) == 0) = false := by rw [hk]; rfl
    have q1 : ((n.kind : Int) == 1) = false := by rw [hk]; rfl
    have q3 : ((n.kind : Int) == 3) = false := by rw [hk]; rfl
    have q2 : ((n.kind : Int) == 2) = false := by rw [hk]; rfl
    have q6 : ((n.kind : Int) == 6) = false := by rw [hk]; rfl
    clear hk hd h
    go_enter Try.func111, Try.ntmps111
    go_wp2
    go_ret
    exact ⟨by rw [HF.out]; rfl, (Below.refl _ _).alloc (Nat.le_refl _) _⟩
  · have HF : Hid (fitsF ds n truth = (truth == makesT n.op)) := hide (by unfold fitsF; rw [if_neg (by omega), if_neg (by omega), if_neg (by omega), if_pos hk])
    have q0 : ((n.kind : Int) == 0) = false := by rw [hk]; rfl
    have q1 : ((n.kind : Int) == 1) = false := by rw [hk]; rfl
    have q3 : ((n.kind : Int) == 3) = false := by rw [hk]; rfl
    have q2 : ((n.kind : Int) == 2) = false := by rw [hk]; rfl
    have q6 : ((n.kind : Int) == 6) = true := by rw [hk]; rfl
    clear hk hd h
    go_enter Try.func111, Try.ntmps111
    go_wp2_with (go_at_call 132; refine (makesTruth_any _ _).mono ?_; rintro e w' ⟨rfl, rfl⟩)
    go_ret
    exact ⟨by rw [HF.out]; rfl, (Below.refl _ _).alloc (Nat.le_refl _) _⟩
theorem seg_nil (ns : List Nd) : seg ns 0 0 = [] := by simp [seg]
theorem seg_drop (ns : List Nd) (a b k : Nat) (h : a + k < b) (hb : b ≤ ns.length) : (seg ns a b).drop k = (ns[a + k]'(by omega)) :: (seg ns a b).drop (k + 1) := by
  have hl : (seg ns a b).length = b - a := by simp [seg]; omega
  rw [drop_at _ k (by omega)]
  congr 1
  simp [seg]
theorem seg_len (ns : List Nd) (a b : Nat) (hb : b ≤ ns.length) : (seg ns a b).length = b - a := by simp [seg]; omega
theorem nd_seg {w wr : World} {g cap : Nat} {l : List Nd} (h : w.ownsRow 0 171 11 (.slice (some ⟨g, 0, none⟩) l.length cap) l.length (ndCells l)) (hb : Below w.heap.size w wr) (hg : g < w.heap.size) (r m : Nat) (hk : r + m < l.length) (a : Nd) (ha : a = l[r + m]'hk) :
    wr.cell? ⟨g, r * 11 + m * 11, none⟩ = some (.int .i64 (a.kind : Int)) ∧ wr.cell? ⟨g, r * 11 + m * 11 + 1, none⟩ = some (.int .i64 (a.pos : Int)) ∧ wr.cell? ⟨g, r * 11 + m * 11 + 2, none⟩ = some (.int .i64 (a.value : Int)) ∧ wr.cell? ⟨g, r * 11 + m * 11 + 3, none⟩ = some (.string a.name) ∧
    wr.cell? ⟨g, r * 11 + m * 11 + 4, none⟩ = some (.int .i64 a.decl) ∧ wr.cell? ⟨g, r * 11 + m * 11 + 5, none⟩ = some (.int .i64 (a.op : Int)) ∧ wr.cell? ⟨g, r * 11 + m * 11 + 6, none⟩ = some (.int .i64 (a.a : Int)) ∧ wr.cell? ⟨g, r * 11 + m * 11 + 7, none⟩ = some (.int .i64 (a.b : Int)) ∧
    wr.cell? ⟨g, r * 11 + m * 11 + 8, none⟩ = some (.int .i64 (a.c : Int)) ∧ wr.cell? ⟨g, r * 11 + m * 11 + 9, none⟩ = some (.bool a.delayed) ∧ wr.cell? ⟨g, r * 11 + m * 11 + 10, none⟩ = some (.bool a.behind) := by
  have e : (r + m) * 11 = r * 11 + m * 11 := Nat.add_mul _ _ _
  have := nd_later h hb hg hk a ha
  rw [e] at this
  exact this
set_option maxHeartbeats 2000000 in
set_option maxRecDepth 100000 in
theorem badName_any (w : World) (q : Nat) (ds : List Dc) (ns : List Nd) (vd vn : Value) (h : ProgAt w q ds ns vd vn) (hwf : ProgWf ds ns) :
    Calls Try.prog 83 #[.pointer (some ⟨q, 0, none⟩)] w fun e w' => e = .returned (optVal (badNameF ds ns 0 ds)) ∧ Below w.heap.size w w' := by
  have hdl := hwf.dl
  have hnl := hwf.nl
  have c0 := h.c0
  obtain ⟨av, cap, rfl, hsh⟩ := own_shape h.decls
  obtain ⟨an, capn, rfl, hshn⟩ := own_shape h.nodes
  have HSH := hide hsh
  have HSHN := hide hshn
  have HP := hide h
  have HWF := hide hwf
  clear h hsh hwf hshn
  go_enter Try.func83, Try.ntmps83
  go_wp2
  go_loopw [13] (fun i wr => ∃ k : Nat, k ≤ ds.length ∧ i = .int .i64 k ∧ Below w.heap.size w wr ∧ badNameF ds ns k (ds.drop k) = badNameF ds ns 0 ds) (fun i _ => ds.length - (intOf i).toNat)
  case atStart => exact ⟨0, Nat.zero_le _, rfl, Below.refl _ _, rfl⟩
  case round =>
    obtain ⟨k, hk, rfl, hbel, hrec⟩ := hrel
    by_cases hlt : k < ds.length
    · obtain ⟨g, rfl, _, hg2⟩ := HSH.out (by omega)
      rw [drop_at ds k hlt] at hrec
      obtain ⟨a, ha⟩ : ∃ a, a = ds[k]'hlt := ⟨_, rfl⟩
      rw [← ha] at hrec
      obtain ⟨x0, x1, x2, x3, x4, x5, x6⟩ := dc_later HP.out.decls hbel hg2 hlt a ha
      have hseg := HWF.out.segs a (by rw [ha]; exact List.getElem_mem hlt)
      have j1 : (0 : Int) ≤ (k : Int) := by omega
      have j2 : (k : Int) < (ds.length : Int) := by omega
      simp only [badNameF] at hrec
      have HREC := hide hrec
      have HSEG := hide hseg
      have hPr := HP.out.below hbel
      clear ha hrec c0 hseg
      go_wp2_with fail
      refine (find_any _ q 0 ds (.slice (some ⟨g, 0, none⟩) ds.length cap) a.name ?_ ?_ hdl).mono ?_
      · exact (hPr.below ((Below.refl _ _).alloc (Nat.le_refl _) _)).c0
      · exact (hPr.below ((Below.refl _ _).alloc (Nat.le_refl _) _)).decls
      rintro e w2 ⟨rfl, hb2⟩
      have hb02 : Below w.heap.size w w2 := (hbel.alloc hbel.size _).trans (hb2.mono (by have := hbel.size; simp; omega))
      have hN2 : w2.heap[wr.heap.size]? = some (.cells #[.int .i64 (a.kind : Int), .int .i64 (a.number : Int), .string a.name, .int .i64 (a.pos : Int), .int .i64 (a.place : Int), .int .i64 (a.root : Int), .int .i64 (a.fin : Int)] 126) := (hb2.block _ (by simp)).trans (heap_alloc_new wr _)
      have d3 := cell_of_row w2 wr.heap.size 3 _ _ _ hN2
      have d5 := cell_of_row w2 wr.heap.size 5 _ _ _ hN2
      have d6 := cell_of_row w2 wr.heap.size 6 _ _ _ hN2
      simp at d3 d5 d6
      clear x0 x1 x2 x3 x4 x5 x6 hb2 hPr hN2 hbel
      by_cases hf : findF ds a.name = (k : Int)
      · have q1 : (findF ds a.name != (k : Int)) = false := by rw [hf]; simp
        have HREC2 : Hid ((match badNodeF (seg ns a.root a.fin) with | some a => some a | none => badNameF ds ns (k + 1) (ds.drop (k + 1))) = badNameF ds ns 0 ds) := hide (by rw [← HREC.out, if_neg (by simp [hf])]; rfl)
        clear HREC hf
        have c1 := (HP.out.below hb02).c1
        rcases HSEG.out with ⟨hs1, hs2, _⟩ | ⟨hs1, hs2⟩
        · rw [hs1] at d5 HREC2
          rw [hs2] at d6 HREC2
          rw [seg_nil] at HREC2
          go_wp2_with fail
          go_quiet (fail)
          go_wp2
          go_loopw [36] (fun i wx => i = .int .i64 0 ∧ Below w.heap.size w wx) (fun _ _ => 0)
          case atStart => exact ⟨rfl, below_drewN hb02 _⟩
          case round =>
            obtain ⟨rfl, hbx⟩ := hrel
            go_wp2
            go_roundw
            case rel => exact ⟨k + 1, by omega, by go_num, hbx, by rw [← HREC2.out]; rfl⟩
            case measure => simp [intOf]; omega
        · obtain ⟨gn, rfl, _, hgn⟩ := HSHN.out (by omega)
          have hcn : ns.length ≤ capn := by
            rcases HP.out.nodes.2 with ⟨h0, _⟩ | ⟨_, c', _, h1, _, _, h2, _⟩
            · cases h0
            · cases h1; exact h2
          have i1 : (0 : Int) ≤ (a.root : Int) := by omega
          have i2 : (a.root : Int) ≤ (a.fin : Int) := by omega
          have i3 : (a.fin : Int) ≤ (capn : Int) := by omega
          have i4 : (a.root : Int) < (capn : Int) := by omega
          go_wp2_with fail
          go_quiet (fail)
          go_wp2
          go_loopw [36] (fun i wx => ∃ m : Nat, m ≤ a.fin - a.root ∧ i = .int .i64 m ∧ Below w.heap.size w wx ∧ badNodeF ((seg ns a.root a.fin).drop m) = badNodeF (seg ns a.root a.fin)) (fun i _ => (a.fin - a.root) - (intOf i).toNat)
          case atStart => exact ⟨0, Nat.zero_le _, rfl, below_drewN hb02 _, rfl⟩
          case round =>
            clear hb02 d3 d5 d6 c1
            obtain ⟨m, hm, rfl, hbx, hrb⟩ := hrel
            by_cases hml : m < a.fin - a.root
            · have hrm : a.root + m < ns.length := by omega
              obtain ⟨b, hb⟩ : ∃ b, b = ns[a.root + m]'hrm := ⟨_, rfl⟩
              rw [seg_drop ns a.root a.fin m (by omega) hs2, ← hb] at hrb
              obtain ⟨y0, y1, y2, y3, y4, y5, y6, y7, y8, y9, y10⟩ := nd_seg HP.out.nodes hbx hgn a.root m hrm b hb
              have i5 : (0 : Int) ≤ (m : Int) := by omega
              have i6 : (m : Int) < ((a.fin - a.root : Nat) : Int) := by omega
              simp only [badNodeF] at hrb
              have HRB := hide hrb
              clear hrb hb
              by_cases hk2 : b.kind = 2
              · have q2 : ((b.kind : Int) == 2) = true := by rw [hk2]; rfl
                by_cases hd0 : b.decl < 0
                · have HF : Hid (badNameF ds ns 0 ds = some b.pos) := hide (by rw [← HREC2.out, ← HRB.out, if_pos ⟨hk2, hd0⟩])
                  clear hk2
                  go_wp2
                  go_ret2
                  exact ⟨opt_some HF.out, hbx.alloc hbx.size _⟩
                · have HF : Hid (badNodeF ((seg ns a.root a.fin).drop (m + 1)) = badNodeF (seg ns a.root a.fin)) := hide (by rw [← HRB.out, if_neg (fun h => hd0 h.2)])
                  clear hk2
                  go_wp2
                  go_roundw
                  case rel => exact ⟨m + 1, by omega, by go_num, hbx.alloc hbx.size _, HF.out⟩
                  case measure => simp [intOf]; omega
              · have q2 : ((b.kind : Int) == 2) = false := by rw [beq_eq_false_iff_ne]; omega
                have HF : Hid (badNodeF ((seg ns a.root a.fin).drop (m + 1)) = badNodeF (seg ns a.root a.fin)) := hide (by rw [← HRB.out, if_neg (fun h => hk2 h.1)])
                clear hk2
                go_wp2
                go_roundw
                case rel => exact ⟨m + 1, by omega, by go_num, hbx.alloc hbx.size _, HF.out⟩
                case measure => simp [intOf]; omega
            · have HF : Hid (badNodeF (seg ns a.root a.fin) = none) := hide (by rw [← hrb, List.drop_of_length_le (by rw [seg_len ns a.root a.fin hs2]; omega)]; rfl)
              clear hrb
              go_wp2
              go_roundw
              case rel => exact ⟨k + 1, by omega, by go_num, hbx, by rw [← HREC2.out, HF.out]⟩
              case measure => simp [intOf]; omega
      · have q1 : (findF ds a.name != (k : Int)) = true := by rw [bne_iff_ne]; exact hf
        have HF : Hid (badNameF ds ns 0 ds = some a.pos) := hide (by rw [← HREC.out, if_pos hf])
        clear HREC hf
        go_wp2
        go_ret2
        exact ⟨opt_some HF.out, hb02⟩
    · have HF : Hid (badNameF ds ns 0 ds = none) := hide (by rw [← hrec, List.drop_of_length_le (by omega)]; rfl)
      clear hrec
      go_wp2
      go_ret2
      exact ⟨opt_none HF.out, hbel⟩
end Go.Proofs.Ytmndgoapkmhglab
